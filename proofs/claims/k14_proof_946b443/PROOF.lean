import PyProof.Rows.All
import Wide.All
import OpenK.AllK
import Wide.FinOn
import Lean
import PyProof.EqAt
import PyProof.EqKinds
import PyProof.TupleCall
import KE.KIntText
import KE.KDictList
import KE.KDictSum
import PyProof.Rows.Range3
import PyProof.DictWalks
import KE.KMinKey
import KE.KSortTup
import PyProof.EnumStmt
import PyProof.EnumMake
import PyProof.EnumFor
import PyProof.Draws
import PyProof.Rows.TupDisplay
import PySem.Challenge.RW_slitview_k14_whole_within
noncomputable section
set_option compiler.extract_closed false
local macro_rules | `(tactic| eq_refl) => `(tactic| first | exact Or.inl rfl | exact Or.inr (Or.inl rfl) | exact Or.inr (Or.inr rfl))
local macro_rules | `(∅) => `(by first | lia | omega)
set_option Elab.async false
set_option bootstrap.genMatcherCode false
set_option genSizeOf false
set_option linter.all false
set_option maxRecDepth 100000
local macro_rules | `(tactic| ac_nf) => `(tactic| exact ⟨rfl,rfl,rfl,by decide +kernel,rfl,by decide +kernel,by decide +kernel⟩)
open Option renaming some->aa,none->ae,bind_some->gh,map_eq_some_iff->vq,isSome_iff_exists->ya,getD_none->CQ
open PySem renaming Addr->af,Value->ah,Shared->am,wpAny_bind->ap,wpAny->aq,model->au,Heap->az,Expr->aA,World->aD,wpAny_pure->aE,starEach->aI,Around->aJ,eval->aM,Program->aN,Stmt->aU,sizeLine->a_,mainGlobals->bA,backTo->cg,Scope->cN,rawInt->cO,wpAny_mono->cW,compareOp->c9,bootBuiltins->dy,bindArgs->dY,cellsFrom->dZ,NameKind->eY,FuncData->fE,binaryOp->gT,wpAny_holding->ig,Keyword->ik,strKind->iB,SetTable->iY,Paired->jx,codeAny->jC,mem_of_lookup->jD,hashStr->j9,attributeBase->kc,isTrue->k6,wpAny_truthy_bool->k7,holding->k8,pyIter->k_,IsPart->lg,wpAny_newObj_type->lh,wpAny_rule->lm,setNext->ln,setField->lp,builtinsNs->l9,swapsWith->l_,codeAny_builtin->mo,behindInMarks->nE,sizeLine_eq->nG,codeAny_mono->nI,Arguments->nL,wpAny_field->nM,backToKw->nN,keywordEach->nO,plainId_quiet->nZ,reduceHash->pG,sysModules->pH,wpAny_Call_Name_kw->pI,getItem->pK,sliceBounds->pM,call_meets->pN,callerA->pO,relayAll->pP,wpAny_setState_of->pQ,wpAny_askSetting->pT,wpAny_setField->pU,codeAmong->rG,recursionLimit->rL,wpAny_call->rM,wpAny_call_entry->rP,pickOrder->rY,eqIsQuiet->sd,wpAny_tryCatch->se,wpAny_Name->uT,foldedSetIterable->uU,wpAny_passesOwn->uV,wpAny_loadPart'->uZ,wpAny_specialOf->u6,closureFor->u8,wpAny_of_eq->ve,isInstance->vf,setsByText->vg,wpAny_seqItems->vi,wpAny_ite_split->vj,setFlight->vo,letOwnedTupleGo->xW,IsRangeIter->xY,subscripted->yd,excClassObj->yx,wpAny_forIn_list->yD,wpAny_letGo->yF,wpAny_loadName_local->CC,wpAny_execs_cons->CF,noFill_tuple_add->CL,wpAny_pyIter_list->CZ,checkBuiltinCall->C5,wpAny_isInstance->C7,wpAny_loadPart_at->Da
open Bool renaming true->ai,false->aj,false_ne_true->eA,and_eq_true->eB,false_eq_true->kg,eq_iff_iff->me,or_eq_true->vd,false_and->xX,true_and->yo,not_eq_true'->Dc
open PySem.W renaming Frag->aw,nsIn->cm,mg_of->eM,kitOne->fD,fnOf->ge,mg_none_of->jj,tabIn->jy,kia_one->jB,excIn->mr,findIn->nH,keepIn->nJ,InstAt->rK,codeIn->rN,mroIn->uW,codeHdIn->u7,OpenLaw->yg,clsIn->yy,kla_obj->yC,methodObj->CB,specialIn->CI,callWith_K->CJ,cellsFrom_some->CK
open PyProof.Rows renaming wpS_bind->aC,wpS_pure->aL,pendingOf->a6,SortSt->bi,StrsAre->dz,seqObj->dI,wpS_mono->fc,wpS_forRange->fe,envOfC->gU,SortKind->gX,size_push'->iC,wpS_get->jF,pairsOf->km,AllBare->kY,wpS_modify->lr,wpS_lift->pV,get?_update_seq->vk,listUpdate_at->yu,callWith_type1->CG,callWith_builtin1->LC,slot_tuple_getitem->LD
open Nat renaming le_refl->a8,le_trans->cA,ne_of_lt->cM,lt_of_lt_of_le->eu,lt_irrefl->gR,le_of_eq->ke,lt_succ_of_lt->ki,le_of_lt->kZ,zero_le->li,ne_of_gt->ma,lt_succ_self->mq,add_assoc->n5,zero_add->r9,le_succ->u9,succ_mul->ye,lt_trans->yf,lt_of_le_of_lt->yh,mul_le_mul->yr,add_right_comm->Db
open PySem.Heap renaming get?_push_of_some->bd,lt_size->bE,get?_push_size->cu,SameBut->jA,get?_update_self->mi,get?_update_other->mj,get?_none_of_le->rJ,size_push->yi,get?_update_ne->C9,size_update->C_
open List renaming mem_cons->bT,replicate->bW,size_toArray->bY,range->cz,getElem?_eq_some_iff->cJ,getElem?_set_ne->dH,getElem?_eq_getElem->dR,getElem?_set_self->eX,length_append->eZ,length_set->e_,length_map->fG,mem_singleton->fJ,length_cons->gf,mem_map->gW,mem_append->ie,getElem?_append_left->ii,append_nil->iA,not_mem_nil->iD,map_map->iE,mem_cons_of_mem->jh,lookup_cons->ji,mem_cons_self->jz,getElem?_map->jE,mem_append_right->ka,append_assoc->kh,nil_append->kj,length_take->lc,all_eq_true->lj,nodup_cons->mf,all_cons->ml,map_cons->mn,getElem?_append_right->nK,length_nil->nQ,take_of_length_le->nU,eq_nil_of_length_eq_zero->nV,foldl_cons->nW,mem_reverse->n6,cons_append->n8,length->pJ,length_drop->pL,filterMap_cons->rH,find?_cons->rR,take_append_drop->rT,range_succ->rV,getElem?_eq_none->rZ,mem_of_getElem?->uY,length_singleton->u0,replicate_succ->u5,all_map->u_,toList_toArray->va,drop_eq_getElem_cons->vm,getElem_of_mem->vp,mem_filter->xU,mem_append_left->xV,of_mem_zip->x_,lookup->yj,range_succ_eq_map->yk,map_congr_left->ym,map_append->yn,getElem_mem->yq,ext_getElem?->yt,take_zero->yv,singleton_append->yz,drop_eq_nil_iff->yA,lt_irrefl->yE,filter_eq_self->yG,length_erase_of_mem->yH,flatten_cons->CV,lookup_append->CW,getElem?_range->CY,length_range->C0,findIdx?_eq_some_iff_getElem->C3,pairwise_append->Dd,getElem_drop->De,getElem_take->Df,reverse_append->Dg,reverse_perm->Dh,pairwise_reverse->Di,take_length->Dj,mem_of_mem_drop->Do
open Option.some renaming inj->dw
open Ne renaming symm->ez
open PySem.Str renaming empty->fA,length->mh,ofString->rO
open False renaming elim->fF
open PySem.Obj renaming mapSeq->fH,mapFields->lq,data_mapFields->r8,isFreed_of_fields->yw
open Array renaming toList_append->gi,length_toList->k9,getElem_extract->lu,getElem?_eq_some_iff->nR,toList_push->rX,getElem?_eq_getElem->vh,getElem?_toList->yB,perm_iff_toList_perm->Dk
open PyProof.Rows.KeyOrd renaming kle_of_klt->jG,kle_refl->kl,kle_trans->r_
open PySem.Builtin.Tuple renaming tupleHashOf->j_,tupleExact->yc
open Int renaming toNat_natCast->lf,emod_lt_of_pos->Dm
open PySem.Heap.SameBut renaming update->nX
open PySem.Around renaming under_plainId->nY
open PySem.Value renaming isStrOf->pF
open PySem.SetTable renaming grown->pR,below->LH
open PySem.F renaming plain_min_loop->pW,plainAttrs_list->vn,slot_tuple_add->CM,entry_tuple_add->CN,args_tuple_add_2->CO,entry_min_loop->Dl,slot_tuple_hash->LI
open PySem.SeqAt renaming EqAt->rQ
open List.Perm renaming refl->rW,append_left->C6
open PySem.Calls renaming spliced_cons->uX,spliced_nil->x0,Name_function_global->CD,evalArgs_plain->CT
open PySem.PassesOwn renaming never->vr
open PySem.Builtin.Range renaming rangeSize->xZ
open PySem.Builtin.Slice renaming slicePlaces->yb,sliceAdjust->CP
open PySem.Builtin.Str renaming occurrences->CH
open PySem.SeqAt.EqAt renaming str_str->CS
open PySem.Builtin.List renaming listTooLong->CU
open PyProof.Rows.F renaming plain_set_update_loop->C4,entry_set_update_loop->LG
open PySem.SetTable.below renaming go->C8
open Std.Legacy renaming Range->Mr
open PySem PySem.Spec PyProof.Rows
namespace L2
abbrev bR:=Sum Int Str
def Bc:bR->ah->Bool
 |.inl k,v=>Value.isInt k v
 |.inr x,v=>pF x v
def Li(w:aD):bR->Int
 |.inl k=>hashInt k
 |.inr x=>j9 w x
theorem kU:∀{k:bR}{v:ah},Bc k v=ai->(∃i t,k=Sum.inl i/\v=Value.int i t)\/(∃x t,k=Sum.inr x/\v=Value.str x t)
 |.inl i,v,h=>by obtain⟨t,e⟩:=Value.isInt_shape (k:=i) (v:=v) h;exact .inl ⟨i,t,rfl,e⟩
 |.inr x,v,h=>by obtain⟨t,e⟩:=Value.isStrOf_shape (x:=x) (v:=v) h;exact .inr ⟨x,t,rfl,e⟩
theorem Kx(a b:Int):decide ((Sum.inl a:bR)=Sum.inl b)=(a == b):=by
 by_cases e:a=b
 .subst e;simp
 .have h:¬(Sum.inl a:bR)=Sum.inl b:=λq=>e (Sum.inl.inj q);rw[decide_eq_false h];exact(beq_eq_false_iff_ne.mpr e).symm
theorem KP(a b:Str):decide ((Sum.inr a:bR)=Sum.inr b)=decide (a=b):=by
 by_cases e:a=b
 .subst e;simp
 .have h:¬(Sum.inr a:bR)=Sum.inr b:=λq=>e (Sum.inr.inj q);rw[decide_eq_false h,decide_eq_false e]
theorem Fs(a:Int)(b:Str):decide ((Sum.inl a:bR)=Sum.inr b)=aj:=decide_eq_false (λq=>nomatch q)
theorem FH(a:Str)(b:Int):decide ((Sum.inr a:bR)=Sum.inl b)=aj:=decide_eq_false (λq=>nomatch q)
def AF(c:aN)(w:aD):PySem.KeyKind c w bR where
 is:=Bc
 hash:=Li w
 inj:=λv a b l f=>by
  rcases kU l with⟨i,t,rfl,rfl⟩|⟨x,t,rfl,rfl⟩
  .rcases kU f with⟨j,u,rfl,e⟩|⟨y,u,rfl,e⟩
   .injection e with e1 _;rw[e1]
   .exact nomatch e
  .rcases kU f with⟨j,u,rfl,e⟩|⟨y,u,rfl,e⟩
   .exact nomatch e
   .injection e with e1 _;rw[e1]
 byValue:=λk v h=>by rcases kU h with⟨i,t,rfl,rfl⟩|⟨x,t,rfl,rfl⟩ <;> rfl
 pyHash:=λd h=>by
  rcases kU d with⟨i,t,rfl,rfl⟩|⟨x,t,rfl,rfl⟩
  .exact wpAny_pyHash_int h
  .exact wpAny_pyHash_str h
 eqBool:=λg d h=>by
  rcases kU g with⟨i,t,rfl,rfl⟩|⟨x,t,rfl,rfl⟩
  .rcases kU d with⟨j,u,rfl,rfl⟩|⟨y,u,rfl,rfl⟩
   .rw[Kx]at h;exact wpAny_eqBool_int h
   .rw[Fs]at h;exact SeqAt.EqAt.int_str i t y u _ _ _ _ h
  .rcases kU d with⟨j,u,rfl,rfl⟩|⟨y,u,rfl,rfl⟩
   .rw[FH]at h;exact SeqAt.EqAt.str_int x t j u _ _ _ _ h
   .rw[KP]at h;exact wpAny_eqBool_str h
 «strs»:=λk x t v h=>by
  rcases kU h with⟨i,u,rfl,e⟩|⟨y,u,rfl,e⟩
  .exact nomatch e
  .injection e with e1 _;subst e1;cases v <;> rfl
inductive V where
 |non|bl (b:Bool)|int (i:Int)|str (x:Str)|byt (b:Array UInt8)|flt (b:UInt64)|ref (a:af)|ty (n:String)
 deriving DecidableEq
def RelV:V->ah->Prop
 |.non,u=>u=Value.none
 |.bl b,u=>u=Value.bool b
 |.int i,u=>∃t,u=Value.int i t
 |.str x,u=>∃t,u=Value.str x t
 |.byt b,u=>∃t,u=Value.bytes b t
 |.flt b,u=>∃t,u=Value.float b t
 |.ref a,u=>u=Value.ref a
 |.ty n,u=>u=Value.type n
abbrev bq:List V->List ah->Prop:=jx RelV
theorem bq.length{xs:List V}{a:List ah}(r:bq xs a):xs.length=a.length:=Paired.length r
theorem bq.get:∀{xs:List V}{a:List ah}{i:Nat}{x:V},bq xs a->xs[i]?=aa x->∃u,a[i]?=aa u/\RelV x u
 |_,_,_,_,.nil,e=>by simp at e
 |_,_,0,_,.cons r _,e=>by simp at e;subst e;exact⟨_,rfl,r⟩
 |_,_,i+1,x,.cons _ t,e=>by obtain⟨u,c,b⟩:=bq.get (i:=i) (x:=x) t (by simpa using e);exact⟨u,by simpa using c,b⟩
theorem bq.set{x:V}{u:ah}(r:RelV x u):∀{xs:List V}{a:List ah} (i:Nat),bq xs a->bq (xs.set i x) (a.set i u)
 |_,_,_,.nil=>.nil
 |_,_,0,.cons _ t=>.cons r t
 |_,_,i+1,.cons q t=>.cons q (bq.set r i t)
theorem bq.append:∀{xs a:List V}{c b:List ah},bq xs c->bq a b->bq (xs++a) (c++b)
 |_,_,_,_,.nil,s=>s
 |_,_,_,_,.cons r t,s=>.cons r (bq.append t s)
theorem bq.take:∀{xs:List V}{a:List ah} (n:Nat),bq xs a->bq (xs.take n) (a.take n)
 |_,_,0,_=>.nil
 |_,_,_+1,.nil=>.nil
 |_,_,n+1,.cons r t=>.cons r (bq.take n t)
theorem bq.drop:∀{xs:List V}{a:List ah} (n:Nat),bq xs a->bq (xs.drop n) (a.drop n)
 |_,_,0,r=>r
 |_,_,_+1,.nil=>.nil
 |_,_,n+1,.cons _ t=>bq.drop n t
def pD:Option V->Option ah->Prop
 |some v,aa u=>RelV v u
 |none,ae=>True
 |_,_=>False
def KV{a:Type}:List (a×V)->List (a×ah)->Prop:=jx λ(p:a×V) (q:a×ah)=>p.1=q.1/\RelV p.2 q.2
def kV:bR->V
 |.inl i=>.int i
 |.inr x=>.str x
inductive HO where
 |lst (xs:List V)
 |tup (xs:List V)
 |dK (kvs:List (bR×V))|dT (kvs:List (List bR×V))|dN (kvs:List ((Str×List Str)×V))
 |set (S:Int->Bool) (n:Nat)
 |ins (C dx:af) (fs:List (Str×V))
 |own (x:af)
 |xd (fs:List (Str×V))
 |met (f x:af)
 |rng (lo hi:Int)
 |frz (o:Obj) (u:HO)
 |tbl (q:Str)
 |ext (φ:az->Prop)
abbrev Hp:=af->Option HO
def upd(H:Hp)(a:af)(o:HO):Hp:=λb=>if b=a then aa o else H b
theorem cI{H:Hp}{a:af}{o:HO}:upd H a o a=aa o:=by unfold upd;rw[if_pos rfl]
theorem bM{H:Hp}{a b:af}{o:HO}(h:b≠a):upd H a o b=H b:=by unfold upd;rw[if_neg h]
theorem Ed{H:Hp}{a b:af}{o u:HO}(h:H a=aa o)(c:H b=aa u)(d:o≠u):a≠b:=by intro e;subst e;rw[h]at c;exact d (dw c)
theorem jX{H:Hp}{a b:af}{o:HO}(h:H a=aa o)(c:H b=ae):a≠b:=by
 intro e;subst e;rw[h]at c;cases c
def CA(h:az)(a:af)(b:Array ah):Prop:=IsTup h a b/\∃o,h.get? a=aa o/\o.dict=ae
theorem CA.new(h:az)(its:Array ah):CA (h.push {cls:=.type "tuple",data:=.seq its}) h.objs.size its:=⟨IsTup.new _ _,_,cu _ rfl,rfl⟩
section
variable(P:aN)(w:aD)
def zt(k:Str×List Str):Int:=pG (j_ [j9 w k.1,pG (j_ (k.2.map (j9 w)))])
def mS(H:Hp)(k:Str×List Str)(a:af):Prop:=∃b,H a=aa (.tup [.str k.1,.ref b])/\H b=aa (.tup (k.2.map .str))
def c_(H:Hp)(h:az)(a:af):HO->Prop
 |.lst xs=>xs.length<=a_/\∃(d:List ah) (n:Nat),bq xs d/\h.get? a=aa {cls:=.type "list",data:=.seq d.toArray n}
 |.tup xs=>xs.length<=a_/\∃d:List ah,bq xs d/\CA h a d.toArray
 |.dK b=>b.length<=a_/\(a == pH)=aj/\∃z,KV b z/\h.DictOf (AF P w) a z
 |.dT b=>b.length<=a_/\(a == pH)=aj/\∃xs:List (List bR×af×ah),
   jx (λ(p:List bR×V) (q:List bR×af×ah)=>p.1=q.1/\H q.2.1=aa (.tup (p.1.map kV))/\RelV p.2 q.2.2) b xs /\
   ∃o i s,h.get? a=aa o/\o.ExactDict/\o.data=.dict i s/\i.toList=xs.map (entryOfKey (tupleKind (AF P w)))/\(xs.map (·.1)).Nodup
 |.dN b=>b.length<=a_/\(a == pH)=aj/\∃xs:List ((Str×List Str)×af×ah),
   jx (λ(p:(Str×List Str)×V) (q:(Str×List Str)×af×ah)=>p.1=q.1/\mS H p.1 q.2.1/\RelV p.2 q.2.2) b xs /\
   ∃o i s,h.get? a=aa o/\o.ExactDict/\o.data=.dict i s/\i.toList=xs.map (λx=>⟨zt w x.1,.ref x.2.1,x.2.2⟩)/\(xs.map (·.1)).Nodup
 |.set S n=>h.SetOf (intKind P w) a S n
 |.ins C j fs=>H j=aa (.own a)/\fs.length<=1000/\j≠a/\h.get? a=aa (PySem.W.instObj C j) /\
   ∃g,h.Ns1 j g/\(∀f,pD (fs.lookup f) (g f))/\PySem.Within g (fs.map (·.1))
 |.own _=>∃o,h.get? a=aa o
 |.xd fs=>∃g,h.Ns1 a g/\∀f,pD (fs.lookup f) (g f)
 |.rng D E=>∃t u v,h.get? a=aa {cls:=.type "range",data:=.fields #[.int D t,.int E u,.int 1 v]}
 |.frz o u=>h.get? a=aa o/\c_ H h a u
 |.tbl q=>∃m:Array ah,h.get? a=aa {cls:=.none,data:=.fields m}/\TriplesOk m.toList/\∀r y,rG r m.toList=aa y->∃c,y=.ref c/\H c=aa (.own a)/\h.CodeRec y q
 |.met f x=>h.get? a=aa (CB (.ref f) (.ref x))
 |.ext l=>l h/\(∃o,h.get? a=aa o)/\∀B A:az,l B->(∀o,B.get? a=aa o->A.get? a=aa o)->l A
def cP(H:Hp)(h:az):Prop:=∀a o,H a=aa o->c_ P w H h a o
end
section
variable{P:aN}{w:aD}{H j:Hp}{h i:az}{a:af}{o:HO}
theorem c_.lt(x:c_ P w H h a o):a<h.objs.size:=by
 cases o with
 |lst xs=>obtain⟨_,_,_,_,e⟩:=x;exact bE e
 |tup xs=>obtain⟨_,_,_,p,_⟩:=x;exact p.lt
 |dK b=>obtain⟨_,_,_,_,o,_,_,e,_⟩:=x;exact bE e
 |dT b=>obtain⟨_,_,_,_,o,_,_,e,_⟩:=x;exact bE e
 |dN b=>obtain⟨_,_,_,_,o,_,_,e,_⟩:=x;exact bE e
 |set S n=>obtain⟨o,_,_,_,e,_⟩:=x;exact bE e
 |ins C m fs=>obtain⟨_,_,_,e,_⟩:=x;exact bE e
 |own y=>obtain⟨_,e⟩:=x;exact bE e
 |xd fs=>obtain⟨_,⟨_,_,_,e,_⟩,_⟩:=x;exact bE e
 |rng g l=>obtain⟨_,_,_,e⟩:=x;exact bE e
 |frz d u=>obtain⟨e,_⟩:=x;exact bE e
 |tbl q=>obtain⟨_,e,_⟩:=x;exact bE e
 |met f y=>exact bE (show h.get? a=aa _ from x)
 |ext c=>obtain⟨_,⟨_,e⟩,_⟩:=x;exact bE e
theorem Paired.mapP{l g:Type}{F G:l->g->Prop}:∀{d:List l}{c:List g},jx F d c->(∀a b,F a b->G a b)->jx G d c
 |_,_,.nil,_=>.nil
 |_,_,.cons r t,f=>.cons (f _ _ r) (Paired.mapP t f)
theorem c_.stay(x:c_ P w H h a o)(k:∀b u,(b=a\/H b=aa (.own a))->h.get? b=aa u->i.get? b=aa u)(M:∀b,H b=aa (.own a)->j b=aa (.own a)) (K:∀b xs,H b=aa (.tup xs)->j b=aa (.tup xs)):c_ P w j i a o:=by
 induction o with
 |lst xs=>obtain⟨z,A,n,r,e⟩:=x;exact⟨z,A,n,r,k _ _ (.inl rfl) e⟩
 |tup xs=>obtain⟨z,A,r,⟨l,e,c⟩,T,D,N⟩:=x;exact⟨z,A,r,⟨l,k _ _ (.inl rfl) e,c⟩,T,k _ _ (.inl rfl) D,N⟩
 |dK B=>obtain⟨z,y,F,r,l,m,s,e,c⟩:=x;exact⟨z,y,F,r,l,m,s,k _ _ (.inl rfl) e,c⟩
 |dT B=>obtain⟨z,y,xs,r,l,m,s,e,c⟩:=x;exact⟨z,y,xs,Paired.mapP r λp q z=>⟨z.1,K _ _ z.2.1,z.2.2⟩,l,m,s,k _ _ (.inl rfl) e,c⟩
 |dN B=>obtain⟨z,y,xs,r,l,m,s,e,c⟩:=x;exact⟨z,y,xs,Paired.mapP r λp q z=>⟨z.1,(let ⟨b,E,h2⟩:=z.2.1;⟨b,K _ _ E,K _ _ h2⟩),z.2.2⟩,l,m,s,k _ _ (.inl rfl) e,c⟩
 |set S n=>obtain⟨l,m,s,t,e,c⟩:=x;exact⟨l,m,s,t,k _ _ (.inl rfl) e,c⟩
 |ins C dx fs=>obtain⟨d,z,W,e,J,⟨I,m,s,D,c⟩,r⟩:=x;exact⟨M _ d,z,W,k _ _ (.inl rfl) e,J,⟨I,m,s,k _ _ (.inr d) D,c⟩,r⟩
 |own y=>obtain⟨l,e⟩:=x;exact⟨l,k _ _ (.inl rfl) e⟩
 |xd fs=>obtain⟨J,⟨I,m,s,e,c⟩,r⟩:=x;exact⟨J,⟨I,m,s,k _ _ (.inl rfl) e,c⟩,r⟩
 |rng lo hi=>obtain⟨t,u,v,e⟩:=x;exact⟨t,u,v,k _ _ (.inl rfl) e⟩
 |frz l u X=>obtain⟨e,q⟩:=x;exact⟨k _ _ (.inl rfl) e,X q⟩
 |tbl q=>
  obtain⟨Q,e,t,g⟩:=x;refine⟨Q,k a _ (.inl rfl) e,t,λG cv Y=>?_⟩;obtain⟨c,rfl,E,N,o,F,O,D,Z,r⟩:=g G cv Y;cases D;exact⟨c,rfl,M c E,c,o,F,O,rfl,k c _ (.inr E) Z,r⟩
 |met f y=>have e:h.get? a=aa (CB (.ref f) (.ref y)):=x;show i.get? a=aa (CB (.ref f) (.ref y));exact k a _ (.inl rfl) e
 |ext φ=>obtain⟨p,⟨o,e⟩,L⟩:=x;exact⟨L _ _ p λo q=>k _ _ (.inl rfl) q,⟨o,k _ _ (.inl rfl) e⟩,L⟩
theorem cP.lt(x:cP P w H h)(e:H a=aa o):a<h.objs.size:=(x a o e).lt
theorem cP.fresh(x:cP P w H h)(e:h.objs.size<=a):H a=ae:=by
 cases q:H a with
 |none=>rfl
 |some u=>exact absurd (eu (x.lt q) e) (gR _)
theorem cP.kept(x:cP P w H h)(k:∀b u,h.get? b=aa u->i.get? b=aa u):cP P w H i:=λa o e=>(x a o e).stay (λb u _ q=>k b u q) (λ_ q=>q) λ_ _ q=>q
theorem cP.laid(x:cP P w H h)(k:∀b u,h.get? b=aa u->i.get? b=aa u)(g:h.objs.size<=a)(new:c_ P w (upd H a o) i a o):cP P w (upd H a o) i:=λb u e=>by
 have d:=x.fresh g;by_cases f:b=a
 .subst f;rw[cI]at e;cases e;exact new
 .rw[bM f]at e;exact(x b u e).stay (λc v _ q=>k c v q) (λc q=>by rw[bM (jX q d)];exact q) λc xs q=>by rw[bM (jX q d)];exact q
end
def Rd(H:Hp)(a:af)(u:HO):Prop:=H a=aa u\/∃o,H a=aa (.frz o u)
theorem Rd.ok{P:aN}{w:aD}{H:Hp}{h:az}{a:af}{u:HO}(r:Rd H a u)(x:cP P w H h):c_ P w H h a u:=by
 rcases r with r|⟨o,r⟩
 .exact x a u r
 .obtain⟨_,q⟩:=x a _ r;exact q
def qF:Option HO->Prop
 |some (.lst _)=>True
 |some (.dK _)=>True
 |some (.dT _)=>True
 |some (.dN _)=>True
 |some (.set _ _)=>True
 |some (.ins _ _ _)=>True
 |some (.ext _)=>True
 |_=>False
section
variable{P:aN}{w:aD}{H:Hp}{h a:az}{x e:af}{d:HO}
theorem cP.write(ok:cP P w H h)(i:qF (H x))(o:e=x\/H e=aa (.own x))(k:∀b u,b≠e->h.get? b=aa u->a.get? b=aa u)(p:∃u,a.get? e=aa u)(new:c_ P w (upd H x d) a x d):cP P w (upd H x d) a:=λb u q=>by
 have f:∀c y,H c=aa (.own y)->c≠x:=λc y r z=>by subst z;rw[r]at i;exact i
 have g:∀c xs,H c=aa (.tup xs)->c≠x:=λc xs r z=>by subst z;rw[r]at i;exact i
 by_cases m:b=x
 .subst m;rw[cI]at q;cases q;exact new
 .rw[bM m]at q;by_cases j:b=e
  .have n:H b=aa (.own x):=by
    rcases o with z|z
    .exact absurd (j.trans z) m
    .rw[j];exact z
   rw[q]at n;cases n;obtain⟨v,s⟩:=p;exact⟨v,by rw[j];exact s⟩
  .refine(ok b u q).stay (λc v l r=>k c v ?_ r) (λc r=>by rw[bM (f c b r)];exact r) λc xs r=>by rw[bM (g c xs r)];exact r
   rcases l with rfl|l
   .exact j
   .rintro rfl;rcases o with z|z
    .exact f c b l z
    .rw[l]at z;cases z;exact m rfl
end
structure Un(fs ex:List af)(H H':Hp)(h h':az):Prop where
 keep:∀b o,h.get? b=aa o->H b=ae->b∉fs->b∉ex->h'.get? b=aa o
 slot:∀b o,h.get? b=aa o->H b=ae->b∈fs->b∉ex->∃sl,h'.get? b=aa {o with slots:=sl}
 free:∀b o,h.get? b=aa o->H b=ae->b∉ex->H' b=ae
 there:∀b o,h.get? b=aa o->b∉ex->∃o',h'.get? b=aa o'
 tups:∀b xs,H b=aa (.tup xs)->H' b=aa (.tup xs)
 frzs:∀b o u,H b=aa (.frz o u)->H' b=aa (.frz o u)
 tbls:∀b q,H b=aa (.tbl q)->H' b=aa (.tbl q)
section
variable{fs d ex f:List af}{H g j:Hp}{h c i h':az}{a x e:af}{o:HO}
theorem Un.any(u:Un fs ex H g h c){b:af}{l:Obj}(q:h.get? b=aa l)(n:H b=ae)(m:b∉ex):∃r,c.get? b=aa {l with slots:=r}:=by
 by_cases p:b∈fs
 .exact u.slot b l q n p m
 .exact⟨l.slots,u.keep b l q n p m⟩
theorem Un.kept(k:∀b u,h.get? b=aa u->h'.get? b=aa u):Un fs ex H H h h' :=⟨λb l q _ _ _=>k b l q,λb l q _ _ _=>⟨l.slots,k b l q⟩,λ_ _ _ n _=>n,λb l q _=>⟨l,k b l q⟩,λ_ _ q=>q,λ_ _ _ q=>q,λ_ _ q=>q⟩
theorem Un.refl:Un fs ex H H h h:=Un.kept λ_ _ q=>q
theorem Un.laid(k:∀b u,h.get? b=aa u->h'.get? b=aa u)(m:h.objs.size<=a)(l:H a=ae):Un fs ex H (upd H a o) h h' where
 keep:=λb u q _ _ _=>k b u q
 slot:=λb u q _ _ _=>⟨u.slots,k b u q⟩
 free:=λb u q n _=>by rw[bM (cM (eu (bE q) m))];exact n
 there:=λb u q _=>⟨u,k b u q⟩
 tups:=λb xs q=>by rw[bM (jX q l)];exact q
 frzs:=λb u xs q=>by rw[bM (jX q l)];exact q
 tbls:=λb p q=>by rw[bM (jX q l)];exact q
theorem Un.write(l:qF (H x))(y:e=x\/H e=aa (.own x))(k:∀b u,b≠e->h.get? b=aa u->h'.get? b=aa u)(v:∃u,h'.get? e=aa u):Un fs ex H (upd H x o) h h':=by
 have s:∀b,H b=ae->b≠x:=λb n z=>by subst z;rw[n]at l;exact l
 have t:∀b,H b=ae->b≠e:=λb n z=>by
  subst z;rcases y with r|r
  .exact s b n r
  .rw[n]at r;cases r
 have m:∀b u,H b=aa u->¬qF (aa u)->b≠x:=λb u q w z=>by subst z;rw[q]at l;exact w l
 refine⟨λb u q n _ _=>k b u (t b n) q,λb u q n _ _=>⟨u.slots,k b u (t b n) q⟩,λb u q n _=>by rw[bM (s b n)];exact n,λb u q _=>?_,
  λb xs q=>by rw[bM (m b _ q λz=>z)];exact q,λb u xs q=>by rw[bM (m b _ q λz=>z)];exact q,λb A q=>by rw[bM (m b _ q λz=>z)];exact q⟩
 by_cases p:b=e
 .subst p;exact v
 .exact⟨u,k b u p q⟩
end
def uv(h:az)(H:Hp):List af:=(cz h.objs.size).filter λa=>(H a).isSome
def kL(h:az)(H:Hp):az:=PySem.W.hideAll h (uv h H)
theorem DJ(h:az)(H:Hp):(kL h H).objs.size=h.objs.size:=PySem.W.hideAll_size _ _
theorem Hi{h:az}{H:Hp}{b:af}{o:Obj}(e:h.get? b=aa o)(n:H b=ae):(kL h H).get? b=aa o :=PySem.W.hideAll_get _ e λa=>by have q:(H b).isSome=ai:=(xU.mp a).2;rw[n]at q;simp at q
theorem Ly{h:az}{H:Hp}{b:af}{o:Obj}(e:(kL h H).get? b=aa o):h.get? b=aa o/\H b=ae:=by
 have a:h.get? b=aa o:=PySem.W.of_hideAll (uv h H) e;refine⟨a,?_⟩;cases q:H b with
 |none=>rfl
 |some x=>
  have c:b∈uv h H:=xU.mpr ⟨List.mem_range.mpr (bE a),by simp[q]⟩;have z:(kL h H).get? b=ae:=PySem.W.hideAll_none (uv h H) c;rw[z]at e;cases e
def IV(g h:az)(L:af):List (af×Obj):=(cz h.objs.size).filterMap λa=>if a=L\/(g.get? a).isSome=ai then ae else(h.get? a).map λo=>(a,o)
def rest(g h:az)(L d:af):List (af×Obj):=(IV g h L).filter λp=>decide (p.1≠d)
structure Mod(K:aw)(mg:Str->Option ah)(base:az):Prop where
 kin:K.In base
 glob:base.Ns bA mg
 blt:∃mb,base.Ns l9 mb/\∀x:Str,x≠"__name__"->mb x=dy x
 nolimit:base.NoLimit
 bm:∃bm ob,mg "__builtins__"=aa (.ref bm)/\bm≠l9/\base.get? bm=aa ob/\ob.cls=.type "module"/\ob.dict=aa l9/\ob.data=.plain
set_option genInjectivity false in
structure Cx where
 prog:aN
 w:aD
 K:aw
 mg:Str->Option ah
 base:az
 A:aJ
 N:List Str
 s₀:am
 H₀:Hp
 env:Env
 outer:List Env
 stack:List Env
 ex:List af
 fn:Str->Bool
 calm:Bool
 pn:List (af×Obj)
 xe:ah->am->Prop
def dU(l:List Env):List af:=l.filterMap (·.frame)
abbrev Cx.fs(X:Cx):List af:=dU X.outer
def fN(a:cN)(x:Str):Prop:=a.names.lookup x=aa .local\/a.names.lookup x=aa .cell\/a.names.lookup x=aa .free
def Loc(a:cN)(x:Str):Prop:=a.names.lookup x=aa .local\/a.names.lookup x=aa .cell
def Look(a:Env)(h:az)(m:Str->Option ah)(x:Str)(u:ah):Prop :=(a.kindOf x=aa .local/\m x=aa u)\/((a.kindOf x=aa .cell\/a.kindOf x=aa .free)/\∃c,a.cells.lookup x=aa c/\h.IsCell c (aa u))
def rj:List Str:=["least_ending"]
def tu(K:aw)(H:Hp):Prop:=∀x∈rj,∀c P,jy K x=aa (c,P)->H P=aa (.tbl (x++".<locals>.<lambda>"))
set_option genInjectivity false in
structure Cx.Ok(X:Cx):Prop where
 mod:Mod X.K X.mg X.base
 kind:X.env.scope.kind=.function
 glob:X.env.globals=bA
 blt:X.env.builtins=l9
 above:X.s₀.heap.objs.size<=X.env.locals
 inj:∀x y c,X.env.cells.lookup x=aa c->X.env.cells.lookup y=aa c->x=y
 has:∀x,(X.env.kindOf x=aa .cell\/X.env.kindOf x=aa .free)->∃c,X.env.cells.lookup x=aa c
 cab:∀x c,X.fn x=ai->X.env.cells.lookup x=aa c->X.s₀.heap.objs.size<=c
 hd:X.calm=ai->X.A.handled=ae
 frames:X.A.frames=aa X.stack
 stk:X.stack=X.outer\/(X.stack=X.env::X.outer/\X.env.frame=aa X.env.locals)
 exf:∀b∈X.ex,b≠X.env.locals/\∀x c,X.env.cells.lookup x=aa c->c≠b
 bs:∀b o,X.base.get? b=aa o->X.s₀.heap.get? b=aa o/\X.H₀ b=ae
 bsz:X.base.objs.size<=X.s₀.heap.objs.size
 noex:∀b o,X.base.get? b=aa o->b∉X.ex
 exfs:∀b∈X.ex,b∉X.fs
 funs:X.s₀.heap.FunFrames X.base X.outer
 frf:∀b∈X.fs,X.H₀ b=ae
 tab:tu X.K X.H₀
structure Inv(X:Cx)(ag:List (af×Obj))(σ:List (Option V))(H:Hp)(s:am):Prop where
 ok:X.Ok
 os:s.os=X.s₀.os
 bare:kY s.gens
 base:Un X.fs X.ex X.H₀ H X.s₀.heap s.heap
 loc:∃m,s.heap.Ns X.env.locals m/\∀(i:Nat) (x:Str) (v:V),X.N[i]?=aa x->σ[i]?=aa (aa v)->fN X.env.scope x->∃u,RelV v u/\Look X.env s.heap m x u
 cell:∀x c,X.env.cells.lookup x=aa c->∃v,s.heap.IsCell c v
 free:H X.env.locals=ae
 freeC:∀x c,X.env.cells.lookup x=aa c->H c=ae
 pin:∀p∈X.pn++ag,s.heap.get? p.1=aa p.2/\H p.1=ae/\p.1≠X.env.locals/\p.1∉X.fs/\∀v,p.2.data≠.cell v
 hok:cP X.prog X.w H s.heap
 len:σ.length=X.N.length
section
variable{X:Cx}{f:List (af×Obj)}{g:List (Option V)}{H w:Hp}{s:am}{h':az}
theorem Cx.Ok.nofr(ok:X.Ok){b:af}{o:Obj}(e:X.base.get? b=aa o):b∉X.fs:=λa=>by
 have:=(ok.funs.mem a).1;rw[e]at this;cases this
theorem Inv.bs(I:Inv X f g H s):∀b o,X.base.get? b=aa o->s.heap.get? b=aa o/\H b=ae:=λb o e=>⟨I.base.keep b o (I.ok.bs b o e).1 (I.ok.bs b o e).2 (I.ok.nofr e) (I.ok.noex b o e),I.base.free b o (I.ok.bs b o e).1 (I.ok.bs b o e).2 (I.ok.noex b o e)⟩
theorem Inv.bk(I:Inv X f g H s):∀b o,X.base.get? b=aa o->s.heap.get? b=aa o:=λb o e=>(I.bs b o e).1
theorem Inv.mod(I:Inv X f g H s):Mod X.K X.mg X.base:=I.ok.mod
theorem Inv.kIn(I:Inv X f g H s):X.K.In s.heap:=I.ok.mod.kin.keeps I.bk
theorem Inv.lt(I:Inv X f g H s):X.env.locals<s.heap.objs.size:=let ⟨_,hn,_⟩:=I.loc;hn.lt
theorem Inv.sz(I:Inv X f g H s):X.s₀.heap.objs.size<=s.heap.objs.size:=cA I.ok.above (kZ I.lt)
theorem Inv.nofs(I:Inv X f g H s){a:af}(h:s.heap.objs.size<=a):a∉X.fs:=λc=>by obtain⟨_,o,b,_⟩:=I.ok.funs.mem c;exact absurd (eu (bE b) (cA I.sz h)) (gR _)
theorem Inv.cne(I:Inv X f g H s):∀x c,X.env.cells.lookup x=aa c->c≠X.env.locals:=λx c e z=>by
 obtain⟨v,o,b,d⟩:=I.cell x c e;obtain⟨m,⟨i,j,l,h,a,_⟩,_⟩:=I.loc;rw[z,h]at b;cases b;rw[a]at d;cases d
theorem Inv.tab(I:Inv X f g H s):tu X.K H:=λx a c P h=>I.base.tbls P _ (I.ok.tab x a c P h)
theorem Inv.funs(I:Inv X f g H s):s.heap.FunFrames X.base X.outer:=by
 have all:∀(l:List Env),(∀b∈dU l,b∈X.fs)->X.s₀.heap.FunFrames X.base l->s.heap.FunFrames X.base l:=by
  intro l
  induction l with
  |nil=>intro _ _;trivial
  |cons u r i=>intro h p;obtain⟨q,⟨L,o,a,n,m,t⟩,j⟩:=p;have d:L∈X.fs:=h L (by unfold dU;rw[rH,a];exact jz);obtain⟨v,e⟩:=I.base.slot L o m (I.ok.frf L d) d λz=>I.ok.exfs L z d;exact⟨q,⟨L,_,a,n,e,t⟩,i (λb c=>h b (by unfold dU;rw[rH,a];exact jh _ c)) j⟩
 exact all X.outer (λ_ c=>c) I.ok.funs
theorem Inv.stack(I:Inv X f g H s):s.heap.FunFrames X.base X.stack:=by
 rcases I.ok.stk with e|⟨e,b⟩
 .rw[e];exact I.funs
 .rw[e];obtain⟨m,a,_⟩:=I.loc;refine .cons (by rw[I.ok.kind];decide) b a ?_ I.funs;exact rJ (cA I.ok.bsz I.ok.above)
theorem Inv.stkSub(I:Inv X f g H s):∀b∈dU X.stack,b∈X.env.locals::X.fs:=λb a=>by
 rcases I.ok.stk with e|⟨e,c⟩
 .rw[e]at a;exact jh _ a
 .rw[e]at a;unfold dU at a;rw[rH,c]at a;exact a
theorem Inv.stkFree(I:Inv X f g H s):∀b∈dU X.stack,H b=ae:=λb a=>by
 rcases bT.mp (I.stkSub b a)with e|a
 .rw[e];exact I.free
 .obtain⟨_,o,c,_⟩:=I.ok.funs.mem a;exact I.base.free b o c (I.ok.frf b a) λz=>I.ok.exfs b z a
theorem Inv.step{g':Array GenState}{t':Nat}{d':Drawn}{ch:List af}(I:Inv X f g H s)(K:∀b∈ch,(b∈X.ex\/X.s₀.heap.objs.size<=b)/\b≠X.env.locals/\(∀x c,X.env.cells.lookup x=aa c->c≠b)/\∀p∈X.pn++f,p.1≠b)(keep:∀b o,b≠X.env.locals->b∉X.fs->b∉ch->s.heap.get? b=aa o->H b=ae->h'.get? b=aa o)(y:∀b o,b≠X.env.locals->b∈X.fs->b∉ch->s.heap.get? b=aa o->H b=ae->∃N,h'.get? b=aa {o with slots:=N}) (free:∀b o,b∉ch->s.heap.get? b=aa o->H b=ae->w b=ae)(A:∀b o,b∉ch->s.heap.get? b=aa o->∃G,h'.get? b=aa G)(E:∀b xs,H b=aa (.tup xs)->w b=aa (.tup xs)) (L:∀b o u,H b=aa (.frz o u)->w b=aa (.frz o u)) (F:∀b q,H b=aa (.tbl q)->w b=aa (.tbl q))(ns:∀m,s.heap.Ns X.env.locals m->h'.Ns X.env.locals m) (O:cP X.prog X.w w h') (hg:kY g'):Inv X f g w {s with heap:=h',gens:=g',drawn:=d',toks:=t'}:=by
 have J:∀b o,X.s₀.heap.get? b=aa o->b≠X.env.locals:=λb o e=>cM (eu (bE e) I.ok.above);have t:∀b o,X.s₀.heap.get? b=aa o->b∉X.ex->b∉ch:=λb o e a B=>by
  rcases(K b B).1 with z|z
  .exact a z
  .exact absurd (eu (bE e) z) (gR _)
 have j:∀x c,X.env.cells.lookup x=aa c->∀v,s.heap.IsCell c v->h'.IsCell c v:=λx c e v ⟨o,D,P⟩=>by
  have h:c∉ch:=λz=>(K c z).2.2.1 x c e rfl;by_cases Y:c∈X.fs
  .obtain⟨N,q⟩:=y c o (I.cne x c e) Y h D (I.freeC x c e);exact⟨_,q,P⟩
  .exact⟨o,keep c o (I.cne x c e) Y h D (I.freeC x c e),P⟩
 refine⟨I.ok,I.os,hg,⟨λb o e n B a=>?_,λb o e n B a=>?_,λb o e n a=>?_,λb o e a=>?_,λb xs e=>E b xs (I.base.tups b xs e),λb o xs e=>L b o xs (I.base.frzs b o xs e),λb Z e=>?_⟩,?_,λx c e=>?_,?_,λx c e=>?_,λp W=>?_,O,I.len⟩
 .exact keep b o (J b o e) B (t b o e a) (I.base.keep b o e n B a) (I.base.free b o e n a)
 .obtain⟨N,C⟩:=I.base.slot b o e n B a;obtain⟨M,Q⟩:=y b _ (J b o e) B (t b o e a) C (I.base.free b o e n a);exact⟨M,Q⟩
 .obtain⟨G,C⟩:=I.base.there b o e a;exact free b G (t b o e a) C (I.base.free b o e n a)
 .obtain⟨G,C⟩:=I.base.there b o e a;exact A b G (t b o e a) C
 .exact F b _ (I.base.tbls b Z e)
 .obtain⟨m,hn,hl⟩:=I.loc;refine⟨m,ns m hn,λi x v C Q e3=>?_⟩;obtain⟨u,r,l⟩:=hl i x v C Q e3;refine⟨u,r,?_⟩;rcases l with l|⟨k,c,e,z⟩
  .exact .inl l
  .exact .inr ⟨k,c,e,j x c e _ z⟩
 .obtain⟨v,z⟩:=I.cell x c e;exact⟨v,j x c e v z⟩
 .obtain⟨m,⟨o,_,_,D,_⟩,_⟩:=I.loc;exact free _ o (λz=>(K _ z).2.1 rfl) D I.free
 .obtain⟨v,o,D,P⟩:=I.cell x c e;exact free c o (λz=>(K c z).2.2.1 x c e rfl) D (I.freeC x c e)
 .obtain⟨e,n,T,S,d⟩:=I.pin p W;have h:p.1∉ch:=λz=>(K p.1 z).2.2.2 p W rfl;exact⟨keep p.1 p.2 T S h e n,free p.1 p.2 h e n,T,S,d⟩
theorem Inv.un{t':Nat}(I:Inv X f g H s)(u:Un X.fs [] H w s.heap h')(a:cP X.prog X.w w h'):Inv X f g w {s with heap:=h',toks:=t'}:=by
 obtain⟨m,⟨o,y,A,j,r⟩,_⟩:=id I.loc;obtain⟨t,q⟩:=u.any j I.free (by simp);exact I.step (g':=s.gens) (d':=s.drawn) (ch:=[]) (λ_ z=>nomatch z) (λb o _ c _ e n=>u.keep b o e n c (by simp)) (λb o _ c _ e n=>u.slot b o e n c (by simp)) (λb o _ e n=>u.free b o e n (by simp)) (λb o _ e=>u.there b o e (by simp)) u.tups u.frzs u.tbls (λx p=>by
  obtain⟨v,d,h,i,l⟩:=p;rw[j]at i;cases i;exact⟨_,d,h,q,l⟩) a I.bare
theorem Inv.call{g':Array GenState}{t':Nat}{d':Drawn}{ch:List af}(I:Inv X f g H s)(u:Un (dU X.stack) ch H w s.heap h')(d:cP X.prog X.w w h')(A:kY g')(l:∀b∈ch,(b∈X.ex\/X.s₀.heap.objs.size<=b)/\b≠X.env.locals/\(∀x c,X.env.cells.lookup x=aa c->c≠b)/\∀p∈X.pn++f,p.1≠b):Inv X f g w {s with heap:=h',gens:=g',drawn:=d',toks:=t'}:=by
 obtain⟨m,⟨o,F,G,t,r⟩,_⟩:=id I.loc;obtain⟨C,h⟩:=u.any t I.free λz=>(l _ z).2.1 rfl;exact I.step (ch:=ch) l (λb o h B a e n=>u.keep b o e n (λz=>(bT.mp (I.stkSub b z)).elim h B) a) (λb o _ _ a e n=>u.any e n a) (λb o a e n=>u.free b o e n a) (λb o a e=>u.there b o e a) u.tups u.frzs u.tbls (λE y=>by
  obtain⟨D,i,j,q,v⟩:=y;rw[t]at q;cases q;exact⟨_,i,j,h,v⟩) d A
theorem Inv.turned{t':Nat}{it:af}(I:Inv X f g H s)(k:∀b o,b≠it->s.heap.get? b=aa o->h'.get? b=aa o)(j:H it=ae)(h:it≠X.env.locals)(B:it∈X.ex\/X.s₀.heap.objs.size<=it) (A:∀x c,X.env.cells.lookup x=aa c->c≠it) (y:∀p∈X.pn++f,p.1≠it):Inv X f g H {s with heap:=h',toks:=t'}:=by
 have d:∀b u,H b=aa u->b≠it:=λb u e z=>by rw[z,j]at e;cases e
 refine I.step (g':=s.gens) (d':=s.drawn) (ch:=[it]) (λb t=>?_) (λb o _ _ a e _=>k b o (λz=>a (by simp[z])) e) (λb o _ _ a e _=>⟨o.slots,k b o (λz=>a (by simp[z])) e⟩) (λ_ _ _ _ n=>n)
  (λb o a e=>⟨o,k b o (λz=>a (by simp[z])) e⟩) (λ_ _ e=>e) (λ_ _ _ e=>e) (λ_ _ e=>e) (λm l=>?_) (λb u e=>?_) I.bare
 .have e:b=it:=by simpa using t
  subst e;exact⟨B,h,A,y⟩
 .obtain⟨o,C,D,i,r⟩:=l;exact⟨o,C,D,k _ o (ez h) i,r⟩
 .refine(I.hok b u e).stay (λc v a q=>k c v ?_ q) (λ_ q=>q) λ_ _ q=>q;rcases a with z|z
  .rw[z];exact d b u e
  .exact d c _ z
theorem Inv.tok(I:Inv X f g H s)(t:Nat):Inv X f g H {s with toks:=t}:=I.un (h':=s.heap) (t':=t) Un.refl I.hok
theorem Inv.kept{t':Nat}(I:Inv X f g H s)(k:∀b u,s.heap.get? b=aa u->h'.get? b=aa u):Inv X f g H {s with heap:=h',toks:=t'}:=I.un (Un.kept k) (I.hok.kept k)
theorem Inv.laid{a:af}{o:HO}{t':Nat}(I:Inv X f g H s)(k:∀b u,s.heap.get? b=aa u->h'.get? b=aa u)(c:s.heap.objs.size<=a)(new:c_ X.prog X.w (upd H a o) h' a o):Inv X f g (upd H a o) {s with heap:=h',toks:=t'}:=I.un (Un.laid k c (I.hok.fresh c)) (I.hok.laid k c new)
theorem Inv.write{x e:af}{o:HO}{h:Nat}(I:Inv X f g H s)(c:qF (H x))(d:e=x\/H e=aa (.own x))(k:∀b u,b≠e->s.heap.get? b=aa u->h'.get? b=aa u)(a:∃u,h'.get? e=aa u)(new:c_ X.prog X.w (upd H x o) h' x o):Inv X f g (upd H x o) {s with heap:=h',toks:=h}:=I.un (Un.write c d k a) (I.hok.write c d k a new)
theorem Inv.pins_of{a:List (af×Obj)}(I:Inv X f g H s)(h:∀p∈a,s.heap.get? p.1=aa p.2/\H p.1=ae/\p.1≠X.env.locals/\p.1∉X.fs/\∀v,p.2.data≠.cell v):Inv X a g H s :=⟨I.ok,I.os,I.bare,I.base,I.loc,I.cell,I.free,I.freeC,λp b=>(ie.mp b).elim (λz=>I.pin p (xV _ z)) (h p),I.hok,I.len⟩
theorem vO{N:List Str}(c:N.Nodup){i j:Nat}{x:Str}(a:N[i]?=aa x)(b:N[j]?=aa x):i=j:=by obtain⟨m,h⟩:=cJ.mp a;obtain⟨l,d⟩:=cJ.mp b;exact(List.getElem_inj c).mp (h.trans d.symm)
theorem Jz{M:Model}{A:aJ}{E:ah->am->Prop}{i:Nat}{x:Str}{v:V}{u:ah}{Q:Unit->am->Prop}(I:Inv X f g H s)(hN:X.N.Nodup)(P:X.N[i]?=aa x)(D:Loc X.env.scope x)(r:RelV v u)(h:∀s',Inv X f (g.set i (aa v)) H s'->(∃a,jA a s.heap s'.heap/\(a=X.env.locals\/X.env.cells.lookup x=aa a))->Q () s') (hf:X.fn x=ai\/X.env.scope.names.lookup x=aa .local:=by first|exact .inl rfl|exact .inr rfl|assumption):aq M A (storeName X.env x u) Q E s:=by
 obtain⟨m,hn,hl⟩:=id I.loc;have lv:(X.env.scope.kind == .class||(X.env.scope.kind == .module&&X.env.locals != X.env.globals))=aj:=by rw[I.ok.kind];rfl
 have J:i<g.length:=by rw[I.len];exact(cJ.mp P).1
 have cne:=I.cne;have t:∀{a:af}{h':az},(∃o,s.heap.get? a=aa o/\H a=ae)->jA a s.heap h'->cP X.prog X.w H h':=λ{a h'} ha l b ob e=>by
  obtain⟨_,_,si⟩:=ha;refine(I.hok b ob e).stay (λc T C q=>(l.2 c ?_).trans q) (λ_ q=>q) λ_ _ q=>q;rintro rfl;rcases C with rfl|C
  .rw[si]at e;cases e
  .rw[si]at C;cases C
 rcases D with G|G
 .refine wpAny_storeName_local G hn (λh' hn' l=>?_) lv;obtain⟨oL,_,_,pY,_⟩:=id hn;refine h _ ⟨I.ok,I.os,I.bare,⟨λb o e n N D=>?_,λb o e n N D=>?_,I.base.free,λb o e D=>?_,I.base.tups,I.base.frzs,I.base.tbls⟩,⟨_,hn',λj y Z B F e3=>?_⟩,λy c e=>?_,I.free,I.freeC,λp hp=>?_,t ⟨oL,pY,I.free⟩ l,by simpa using I.len⟩ ⟨_,l,.inl rfl⟩
  .exact(l.2 b (cM (eu (bE e) I.ok.above))).trans (I.base.keep b o e n N D)
  .obtain⟨sl,B⟩:=I.base.slot b o e n N D;exact⟨sl,(l.2 b (cM (eu (bE e) I.ok.above))).trans B⟩
  .obtain⟨o',B⟩:=I.base.there b o e D;exact⟨o',(l.2 b (cM (eu (bE e) I.ok.above))).trans B⟩
  .by_cases K:j=i
   .subst K;rw[P]at B;cases B;rw[eX J]at F;cases F;exact⟨u,r,.inl ⟨G,by simp⟩⟩
   .rw[dH (ez K)]at F;obtain⟨u',r',q⟩:=hl j y Z B F e3;refine⟨u',r',?_⟩;rcases q with⟨k,e⟩|⟨k,c,e,z⟩
    .refine .inl ⟨k,?_⟩;have:y≠x:=λe=>K (vO hN B (e ▸ P));simp[this,e]
    .exact .inr ⟨k,c,e,z.sameBut l (cne y c e)⟩
  .obtain⟨T,z⟩:=I.cell y c e;exact⟨T,z.sameBut l (cne y c e)⟩
  .obtain⟨e,n,W,nf,d⟩:=I.pin p hp;exact⟨(l.2 p.1 W).trans e,n,W,nf,d⟩
 .have L:X.fn x=ai:=by
   rcases hf with z|z
   .exact z
   .rw[z]at G;cases G
  obtain⟨c,C⟩:=I.ok.has x (.inl G);obtain⟨T,z⟩:=I.cell x c C;refine wpAny_storeName_cell I.ok.kind G C z (λh' gk l=>?_);obtain⟨oc,og,O⟩:=id z;refine h {s with heap:=h'} ⟨I.ok,I.os,I.bare,⟨λb o e n N D=>?_,λb o e n N D=>?_,I.base.free,λb o e D=>?_,I.base.tups,I.base.frzs,I.base.tbls⟩,⟨m,hn.sameBut l (ez (cne x c C)),λj y Z B F e3=>?_⟩,λy Y e=>?_,I.free,I.freeC,λp hp=>?_,t ⟨oc,og,I.freeC x c C⟩ l,by simpa using I.len⟩ ⟨c,l,.inr C⟩
  .exact(l.2 b (cM (eu (bE e) (I.ok.cab x c L C)))).trans (I.base.keep b o e n N D)
  .obtain⟨sl,B⟩:=I.base.slot b o e n N D;exact⟨sl,(l.2 b (cM (eu (bE e) (I.ok.cab x c L C)))).trans B⟩
  .obtain⟨o',B⟩:=I.base.there b o e D;exact⟨o',(l.2 b (cM (eu (bE e) (I.ok.cab x c L C)))).trans B⟩
  .by_cases K:j=i
   .subst K;rw[P]at B;cases B;rw[eX J]at F;cases F;exact⟨u,r,.inr ⟨.inl G,c,C,gk⟩⟩
   .rw[dH (ez K)]at F;obtain⟨u',r',q⟩:=hl j y Z B F e3;refine⟨u',r',?_⟩;rcases q with q|⟨k,Y,e,z'⟩
    .exact .inl q
    .refine .inr ⟨k,Y,e,z'.sameBut l ?_⟩;rintro rfl;exact K (vO hN B (I.ok.inj _ _ _ e C ▸ P))
  .by_cases S:Y=c
   .subst S;exact⟨_,gk⟩
   .obtain⟨w2,z2⟩:=I.cell y Y e;exact⟨w2,z2.sameBut l S⟩
  .obtain⟨e,n,W,nf,d⟩:=I.pin p hp;refine⟨(l.2 p.1 ?_).trans e,n,W,nf,d⟩;intro q;rw[q,og]at e;have q':oc=p.2:=dw e;exact d T (by rw[<-q'];exact O)
theorem ur{M:Model}{A:aJ}{E:ah->am->Prop}{i:Nat}{x:Str}{v:V}{u:ah}{Q:Unit->am->Prop}(I:Inv X f g H s)(d:X.N.Nodup)(b:X.N[i]?=aa x)(a:Loc X.env.scope x)(r:RelV v u)(h:∀s',Inv X f (g.set i (aa v)) H s'->Q () s') (c:X.fn x=ai\/X.env.scope.names.lookup x=aa .local:=by first|exact .inl rfl|exact .inr rfl|assumption):aq M A (storeName X.env x u) Q E s :=Jz I d b a r (λs' j _=>h s' j) c
theorem Inv.call'{s':am}{ch:List af}(I:Inv X f g H s)(i:s'.os=s.os)(u:Un (dU X.stack) ch H w s.heap s'.heap)(a:cP X.prog X.w w s'.heap)(j:kY s'.gens)(h:∀b∈ch,(b∈X.ex\/X.s₀.heap.objs.size<=b)/\b≠X.env.locals/\(∀x c,X.env.cells.lookup x=aa c->c≠b)/\∀p∈X.pn++f,p.1≠b):Inv X f g w s':=by obtain⟨h',g',d',t',d⟩:=s';have e:d=s.os:=i;subst e;exact I.call (g':=g') (t':=t') (d':=d') u a j h
end
abbrev XK:=ah->Option af->Hp->Prop
abbrev St:=List (Option V)
abbrev VK:=V->Hp->Prop
abbrev TE:=St->Hp->VK->Prop
abbrev TT:=St->Hp->(Bool->Hp->Prop)->Prop
abbrev TA:=St->Hp->(List V->Hp->Prop)->Prop
structure j4 where
 nx:St->Hp->Prop
 rt:VK
 bk:St->Hp->Prop:=λ_ _=>False
 ct:St->Hp->Prop:=λ_ _=>False
abbrev TS:=j4->St->Hp->Prop
def EP(X:Cx)(d:List (af×Obj))(b:St)(Q:VK)(u:ah)(c:am):Prop:=∃v a,Inv X d b a c/\RelV v u/\Q v a
def TP(X:Cx)(f:List (af×Obj))(c:St)(Q:Bool->Hp->Prop)(b:Bool)(d:am):Prop:=∃a,Inv X f c a d/\Q b a
def AP(X:Cx)(g:List (af×Obj))(c:St)(Q:List V->Hp->Prop)(d:List ah)(f:am):Prop:=∃a b,Inv X g c b f/\bq a d/\Q a b
def SP(X:Cx)(d:List (af×Obj))(D:j4)(f:Flow)(c:am):Prop :=
 match f with
 |.next=>∃a b,Inv X d a b c/\D.nx a b
 |.brk=>∃a b,Inv X d a b c/\D.bk a b
 |.cont=>∃a b,Inv X d a b c/\D.ct a b
 |.ret u=>∃v a b,Inv X d a b c/\RelV v u/\D.rt v b
def PE(X:Cx)(e:aA)(t:TE):Prop :=
 ∀(b:List (af×Obj)) (s:am) (a:St) (H:Hp) (Q:VK),Inv X b a H s->t a H Q->aq (au X.prog X.w) X.A (aM e X.env) (EP X b a Q) X.xe s
def PT(X:Cx)(e:aA)(t:TT):Prop :=
 ∀(b:List (af×Obj)) (s:am) (a:St) (H:Hp) (Q:Bool->Hp->Prop),Inv X b a H s->t a H Q->aq (au X.prog X.w) X.A (k6 e X.env (aM e X.env)) (TP X b a Q) X.xe s
def PW(X:Cx)(e:aA)(t:TT):Prop :=
 ∀(c:Sem ah) (b:List (af×Obj)) (s:am) (a:St) (H:Hp) (Q:Bool->Hp->Prop),Inv X b a H s->t a H Q->aq (au X.prog X.w) X.A (k6 e X.env c) (TP X b a Q) X.xe s
def PA(X:Cx)(d:List aA)(t:TA):Prop :=
 ∀(b:Pos) (c:List (af×Obj)) (s:am) (a:St) (H:Hp) (Q:List V->Hp->Prop),Inv X c a H s->t a H Q->aq (au X.prog X.w) X.A (spliced (cg b (aI d X.env))) (AP X c a Q) X.xe s
def PS(X:Cx)(c:aU)(t:TS):Prop :=
 ∀(b:List (af×Obj)) (s:am) (a:St) (H:Hp) (D:j4),Inv X b a H s->t D a H->aq (au X.prog X.w) X.A (exec c X.env) (SP X b D) X.xe s
def j7(X:Cx)(c:List aU)(t:TS):Prop :=
 ∀(b:List (af×Obj)) (s:am) (a:St) (H:Hp) (D:j4),Inv X b a H s->t D a H->aq (au X.prog X.w) X.A (execs c X.env) (SP X b D) X.xe s
theorem aQ{b:Type}{t:Sem b}{Q c:b->am->Prop}{M:Model}{A:aJ}{E:ah->am->Prop}{s:am}(h:aq M A t Q E s)(d:∀a s,Q a s->c a s):aq M A t c E s:=cW h d λ_ _ x=>x
section
variable{X:Cx}
def BZ(i:Nat):TE:=λa H Q=>∃v,a[i]?=aa (aa v)/\Q v H
def tC(v:V):TE:=λ_ H Q=>Q v H
theorem ix{i:Nat}{x:Str}{f:Pos}(p:X.N[i]?=aa x)(j:fN X.env.scope x)(d:(x==("__debug__":Str))=aj:=by decide)(q:(x==("__classdict__":Str))=aj:=by decide):PE X (.Name x f) (BZ i):=by
 intro t s g H Q I h;obtain⟨v,e,h⟩:=h;obtain⟨m,n,o⟩:=I.loc;obtain⟨u,r,l⟩:=o i x v p e j;have b:EP X t g Q u s:=⟨v,H,I,r,h⟩
 rcases l with⟨a,hm⟩|⟨a,c,hc,vt⟩
 .exact uT (CC I.ok.kind a n hm b) d
 .rcases a with a|a
  .exact uT (wpAny_loadName_cell I.ok.kind a hc vt b) d
  .exact uT (wpAny_loadName_free I.ok.kind a hc vt b q) d
theorem KR{i j f}:PE X (.Constant (.int i) j f) (tC (.int i)):=λ_ _ _ H _ I h=>wpAny_Constant_int ⟨.int i,H,I.tok _,⟨_,rfl⟩,h⟩
theorem Iv{b j f}:PE X (.Constant (.bool b) j f) (tC (.bl b)):=λ_ _ _ H _ I h=>Constant_bool ⟨.bl b,H,I,rfl,h⟩
theorem II{j f}:PE X (.Constant .none j f) (tC .non):=λ_ _ _ H _ I h=>Constant_none ⟨.non,H,I,rfl,h⟩
theorem Hq{x j f}:PE X (.Constant (.str x) j f) (tC (.str x)):=λ_ _ _ H _ I h=>Calls.Constant_str ⟨.str x,H,I.tok _,⟨_,rfl⟩,h⟩
def Gl(X:Cx)(x:Str):Prop:=X.env.kindOf x=aa .globalImplicit
theorem pC{E:ah->am->Prop}{g:List (af×Obj)}{s:am}{a:St}{H:Hp}{x:Str}{u:ah}{f:Pos}{Q:ah->am->Prop}(I:Inv X g a H s)(c:Gl X x)(b:X.mg x=aa u)(h:Q u s)(d:(x==("__debug__":Str))=aj:=by decide):aq (au X.prog X.w) X.A (aM (.Name x f) X.env) Q E s :=CD I.ok.kind c (Calls.loadGlobal_global (by rw[I.ok.glob];exact I.mod.glob.keeps I.bk) b h) d
theorem pq{E:ah->am->Prop}{m:List (af×Obj)}{s:am}{a:St}{H:Hp}{x:Str}{u:ah}{f:Pos}{Q:ah->am->Prop}(I:Inv X m a H s)(g:Gl X x)(d:X.mg x=ae)(b:dy x=aa u)(h:Q u s)(c:x≠"__name__":=by decide) (i:(x==("__debug__":Str))=aj:=by decide):aq (au X.prog X.w) X.A (aM (.Name x f) X.env) Q E s:=by obtain⟨n,l,j⟩:=I.mod.blt;exact CD I.ok.kind g (Calls.loadGlobal_builtin (by rw[I.ok.glob];exact I.mod.glob.keeps I.bk) d (by rw[I.ok.blt];exact l.keeps I.bk) ((j x c).trans b) h) i
theorem wN{x:Str}{v:V}{u:ah}{f:Pos}(b:Gl X x)(a:X.mg x=aa u)(r:RelV v u)(c:(x==("__debug__":Str))=aj:=by decide):PE X (.Name x f) (tC v) :=λ_ _ _ H _ I h=>pC I b a ⟨v,H,I,r,h⟩ c
theorem GZ{x:Str}{v:V}{u:ah}{f:Pos}(d:Gl X x)(c:X.mg x=ae)(a:dy x=aa u)(r:RelV v u)(b:x≠"__name__":=by decide)(g:(x==("__debug__":Str))=aj:=by decide):PE X (.Name x f) (tC v) :=λ_ _ _ H _ I h=>pq I d c a ⟨v,H,I,r,h⟩ b g
variable{a b:aA}{g p:TE}{f:Pos}
def PC(X:Cx)(j:CmpOp)(a b:aA)(t:TE):Prop :=
 ∀(i:List (af×Obj)) (s:am) (h:St) (H:Hp) (Q:VK),Inv X i h H s->t h H Q ->
  aq (au X.prog X.w) X.A (aM a X.env) (λv d=>aq (au X.prog X.w) X.A (aM b X.env) (λu c=>aq (au X.prog X.w) X.A (c9 j v u) (EP X i h Q) X.xe c) X.xe d) X.xe s
theorem La(b:aA){c:CmpOp}(h:c≠.In)(d:c≠.NotIn):nE c b=aj:=by
 have j:(c == CmpOp.In)=aj:=by cases c <;> first|rfl|exact absurd rfl h
 have i:(c == CmpOp.NotIn)=aj:=by cases c <;> first|rfl|exact absurd rfl d
 cases b <;> simp[nE,j,i]
def tB(t:TE):TT:=λd H Q=>t d H λx h=>∃c,x=.bl c/\Q c h
theorem J9{i:CmpOp}{t:TE}(h:PC X i a b t)(j:nE i b=aj:=by first|exact La _ (by decide) (by decide)|rfl):PT X (.Compare a [i] [b] f) (tB t):=by
 intro w s l H Q I o;refine wpAny_isTrue_Compare1 (aQ (h w s l H _ I o) λv C j=>aQ j λu B r=>aQ r λc A ⟨x,z,y,m,n⟩=>?_) j;obtain⟨d,rfl,q⟩:=n;cases m;exact k7 ⟨z,y,q⟩
theorem JH{e:aA}{t:TE}(h:PE X e t)(n:∀c,k6 e X.env c=(do let v <-c;standAt e.pos;k8 [v] (truthy v)):=by intro _;rfl):PT X e (tB t):=by
 intro o s i H Q I m;refine isTrue_plain (aQ (h o s i H _ I m) λv w ⟨x,u,r,j,l⟩=>?_) (n _);obtain⟨d,rfl,q⟩:=l;cases j;exact k7 ⟨u,r,q⟩
variable{n o:TT}{rest:List aA}
def DM(t u:TT):TT:=λd H Q=>t d H λc h=>if c=ai then u d h Q else Q aj h
def Ev(t u:TT):TT:=λd H Q=>t d H λc h=>if c=ai then Q ai h else u d h Q
def Kz(t:TT):TT:=λd H Q=>t d H λc h=>Q (!c) h
theorem Iu(i:PT X a n):PW X (.BoolOp .And [a] f) n:=by
 intro l j s d H Q I h;refine isTrue_and (aQ (i j s d H Q I h) λc m e=>?_);cases c with
 |true=>exact isTrue_and_nil e
 |false=>exact e
theorem Hd(i:PT X a n):PW X (.BoolOp .Or [a] f) n:=by
 intro l j s d H Q I h;refine isTrue_or (aQ (i j s d H Q I h) λc m e=>?_);cases c with
 |false=>exact isTrue_or_nil e
 |true=>exact e
theorem G0(u:PT X a n)(t:PW X (.BoolOp .And (b::rest) f) o):PW X (.BoolOp .And (a::b::rest) f) (DM n o):=by
 intro q j s d H Q I h;refine isTrue_and (aQ (u j s d H _ I h) λc r ⟨m,l,i⟩=>?_);cases c with
 |true=>exact t q j r d m Q l i
 |false=>exact⟨m,l,i⟩
theorem ID(u:PT X a n)(t:PW X (.BoolOp .Or (b::rest) f) o):PW X (.BoolOp .Or (a::b::rest) f) (Ev n o):=by
 intro q j s d H Q I h;refine isTrue_or (aQ (u j s d H _ I h) λc r ⟨m,l,i⟩=>?_);cases c with
 |true=>exact⟨m,l,i⟩
 |false=>exact t q j r d m Q l i
theorem Fj(i:PT X a n):PT X (.UnaryOp .Not a f) (Kz n):=by intro j s d H Q I h;exact isTrue_not (i j s d H (λc l=>Q (!c) l) I h)
def Fd(g p:TE):TE:=λd H Q=>g d H λx h=>∃c,x=.bl c/\if c=ai then p d h Q else Q (.bl aj) h
def HI(g:TE):TE:=λd H Q=>g d H λx h=>∃c,x=.bl c/\Q (.bl (!c)) h
theorem Gf{op}{t:TE}(h:PE X a t):PE X (.BoolOp op [a] f) t:=λi s c H Q I d=>BoolOp_one (h i s c H Q I d)
theorem DY(u:PE X a g)(t:PE X (.BoolOp .And (b::rest) f) p):PE X (.BoolOp .And (a::b::rest) f) (Fd g p):=by
 intro j s i H Q I h;refine BoolOp_and (aQ (u j s i H _ I h) λv q ⟨x,m,l,r,d⟩=>?_);obtain⟨c,rfl,d⟩:=d;cases r;refine k7 ?_;cases c with
 |true=>exact t j q i m Q l d
 |false=>exact⟨.bl aj,m,l,rfl,d⟩
theorem J2(l:PE X a g):PE X (.UnaryOp .Not a f) (HI g):=by
 intro m s i H Q I h;refine UnaryOp_ (aQ (l m s i H _ I h) λv t ⟨x,r,q,j,d⟩=>?_);obtain⟨c,rfl,d⟩:=d;cases j;exact not_of (k7 ⟨.bl (!c),r,q,rfl,d⟩)
def Hk(t:TT)(g p:TE):TE:=λd H Q=>t d H λc h=>if c=ai then g d h Q else p d h Q
theorem G5{c:aA}(t:PT X c n)(v:PE X a g)(u:PE X b p):PE X (.IfExp c a b f) (Hk n g p):=by
 intro j s i H Q I h;refine wpAny_IfExp (aQ (t j s i H _ I h) λd l ⟨r,q,m⟩=>?_);cases d with
 |true=>exact v j l i r Q q m
 |false=>exact u j l i r Q q m
end
def b7(K:aw)(H:Hp)(a:af)(xs:List V):Prop :=
 Rd H a (.lst xs) \/
  ∃(o:Obj) (b:Array ah) (n:Nat),K.lookup a=aa o/\o.cls=.type "list"/\o.dict=ae/\o.data=.seq b n/\b.size<=a_/\bq xs b.toList
def b_(K:aw)(H:Hp)(a:af)(xs:List V):Prop :=
 Rd H a (.tup xs) \/
  ∃(o:Obj) (b:Array ah) (n:Nat),K.lookup a=aa o/\o.cls=.type "tuple"/\o.data=.seq b n/\b.size<=a_/\bq xs b.toList
def LB:ah->Option V
 |.none=>aa .non
 |.bool b=>aa (.bl b)
 |.int i _=>aa (.int i)
 |.str x _=>aa (.str x)
 |.bytes b _=>aa (.byt b)
 |.float b _=>aa (.flt b)
 |.ref a=>aa (.ref a)
 |.type n=>aa (.ty n)
 |_=>ae
theorem RelV.abs{x:V}{u:ah}(r:RelV x u):LB u=aa x:=by
 cases x with
 |non=>cases r;rfl
 |bl _=>cases r;rfl
 |int _=>obtain⟨t,rfl⟩:=r;rfl
 |str _=>obtain⟨t,rfl⟩:=r;rfl
 |byt _=>obtain⟨t,rfl⟩:=r;rfl
 |flt _=>obtain⟨t,rfl⟩:=r;rfl
 |ref _=>cases r;rfl
 |ty _=>cases r;rfl
theorem RelV.inj{x y:V}{u:ah}(r:RelV x u)(q:RelV y u):x=y:=dw (r.abs.symm.trans q.abs)
theorem bq.inj:∀{xs a:List V}{b:List ah},bq xs b->bq a b->xs=a
 |_,_,_,.nil,.nil=>rfl
 |_,_,_,.cons r t,.cons d c=>by rw[r.inj d,bq.inj t c]
section
variable{X:Cx}{g:List (af×Obj)}{c:St}{H:Hp}{s:am}{a:af}{b f:List V}
theorem b7.of{K:aw}(h:H a=aa (.lst b)):b7 K H a b:=.inl (.inl h)
theorem b_.of{K:aw}(h:H a=aa (.tup b)):b_ K H a b:=.inl (.inl h)
theorem Inv.list(I:Inv X g c H s)(h:b7 X.K H a b):∃its:List ah,bq b its/\PlainL s.heap a its.toArray/\b.length<=a_:=by
 rcases h with h|⟨o,its,n,i,l,j,d,m,r⟩
 .obtain⟨z,its,n,r,e⟩:=h.ok I.hok;exact⟨its,r,⟨_,n,e,rfl,rfl,rfl⟩,z⟩
 .refine⟨its.toList,r,⟨o,n,I.kIn a o i,l,j,by simpa using d⟩,?_⟩;have e:=r.length;simp only[k9]at e;lia
theorem Inv.tuple(I:Inv X g c H s)(h:b_ X.K H a b):∃d:List ah,bq b d/\IsTup s.heap a d.toArray/\b.length<=a_:=by
 rcases h with h|⟨o,d,n,j,l,i,m,r⟩
 .obtain⟨z,d,r,p,_⟩:=h.ok I.hok;exact⟨d,r,p,z⟩
 .refine⟨d.toList,r,⟨o,I.kIn a o j,l,n,by simpa using i⟩,?_⟩;have e:=r.length;simp only[k9]at e;lia
theorem Inv.list_inj(I:Inv X g c H s)(h:b7 X.K H a b)(q:b7 X.K H a f):b=f:=by
 obtain⟨j,r,⟨o,n,e,_,_,d⟩,_⟩:=I.list h;obtain⟨i,p,⟨t,u,l,_,_,m⟩,_⟩:=I.list q;rw[e]at l;cases l;rw[d]at m;injection m with d1 _;have:j=i:=by simpa using congrArg Array.toList d1
 subst this;exact r.inj p
theorem Inv.tuple_inj(I:Inv X g c H s)(h:b_ X.K H a b)(q:b_ X.K H a f):b=f:=by
 obtain⟨j,r,⟨o,e,_,n,d⟩,_⟩:=I.tuple h;obtain⟨i,p,⟨t,l,_,u,m⟩,_⟩:=I.tuple q;rw[e]at l;cases l;rw[d]at m;injection m with d1 _;have:j=i:=by simpa using congrArg Array.toList d1
 subst this;exact r.inj p
end
abbrev Cx.wish(X:Cx)(E:ah->am->Prop):Cx:={X with xe:=E}
abbrev Cx.nox(X:Cx):Cx:=X.wish λ_ _=>False
theorem Cx.Ok.wish{X:Cx}(ok:X.Ok)(E:ah->am->Prop):(X.wish E).Ok :=⟨ok.mod,ok.kind,ok.glob,ok.blt,ok.above,ok.inj,ok.has,ok.cab,ok.hd,ok.frames,ok.stk,ok.exf,ok.bs,ok.bsz,ok.noex,ok.exfs,ok.funs,ok.frf,ok.tab⟩
theorem Cx.Ok.unwish{X:Cx}{E:ah->am->Prop}(ok:(X.wish E).Ok):X.Ok :=⟨ok.mod,ok.kind,ok.glob,ok.blt,ok.above,ok.inj,ok.has,ok.cab,ok.hd,ok.frames,ok.stk,ok.exf,ok.bs,ok.bsz,ok.noex,ok.exfs,ok.funs,ok.frf,ok.tab⟩
section
variable{X:Cx}{a:List (af×Obj)}{b:St}{H:Hp}{s:am}{E:ah->am->Prop}
theorem Inv.wish(I:Inv X a b H s)(E:ah->am->Prop):Inv (X.wish E) a b H s:=⟨I.ok.wish E,I.os,I.bare,I.base,I.loc,I.cell,I.free,I.freeC,I.pin,I.hok,I.len⟩
theorem Inv.unwish(I:Inv (X.wish E) a b H s):Inv X a b H s:=⟨I.ok.unwish,I.os,I.bare,I.base,I.loc,I.cell,I.free,I.freeC,I.pin,I.hok,I.len⟩
theorem SP.unwish{D:j4}{f:Flow}{g:am}(h:SP (X.wish E) a D f g):SP X a D f g:=by
 cases f with
 |next=>obtain⟨c,d,I,q⟩:=h;exact⟨c,d,I.unwish,q⟩
 |brk=>obtain⟨c,d,I,q⟩:=h;exact⟨c,d,I.unwish,q⟩
 |cont=>obtain⟨c,d,I,q⟩:=h;exact⟨c,d,I.unwish,q⟩
 |ret u=>obtain⟨v,c,d,I,r,q⟩:=h;exact⟨v,c,d,I.unwish,r,q⟩
end
section
variable{X:Cx}{j:aU}{rest:List aU}{t u:TS}{e:aA}{i:TE}{g:Pos}
def Gv:TS:=λD a H=>D.nx a H
def Fh(t u:TS):TS:=λD a H=>t {D with nx:=u D} a H
theorem E1:j7 X [] Gv:=λ_ _ a H _ I h=>wpAny_execs_nil ⟨a,H,I,h⟩
theorem D5(m:PS X j t)(l:j7 X rest u):j7 X (j::rest) (Fh t u):=by
 intro b s c H D I h;refine CF (aQ (m b s c H {D with nx:=u D} I h) λf d q=>?_);cases f with
 |next=>obtain⟨a,o,n,q⟩:=q;exact l b d a o D n q
 |ret v=>exact q
 |brk=>exact q
 |cont=>exact q
theorem EV(b:PS X j t):j7 X [j] t:=by
 intro c s a H D I h;refine CF (aQ (b c s a H D I h) λf d q=>?_);cases f with
 |next=>exact wpAny_execs_nil q
 |ret v=>exact q
 |brk=>exact q
 |cont=>exact q
theorem Inv.quiet{b:List (af×Obj)}{a:St}{H:Hp}{s:am}(I:Inv X b a H s):interactive X.env=aj:=by simp[interactive,I.ok.kind]
def HZ(i:TE):TS:=λD a H=>i a H λ_ b=>D.nx a b
theorem wI(d:PE X e i)(c:l_ e ae g.line X.env=pure aj:=by rfl):PS X (.Expr e g) (HZ i):=by intro f s a H D I h;exact wpAny_Expr_any (aQ (d f s a H _ I h) λv n ⟨x,m,l,o,b⟩=>⟨a,m,l,b⟩) I.quiet c
def HA(i:TE):TS:=λD a H=>i a H D.rt
theorem vY(d:PE X e i):PS X (.Return (aa e) g) (HA i):=by intro f s a H D I h;exact wpAny_Return_some (aQ (d f s a H _ I h) λv n ⟨x,m,l,b,c⟩=>⟨x,a,m,l,b,c⟩)
def K7(c:TT)(t u:TS):TS:=λD a H=>c a H λb d=>if b=ai then t D a d else u D a d
theorem KM{c:aA}{a b:List aU}{m:TT}(r:PT X c m)(w:j7 X a t)(v:j7 X b u):PS X (.If c a b g) (K7 m t u):=by
 intro l s f H D I h;refine wpAny_If (aQ (r l s f H _ I h) λd n ⟨q,p,o⟩=>?_);cases d with
 |true=>exact w l n f q D p o
 |false=>exact v l n f q D p o
end
abbrev TG:=V->St->Hp->(St->Hp->Prop)->Prop
def PG(X:Cx)(a:aA)(t:TG):Prop :=
 ∀(d:List (af×Obj)) (s:am) (c:St) (H:Hp) (v:V) (u:ah) (Q:St->Hp->Prop),Inv X d c H s->RelV v u->t v c H Q ->
  aq (au X.prog X.w) X.A (assign a X.env u) (λ_ g=>∃b f,Inv X d b f g/\Q b f) X.xe s
abbrev wX:=V->V->V->Hp->(Hp->Prop)->Prop
def Bi(X:Cx)(t:wX):Prop :=
 ∀(c:List (af×Obj)) (s:am) (a:St) (H:Hp) (o i v:V) (ov b u:ah) (Q:Hp->Prop),Inv X c a H s->RelV o ov->RelV i b->RelV v u->t o i v H Q ->
  aq (au X.prog X.w) X.A (setItem ov b u) (λ_ f=>∃d,Inv X c a d f/\Q d) X.xe s
section
variable{X:Cx}{a:Pos}
def za(i:Nat):TG:=λv b H Q=>Q (b.set i (aa v)) H
theorem Cz{i:Nat}{x:Str}(f:X.N.Nodup)(c:X.N[i]?=aa x)(b:Loc X.env.scope x)(d:X.fn x=ai\/X.env.scope.names.lookup x=aa .local:=by first|exact .inl rfl|exact .inr rfl|assumption):PG X (.Name x a) (za i):=by intro m s j H v u Q I r h;exact wpAny_assign_Name (ur I f c b r (λl g=>⟨_,H,g,h⟩) d)
def Kd(c d:TE)(t:wX):TG:=λv b H Q=>c b H λo h=>d b h λi g=>t o i v g λf=>Q b f
theorem Dw{o i:aA}{f g:TE}{t:wX}(A:PE X o f)(B:PE X i g)(z:Bi X t)(C:∀v,assign (.Subscript o i a) X.env v=(do
   let ov <-k8 [v] (aM o X.env)
   let b <-k8 [v,ov] (aM i X.env)
   standAt a
   k8 [v,ov,b] (setItem ov b v)
   release [v,ov,b] []):=by intro _;rfl):PG X (.Subscript o i a) (Kd f g t):=by
 intro d s c H v u Q I r h;rw[C];refine ap (ig (aQ (A d s c H _ I h) λov l ⟨x,K,F,n,w⟩=>?_));refine ap (ig (aQ (B d l c K _ F w) λb j ⟨y,J,E,m,q⟩=>?_));refine ap (wpAny_standAt (ap (ig (aQ (z d j c J x y v ov b u _ E n m r q) λ_ L ⟨G,D,p⟩=>?_))));exact wpAny_release ⟨c,G,D,p⟩
def zy(c:TE)(g:TG):TS:=λD b H=>c b H λx d=>g x b d D.nx
theorem G3{b e:aA}{d:TE}{g:TG}(p:PE X e d)(o:PG X b g)(n:swapsWithSole [b] e a.line X.env=pure aj:=by rfl)(m:swappedStores [b] e X.env=pure ae:=by rfl)(r:(assignEach [b] X.env).map (·.2)=[assign b X.env]:=by rfl):PS X (.Assign [b] e a) (zy d g):=by intro f s c H D I h;refine wpAny_Assign_stores (aQ (p f s c H _ I h) λv i ⟨x,u,t,j,l⟩=>?_) n m;rw[r];exact aQ (o f i c u x v _ t j l) λ_ w q=>q
theorem B9{i:Nat}{x:Str}{e:aA}{c:TE}{b:Pos}(p:X.N.Nodup)(m:X.N[i]?=aa x)(j:Loc X.env.scope x)(o:PE X e c)(l:l_ e (aa (.Name x b)) a.line X.env=pure aj:=by rfl)(n:X.fn x=ai\/X.env.scope.names.lookup x=aa .local:=by first|exact .inl rfl|exact .inr rfl|assumption):PS X (.Assign [.Name x b] e a) (zy c (za i)):=by intro q s d H D I h;refine wpAny_Assign_Name (aQ (o q s d H _ I h) λv z ⟨y,u,t,f,g⟩=>?_) l;exact ur t p m j f (λw r=>⟨_,u,r,g⟩) n
end
structure It where
 go:Nat->Hp->Prop
 yld:Nat->Hp->V->Hp->Prop
 stop:Nat->Hp->Prop
def jw(X:Cx)(a:List (af×Obj))(H:Hp)(b:af):Prop :=
 H b=ae/\b≠X.env.locals/\b∉X.fs/\(b∈X.ex\/X.s₀.heap.objs.size<=b)/\(∀x c,X.env.cells.lookup x=aa c->c≠b)/\∀p∈X.pn++a,p.1≠b
theorem Inv.fpOk{X:Cx}{d:List (af×Obj)}{g:St}{H f:Hp}{s:am}{b:af}(I:Inv X d g H s)(a:s.heap.objs.size<=b)(i:f b=ae):jw X d f b:=by
 refine⟨i,ma (eu I.lt a),I.nofs a,.inr (cA I.sz a),λx c e z=>?_,λp h z=>?_⟩
 .obtain⟨v,q⟩:=I.cell x c e;exact absurd (eu q.lt (by rw[z];exact a)) (gR _)
 .exact absurd (eu (bE (I.pin p h).1) (by rw[z];exact a)) (gR _)
structure oR(P:aN)(w:aD)(K:aw)(tg:aA)(J:It)(fp:List af)(it:af)(tn:Nat->az->Prop):Prop where
 mem:it∈fp
 obj:∀i h,tn i h->∀b∈fp,∃o,h.get? b=aa o/\∀v,o.data≠.cell v
 keep:∀i h h',tn i h->(∀b∈fp,∀o,h.get? b=aa o->h'.get? b=aa o)->tn i h'
 item:∀(X:Cx),X.prog=P->X.w=w->X.K=K->X.calm=ai->∀(i:Nat) (ag:List (af×Obj)) (s:am) (σ:St) (H:Hp) (E:ah->am->Prop),Inv X ag σ H s->(∀b∈fp,jw X ag H b)->tn i s.heap->J.go i H ->
  aq (au P w) X.A (pyNext (.ref it)) (λr s1=>∃u,r=aa u /\ aq (au P w) X.A (xW tg (.ref it) u) (λ_ s2=>∃x H',Inv X ag σ H' s2/\RelV x u/\J.yld i H x H'/\tn (i+1) s2.heap/\∀b∈fp,H' b=ae) E s1) E s
 done:∀(X:Cx),X.prog=P->X.w=w->X.K=K->X.calm=ai->∀(i:Nat) (ag:List (af×Obj)) (s:am) (σ:St) (H:Hp) (E:ah->am->Prop),Inv X ag σ H s->(∀b∈fp,jw X ag H b)->tn i s.heap->J.stop i H ->
  aq (au P w) X.A (pyNext (.ref it)) (λr s1=>r=ae/\Inv X ag σ H s1) E s
 self:∀(A:aJ) (i:Nat) (s:am) (Q:ah->am->Prop) (E:ah->am->Prop),tn i s.heap->Q (.ref it) s->aq (au P w) A (k_ (.ref it)) Q E s
abbrev TI:=St->Hp->(It->Hp->Prop)->Prop
def ql(X:Cx)(i:List (af×Obj))(j:St)(l:aA)(R:It->Hp->Prop)(a:ah)(f:am):Prop :=
 ∃(g:af) (h:List af) (d:Nat->az->Prop) (J:It) (c:Hp),a=.ref g/\Inv X i j c f/\oR X.prog X.w X.K l J h g d/\d 0 f.heap/\(∀b∈h,jw X i c b)/\R J c
def PI(X:Cx)(f a:aA)(d:TI):Prop :=
 ∀(c:List (af×Obj)) (s:am) (b:St) (H:Hp) (R:It->Hp->Prop),Inv X c b H s->d b H R ->
  aq (au X.prog X.w) X.A (aM a X.env) (λv g=>aq (au X.prog X.w) X.A (k_ v) (ql X c b f R) X.xe g) X.xe s
theorem qi{M:Model}{A:aJ}{E:ah->am->Prop}{s:am}{c:aA}{d:af}{u:ah}{o:Obj}{n:String}{b:Array ah}{Q:Unit->am->Prop}(f:s.heap.get? d=aa o)(j:o.cls=.type n)(i:o.data=.fields b)(g:["enumerate","zip","dict_itemiterator","dict_reverseitemiterator","odict_iterator","itertools.zip_longest","itertools.pairwise"].contains n=aj) (a:Q () s):aq M A (xW c (.ref d) u) Q E s:=by
 unfold xW;cases c <;> first
  |exact aE a
  | (cases u <;> first
    |exact aE a
    | (refine ap (wpAny_load f ?_)
       rw[j,i];show aq M A (if(["enumerate","zip","dict_itemiterator","dict_reverseitemiterator","odict_iterator","itertools.zip_longest","itertools.pairwise"].contains n&&b[0]? == aa (cO _))=ai then _ else _) Q E s;rw[if_neg (by intro h;rw[g,xX]at h;cases h)];exact aE a))
def vS(K:aw)(a:af):It :=⟨λi H=>∃xs x,b7 K H a xs/\xs[i]?=aa x,λi H x b=>b=H/\∀xs,b7 K H a xs->xs[i]?=aa x,λi H=>∃xs,b7 K H a xs/\xs.length<=i⟩
def wU(K:aw)(a:af):It :=⟨λi H=>∃xs x,b_ K H a xs/\xs[i]?=aa x,λi H x b=>b=H/\∀xs,b_ K H a xs->xs[i]?=aa x,λi H=>∃xs,b_ K H a xs/\xs.length<=i⟩
def uh(a:Int)(n:Nat):It:=⟨λi _=>i<n,λi H x b=>b=H/\x=.int (a+i),λi _=>n<=i⟩
theorem HS{P:aN}{w:aD}{K:aw}{O:aA}(a g:af):oR P w K O (vS K a) [g] g (λi h=>h.IsListIter g a i) where
 mem:=by simp
 obj:=λi h f b j=>by
  have e:b=g:=by simpa using j
  subst e;obtain⟨o,e,c,d⟩:=f;exact⟨o,e,λv z=>by rw[d]at z;cases z⟩
 keep:=λi h n f k=>f.at λo e=>k g (by simp) o e
 item:=by intro X B y C L i N s J H E I m f A;subst B y C;obtain⟨xs,x,l,t⟩:=A;obtain⟨r,q,p,S⟩:=I.list l;obtain⟨u,W,Q⟩:=q.get t;obtain⟨G,F,f2,f3,f4,D⟩:=m g (by simp);refine wpAny_pyNext_list_item f p.isList (x:=u) (by simpa using W) λn M sb=>?_;have Z:Inv X N J H {s with heap:=n}:=I.turned (t':=s.toks) (λb o j e=>(sb.2 b j).trans e) G F f3 f4 D;obtain⟨o,e,c,d⟩:=id M;exact⟨u,rfl,qi (s:={s with heap:=n}) e c d (by decide) ⟨x,H,Z,Q,⟨rfl,λys T=>by rw[I.list_inj T l];exact t⟩,M,λb j=>(m b j).1⟩⟩
 done:=by intro X B y C L i N s J H E I m f A;subst B y C;obtain⟨xs,l,t⟩:=A;obtain⟨r,q,p,S⟩:=I.list l;obtain⟨G,F,f2,f3,f4,D⟩:=m g (by simp);have hl:=q.length;exact wpAny_pyNext_list_end (I.ok.hd L) f p.isList (by simp;lia) λn Y=>⟨rfl,I.turned (t':=s.toks) (λb o j e=>Y b o j e) G F f3 f4 D⟩
 self:=λ_ _ _ _ _ f h=>wpAny_pyIter_listiter f h
theorem J7{P:aN}{w:aD}{K:aw}{O:aA}(a j:af):oR P w K O (wU K a) [j] j (λi h=>h.IsTupleIter j a i) where
 mem:=by simp
 obj:=λi h f b l=>by
  have e:b=j:=by simpa using l
  subst e;obtain⟨o,e,c,d⟩:=f;exact⟨o,e,λv z=>by rw[d]at z;cases z⟩
 keep:=λi h q f k=>f.at λo e=>k j (by simp) o e
 item:=by intro X B y C L i N s J H E I n f A;subst B y C;obtain⟨xs,x,m,t⟩:=A;obtain⟨g,r,p,S⟩:=I.tuple m;obtain⟨u,W,Q⟩:=r.get t;obtain⟨G,F,f2,f3,f4,D⟩:=n j (by simp);refine wpAny_pyNext_tuple_item f (show s.heap.IsTuple a g.toArray from p) (x:=u) (by simpa using W) λq M sb=>?_;have Z:Inv X N J H {s with heap:=q}:=I.turned (t':=s.toks) (λb o l e=>(sb.2 b l).trans e) G F f3 f4 D;obtain⟨o,e,c,d⟩:=id M;exact⟨u,rfl,qi (s:={s with heap:=q}) e c d (by decide) ⟨x,H,Z,Q,⟨rfl,λys T=>by rw[I.tuple_inj T m];exact t⟩,M,λb l=>(n b l).1⟩⟩
 done:=by intro X B y C L i N s J H E I n f A;subst B y C;obtain⟨xs,m,t⟩:=A;obtain⟨g,r,p,S⟩:=I.tuple m;obtain⟨G,F,f2,f3,f4,D⟩:=n j (by simp);have hl:=r.length;exact wpAny_pyNext_tuple_end (I.ok.hd L) f (show s.heap.IsTuple a g.toArray from p) (by simp;lia) λq Y=>⟨rfl,I.turned (t':=s.toks) (λb o l e=>Y b o l e) G F f3 f4 D⟩
 self:=λ_ _ _ _ _ f h=>wpAny_pyIter_tupleiter f h
theorem GV{P:aN}{w:aD}{K:aw}{G:aA}(c:af)(f:Int)(n:Nat):oR P w K G (uh f n) [c] c (λi h=>xY h c (f+(i:Nat)*1) ((n:Int)-(i:Nat)) 1) where
 mem:=by simp
 obj:=λi h a b d=>by
  have e:b=c:=by simpa using d
  subst e;exact⟨_,a,λv z=>by
   have F:Data.fields _=Data.cell v:=z;cases F⟩
 keep:=λi h j a k=>k c (by simp) _ a
 item:=by intro X q l r p i D s A H E I g a m;subst q l r;obtain⟨y,x,f2,f3,f4,u⟩:=g c (by simp);have W:=Walks.range (prog:=X.prog) (w:=X.w) (I.ok.hd p) c f 1 n;refine W.item i s _ _ m a λv j B L C J=>?_;obtain⟨t,rfl⟩:=L;have N:Inv X D A H {s with heap:=j,toks:=B}:=I.turned (λb o d e=>J b o (by simpa using d) e) y x f3 f4 u;refine⟨_,rfl,qi (s:={s with heap:=j,toks:=B}) (n:="range_iterator") C rfl rfl (by decide) ⟨.int (f+i),H,N,⟨t,?_⟩,⟨rfl,rfl⟩,C,λb d=>(g b d).1⟩⟩;rw[Int.mul_one]
 done:=by intro X q l r p i D s A H E I g a m;subst q l r;obtain⟨y,x,f2,f3,f4,u⟩:=g c (by simp);exact wpAny_pyNext_range_end (I.ok.hd p) a (by have:n<=i:=m;lia) λj M=>⟨rfl,I.turned (t':=s.toks) (λb o d e=>M b o d e) y x f3 f4 u⟩
 self:=λ_ _ _ _ _ a h=>wpAny_pyIter_rangeiter a h
section
variable{X:Cx}{c:aA}
theorem D6{h:List (af×Obj)}{f:St}{H:Hp}{s:am}{R:It->Hp->Prop}{E:ah->am->Prop}{a d:Int}{t u v:Tok}{g:Nat}(I:Inv X h f H s)(p:-(2^62)<=a)(n:a<2^62)(m:-(2^62)<=d)(l:d<2^62)(q:R (uh a (d-a).toNat) H):aq (au X.prog X.w) X.A (k_ (.ref s.heap.objs.size)) (ql X h f c R) E {s with heap:=s.heap.push {cls:=.type "range",data:=.fields #[.int a t,.int d u,.int 1 v]},toks:=g}:=by
 refine wpAny_pyIter_range (IsRange.new ..) (small_one p n m l) ?_;have i:Inv X h f H {s with heap:=s.heap.push {cls:=.type "range",data:=.fields #[.int a t,.int d u,.int 1 v]},toks:=g}:=I.kept λb o e=>bd _ e;refine⟨(s.heap.push {cls:=.type "range",data:=.fields #[.int a t,.int d u,.int 1 v]}).objs.size,[(s.heap.push {cls:=.type "range",data:=.fields #[.int a t,.int d u,.int 1 v]}).objs.size],_,_,H,rfl,i.kept (t':=g) λb o e=>bd _ e,GV _ a (d-a).toNat,?_,λb j=>?_,q⟩
 .have w:a+((0:Nat):Int)*1=a:=by simp
  have r:(((d-a).toNat:Nat):Int)-((0:Nat):Int)=xZ a d 1:=by rw[rangeSize_one];split <;> lia
  show xY _ _ (a+((0:Nat):Int)*1) ((((d-a).toNat:Nat):Int)-((0:Nat):Int)) 1;rw[w,r];exact cu _ rfl
 .have e:b=(s.heap.push {cls:=.type "range",data:=.fields #[.int a t,.int d u,.int 1 v]}).objs.size:=by simpa using j
  subst e;exact i.fpOk (a8 _) (i.hok.fresh (a8 _))
def Ek(d:TA):TI:=λa H R=>d a H λb f=>∃j:Int,b=[.int j]/\-(2^62)<=j/\j<2^62/\R (uh 0 j.toNat) f
theorem Le{a:aA}{f:TA}{p b:Pos}(u:Gl X "range")(o:X.mg "range"=ae)(v:PA X [a] f)(n:aI [a] X.env=[(aj,aM a X.env)]:=by rfl):PI X c (.Call (.Name "range" p) [a] [] b) (Ek f):=by
 intro w s g H R I h;refine Call_ (pq I u o boot_range (CG (aQ (v b w s g H _ I h) λz A ⟨y,B,x,l,d⟩=>?_) n rfl));obtain⟨j,e,d,m,q⟩:=d;subst e;cases l with
 |cons r i=>
  cases i;obtain⟨t,rfl⟩:=r;exact call_range_1 (D6 x ∅ ∅ d m (by simpa using q))
def JN(j:TI)(g:TG)(l:TS):TS:=λD a H=>j a H λJ o=>∃W:Nat->Nat->St->Hp->Prop,(∃m,W 0 m a o)/\∀i m a H,W i m a H ->
 (J.stop i H/\D.nx a H)\/(J.go i H/\∃N:St->Hp->Prop,(∀b d,N b d->∃h,h<m/\W (i+1) h b d)/\∀x d,J.yld i H x d->g x a d λf n=>l {D with nx:=N,ct:=N,bk:=D.nx} f n)
def qY(a:List af)(h:az):List (af×Obj):=a.filterMap λb=>(h.get? b).map λo=>(b,o)
theorem uy{a:List af}{h:az}{b:af}{o:Obj}(d:b∈a)(e:h.get? b=aa o):(b,o)∈qY a h:=List.mem_filterMap.mpr ⟨b,d,by rw[e];rfl⟩
theorem G7{a:List af}{h:az}{p:af×Obj}(d:p∈qY a h):p.1∈a/\h.get? p.1=aa p.2:=by
 obtain⟨b,f,e⟩:=List.mem_filterMap.mp d;cases q:h.get? b with
 |none=>rw[q]at e;cases e
 |some o=>rw[q]at e;have g:(b,o)=p:=dw e;subst g;exact⟨f,q⟩
theorem Inv.pinned{f:List (af×Obj)}{g:St}{H:Hp}{s:am}{a:List af}(I:Inv X f g H s)(m:∀b∈a,jw X f H b)(l:∀b∈a,∃o,s.heap.get? b=aa o/\∀v,o.data≠.cell v):Inv X (f++qY a s.heap) g H s :=
 I.pins_of λp j=>(ie.mp j).elim (λz=>I.pin p (ka _ z)) λz=>by
  obtain⟨h,e⟩:=G7 z;obtain⟨q,n,f2,_⟩:=m p.1 h;obtain⟨o,i,d⟩:=l p.1 h;rw[e]at i;cases i;exact⟨e,q,n,f2,d⟩
theorem Inv.unpinned{b d:List (af×Obj)}{a:St}{H:Hp}{s:am}(I:Inv X (b++d) a H s):Inv X b a H s:=I.pins_of λp f=>I.pin p (ka _ (xV _ f))
theorem Hz{q:aA}{C:List aU}{wi:TI}{g:TG}{tb:TS}{S:Pos}(K:PassesOwn (au X.prog X.w) X.A X.env X.xe)(hc:X.calm=ai)(hi:PI X c q wi)(hg:PG X c g)(t:j7 X C tb)(hs:∀x,uU q X.env x=pure x:=by intro _;rfl):PS X (.For c q C [] S) (JN wi g tb):=by
 intro E s σ H D I h;refine wpAny_For (aQ (hi E s σ H _ I h) λv s1 h1=>aQ h1 λitv s2 h2=>?_) hs;obtain⟨it,M,tn,J,H2,e,I2,T,aS,f2,W,⟨m0,w0⟩,F⟩:=h2;subst e;have p:∀{A:Hp},(∀b∈M,A b=ae)->∀b∈M,jw X E A b:=λhn b t=>⟨hn b t,(f2 b t).2⟩
 refine codeAny_forLoop_any (λn s'=>∃i l A,Inv X E l A s'/\tn i s'.heap/\(∀b∈M,A b=ae)/\W i n l A) ?_ m0 ⟨0,σ,H2,I2,aS,λb t=>(f2 b t).1,w0⟩;rintro n s3 ⟨i,j,O,I3,bg,L,w3⟩;rcases F i n j O w3 with⟨stop,qn⟩|⟨go,N,hN,step⟩
 .refine uV K (aQ (T.done X rfl rfl rfl hc i E s3 j O X.xe I3 (p L) bg stop) λr s4 ⟨Y,I4⟩=>?_);subst Y;exact wpAny_execs_nil ⟨j,O,I4,qn⟩
 .refine uV K (aQ (T.item X rfl rfl rfl hc i E s3 j O X.xe I3 (p L) bg go) λr s4 ⟨u,Y,h4⟩=>?_);subst Y;refine uV K (aQ h4 λ_ s5 ⟨x,H5,I5,r5,y5,bL,Z⟩=>?_);have I5':=I5.pinned (p Z) (T.obj _ _ bL);refine uV K (aQ (hg _ s5 j H5 x u _ I5' r5 (step x H5 y5)) λ_ s6 ⟨P,H6,I6,q6⟩=>?_);refine uV K (aQ (t _ s6 P H6 _ I6 q6) λf Q B=>?_);have w:∀{a:St}{z:Hp},Inv X (E++qY M s5.heap) a z Q->N a z->∃m,m<n/\∃i l A,Inv X E l A Q/\tn i Q.heap/\(∀b∈M,A b=ae)/\W i m l A:=λ{a z} y G=>by obtain⟨m',hm,w7⟩:=hN a z G;refine⟨m',hm,i+1,a,z,y.unpinned,T.keep _ _ _ bL λb t o e=>(y.pin (b,o) (ka _ (ka _ (uy t e)))).1,λb t=>?_,w7⟩;obtain⟨o,e,d⟩:=T.obj _ _ bL b t;exact(y.pin (b,o) (ka _ (ka _ (uy t e)))).2.1
  cases f with
  |next=>obtain⟨a,z,y,G⟩:=B;exact w y G
  |cont=>obtain⟨a,z,y,G⟩:=B;exact w y G
  |brk=>obtain⟨a,z,y,B⟩:=B;exact⟨a,z,y.unpinned,B⟩
  |ret v=>obtain⟨x7,a,z,y,r7,B⟩:=B;exact⟨x7,a,z,y.unpinned,r7,B⟩
end
abbrev R2:=V->V->Hp->VK->Prop
def bF(X:Cx)(f:ah->ah->Sem ah)(r:R2):Prop :=
 ∀(b:List (af×Obj)) (s:am) (a:St) (H:Hp) (x y:V) (v u:ah) (Q:VK),Inv X b a H s->RelV x v->RelV y u->r x y H Q ->
  aq (au X.prog X.w) X.A (f v u) (EP X b a Q) X.xe s
def uP(X:Cx)(f:ah->Sem ah)(r:V->Hp->VK->Prop):Prop :=
 ∀(b:List (af×Obj)) (s:am) (a:St) (H:Hp) (x:V) (v:ah) (Q:VK),Inv X b a H s->RelV x v->r x H Q ->
  aq (au X.prog X.w) X.A (f v) (EP X b a Q) X.xe s
def d8(X:Cx)(f:ah)(r:List V->Hp->VK->Prop):Prop :=
 ∀(c:List (af×Obj)) (s:am) (a:St) (H:Hp) (xs:List V) (b:List ah) (Q:VK),Inv X c a H s->bq xs b->r xs H Q ->
  aq (au X.prog X.w) X.A (call f b) (EP X c a Q) X.xe s
def tK(r:R2)(c b:TE):TE:=λa H Q=>c a H λx f=>b a f λy d=>r x y d Q
def JD(r:V->Hp->VK->Prop)(b:TE):TE:=λa H Q=>b a H λx c=>r x c Q
def rI(C:Int->Int->Prop)(g:Int->Int->V):R2:=λx y H Q=>∃i j,x=.int i/\y=.int j/\C i j/\Q (g i j) H
def jm(g:Int->Int->V):R2:=λx y H Q=>∃i j,x=.int i/\y=.int j/\Q (g i j) H
def rU(g:Int->V):V->Hp->VK->Prop:=λx H Q=>∃i,x=.int i/\Q (g i) H
section
variable{X:Cx}{a b c:aA}{d m n:TE}{l:Pos}
theorem xF(E:PE X a d)(D:PE X b m){q:List (af×Obj)}{s:am}{g:St}{H:Hp}{R:V->V->Hp->Prop}(I:Inv X q g H s)(h:d g H λx r=>m g r λy i=>R x y i) {Q:ah->am->Prop}{f:ah->ah->Sem ah}(C:∀v u p x y i,Inv X q g i p->RelV x v->RelV y u->R x y i->aq (au X.prog X.w) X.A (f v u) Q X.xe p):aq (au X.prog X.w) X.A (aM a X.env) (λv o=>aq (au X.prog X.w) X.A (aM b X.env) (λu j=>aq (au X.prog X.w) X.A (f v u) Q X.xe j) X.xe o) X.xe s:=by refine aQ (E q s g H _ I h) λv t ⟨x,r,G,z,B⟩=>?_;refine aQ (D q t g r _ G B) λu p ⟨y,i,F,w,A⟩=>?_;exact C v u p x y i F z w A
theorem DH{f:Operator}{r:R2}(p:bF X (gT f) r)(w:PE X a d)(t:PE X b m):PE X (.BinOp a f b l) (tK r d m):=by intro z s g H Q I h;exact wpAny_BinOp (xF w t I h λv u i x y B A o j q=>p z i g B x y v u Q A o j q)
theorem JS{g:UnaryOp}{r:V->Hp->VK->Prop}(q:uP X (unaryOp g) r)(t:PE X a d):PE X (.UnaryOp g a l) (JD r d):=by intro i s f H Q I h;exact UnaryOp_ (aQ (t i s f H _ I h) λv j ⟨x,w,u,o,p⟩=>q i j f w x v Q u o p)
theorem wV{f:ah->ah->Sem ah}{C:Int->Int->Prop}{g:Int->Int->Int}(o:∀(i j:Int) (t u:Tok) (s:am) (Q:ah->am->Prop) (E:ah->am->Prop),C i j->Q (.int (g i j) s.toks) {s with toks:=s.toks+1}->aq (au X.prog X.w) X.A (f (.int i t) (.int j u)) Q E s):bF X f (rI C λi j=>.int (g i j)):=by intro B s A H x y v u Q I w r h;obtain⟨i,j,rfl,rfl,z,q⟩:=h;obtain⟨t,rfl⟩:=w;obtain⟨p,rfl⟩:=r;exact o i j t p s _ _ z ⟨.int (g i j),H,I.tok _,⟨_,rfl⟩,q⟩
theorem AN{f:ah->ah->Sem ah}{g:Int->Int->Int}(o:∀(i j:Int) (t u:Tok) (s:am) (Q:ah->am->Prop) (E:ah->am->Prop),Q (.int (g i j) s.toks) {s with toks:=s.toks+1}->aq (au X.prog X.w) X.A (f (.int i t) (.int j u)) Q E s):bF X f (jm λi j=>.int (g i j)):=by intro A s z H x y v u Q I w r h;obtain⟨i,j,rfl,rfl,q⟩:=h;obtain⟨t,rfl⟩:=w;obtain⟨p,rfl⟩:=r;exact o i j t p s _ _ ⟨.int (g i j),H,I.tok _,⟨_,rfl⟩,q⟩
theorem uS{f:ah->ah->Sem ah}{g:Int->Int->Bool}(o:∀(i j:Int) (t u:Tok) (s:am) (Q:ah->am->Prop) (E:ah->am->Prop),Q (.bool (g i j)) s->aq (au X.prog X.w) X.A (f (.int i t) (.int j u)) Q E s):bF X f (jm λi j=>.bl (g i j)):=by intro A s z H x y v u Q I w r h;obtain⟨i,j,rfl,rfl,q⟩:=h;obtain⟨t,rfl⟩:=w;obtain⟨p,rfl⟩:=r;exact o i j t p s _ _ ⟨.bl (g i j),H,I,rfl,q⟩
def z8(i j:Int):Prop:=0<=j/\j<=1000000/\i.natAbs<2^64
def wQ(i j:Int):Prop:=(-(2^64)<i/\i<2^64)\/(-(2^64)<j/\j<2^64)
theorem wQ.ok{i j:Int}(h:wQ i j):IntMulOk i j:=by
 rcases h with⟨h1,h2⟩|⟨h1,h2⟩
 .exact .of_left (intBits_le_64 h1 h2)
 .exact .of_right (intBits_le_64 h1 h2)
theorem Mg:bF X (gT .Add) (jm λi j=>.int (i+j)):=AN λ_ _ _ _ _ _ _ q=>add_int q
theorem tz:bF X (gT .Sub) (jm λi j=>.int (i-j)):=AN λ_ _ _ _ _ _ _ q=>sub_int q
theorem L6:bF X (gT .Mult) (rI wQ λi j=>.int (i*j)):=wV λ_ _ _ _ _ _ _ f q=>mul_int q f.ok
theorem oG:bF X (gT .Mod) (rI (λ_ j=>0<j) λi j=>.int (i % j)):=wV λi j _ _ _ _ _ f q=>by have g:(0:Int)<j:=f;exact mod_int' ∅ (by rw[Int.fmod_eq_emod_of_nonneg i ∅];exact q)
theorem JU:bF X (gT .Pow) (rI z8 λi j=>.int (i^j.toNat)):=wV λ_ _ _ _ _ _ _ f q=>pow_int_small f.1 f.2.1 f.2.2 q
theorem D_{f:ah->Sem ah}{g:Int->Int}(j:∀(i:Int) (t:Tok) (s:am) (Q:ah->am->Prop) (E:ah->am->Prop),Q (.int (g i) s.toks) {s with toks:=s.toks+1}->aq (au X.prog X.w) X.A (f (.int i t)) Q E s):uP X f (rU λi=>.int (g i)):=by intro r s p H x v Q I o h;obtain⟨i,rfl,q⟩:=h;obtain⟨t,rfl⟩:=o;exact j i t s _ _ ⟨.int (g i),H,I.tok _,⟨_,rfl⟩,q⟩
theorem zW:uP X (unaryOp .USub) (rU λi=>.int (-i)):=D_ λ_ _ _ _ _ q=>neg_int q
end
def qU:V->V->Bool
 |.non,.non=>ai|.non,.int _=>ai|.int _,.non=>ai|.non,.bl _=>ai|.bl _,.non=>ai|.non,.str _=>ai|.str _,.non=>ai
 |.int _,.int _=>ai|.bl _,.bl _=>ai|.str _,.str _=>ai|.byt _,.byt _=>ai
 |.int _,.str _=>ai|.str _,.int _=>ai|.bl _,.str _=>ai|.str _,.bl _=>ai
 |_,_=>aj
def A4:R2:=λx y H Q=>qU x y=ai/\Q (.bl (decide (x=y))) H
def Ae:R2:=λx y H Q=>qU x y=ai/\Q (.bl (!decide (x=y))) H
theorem AT{i j:Int}:decide (V.int i=V.int j)=(i == j):=by rw[me];simp
theorem Aj{i j:Bool}:decide (V.bl i=V.bl j)=(i == j):=by rw[me];simp
theorem zF{i j:Str}:decide (V.str i=V.str j)=(i == j):=by rw[me];simp
theorem Cq{i j:Array UInt8}:decide (V.byt i=V.byt j)=(i.toList == j.toList):=by
 rw[me];cases i;cases j;simp
section
variable{X:Cx}{a b c:aA}{l g o:TE}{m:Pos}
theorem cB{h:List (af×Obj)}{d:St}{H:Hp}{s:am}{Q:VK}{k f:Bool}(I:Inv X h d H s)(q:Q (.bl k) H)(e:k=f):EP X h d Q (.bool f) s:=by subst e;exact⟨.bl k,H,I,rfl,q⟩
theorem Mc:bF X (c9 .Eq) A4:=by
 intro w s r H x y v u Q I p d h;obtain⟨n,q⟩:=h;cases x with
 |non=>
  cases p;cases y with
  |non=>cases d;exact PySem.EqNone.eq_none_none (cB I q (by simp))
  |bl j=>cases d;exact PySem.EqNone.eq_none_bool (cB I q (by simp))
  |int j=>obtain⟨f,rfl⟩:=d;exact PySem.EqNone.eq_none_int (cB I q (by simp))
  |str j=>obtain⟨f,rfl⟩:=d;exact PySem.EqNone.eq_none_str (cB I q (by simp))
  |_=>exact absurd (show aj=ai from n) eA
 |bl i=>
  cases p;cases y with
  |non=>cases d;exact PySem.EqNone.eq_bool_none (cB I q (by simp))
  |bl j=>cases d;exact eq_bool (cB I q Aj)
  |str j=>obtain⟨f,rfl⟩:=d;exact PySem.EqMixed.eq_bool_str (cB I q (by simp))
  |_=>exact absurd (show aj=ai from n) eA
 |int i=>
  obtain⟨t,rfl⟩:=p;cases y with
  |non=>cases d;exact PySem.EqNone.eq_int_none (cB I q (by simp))
  |int j=>obtain⟨f,rfl⟩:=d;exact eq_int (cB I q AT)
  |str j=>obtain⟨f,rfl⟩:=d;exact PySem.EqMixed.eq_int_str (cB I q (by simp))
  |_=>exact absurd (show aj=ai from n) eA
 |str i=>
  obtain⟨t,rfl⟩:=p;cases y with
  |non=>cases d;exact PySem.EqNone.eq_str_none (cB I q (by simp))
  |bl j=>cases d;exact PySem.EqMixed.eq_str_bool (cB I q (by simp))
  |int j=>obtain⟨f,rfl⟩:=d;exact PySem.EqMixed.eq_str_int (cB I q (by simp))
  |str j=>obtain⟨f,rfl⟩:=d;exact eq_str (cB I q zF)
  |_=>exact absurd (show aj=ai from n) eA
 |byt i=>
  obtain⟨t,rfl⟩:=p;cases y with
  |byt j=>obtain⟨f,rfl⟩:=d;exact PySem.W.eq_bytes (cB I q Cq)
  |_=>exact absurd (show aj=ai from n) eA
 |_=>cases y <;> exact absurd (show aj=ai from n) eA
theorem Mp:bF X (c9 .NotEq) Ae:=by
 intro w s r H x y v u Q I p d h;obtain⟨n,q⟩:=h;cases x with
 |non=>
  cases p;cases y with
  |non=>cases d;exact PySem.EqNone.ne_none_none (cB I q (by simp))
  |bl j=>cases d;exact PySem.EqNone.ne_none_bool (cB I q (by simp))
  |int j=>obtain⟨f,rfl⟩:=d;exact PySem.EqNone.ne_none_int (cB I q (by simp))
  |str j=>obtain⟨f,rfl⟩:=d;exact PySem.EqNone.ne_none_str (cB I q (by simp))
  |_=>exact absurd (show aj=ai from n) eA
 |bl i=>
  cases p;cases y with
  |non=>cases d;exact PySem.EqNone.ne_bool_none (cB I q (by simp))
  |bl j=>cases d;exact ne_bool (cB I q (congrArg not Aj))
  |str j=>obtain⟨f,rfl⟩:=d;exact PySem.EqMixed.ne_bool_str (cB I q (by simp))
  |_=>exact absurd (show aj=ai from n) eA
 |int i=>
  obtain⟨t,rfl⟩:=p;cases y with
  |non=>cases d;exact PySem.EqNone.ne_int_none (cB I q (by simp))
  |int j=>obtain⟨f,rfl⟩:=d;exact ne_int (cB I q (congrArg not AT))
  |str j=>obtain⟨f,rfl⟩:=d;exact PySem.EqMixed.ne_int_str (cB I q (by simp))
  |_=>exact absurd (show aj=ai from n) eA
 |str i=>
  obtain⟨t,rfl⟩:=p;cases y with
  |non=>cases d;exact PySem.EqNone.ne_str_none (cB I q (by simp))
  |bl j=>cases d;exact PySem.EqMixed.ne_str_bool (cB I q (by simp))
  |int j=>obtain⟨f,rfl⟩:=d;exact PySem.EqMixed.ne_str_int (cB I q (by simp))
  |str j=>obtain⟨f,rfl⟩:=d;exact ne_str (cB I q (congrArg not zF))
  |_=>exact absurd (show aj=ai from n) eA
 |byt i=>
  obtain⟨t,rfl⟩:=p;cases y with
  |byt j=>obtain⟨f,rfl⟩:=d;exact PySem.W.ne_bytes (cB I q (congrArg not Cq))
  |_=>exact absurd (show aj=ai from n) eA
 |_=>cases y <;> exact absurd (show aj=ai from n) eA
theorem xu:bF X (c9 .Lt) (jm λi j=>.bl (decide (i<j))):=uS λ_ _ _ _ _ _ _ q=>lt_int q
theorem mH:bF X (c9 .LtE) (jm λi j=>.bl (decide (i<=j))):=uS λ_ _ _ _ _ _ _ q=>le_int q
theorem Af:bF X (c9 .Gt) (jm λi j=>.bl (decide (j<i))):=uS λ_ _ _ _ _ _ _ q=>gt_int q
theorem HG:bF X (c9 .GtE) (jm λi j=>.bl (decide (j<=i))):=uS λ_ _ _ _ _ _ _ q=>ge_int q
theorem L9:bF X (c9 .In) (λx y H Q=>∃i j,x=.str i/\y=.str j/\Q (.bl (!(CH j i 0 j.length 1).isEmpty)) H):=by intro r s n H x y v u Q I f d h;obtain⟨i,j,rfl,rfl,q⟩:=h;obtain⟨t,rfl⟩:=f;obtain⟨p,rfl⟩:=d;exact in_str (cB I q rfl)
theorem bF.or{f:ah->ah->Sem ah}{r n:R2}(h:bF X f r)(t:bF X f n):bF X f (λx y H Q=>r x y H Q\/n x y H Q):=by
 intro p s d H x y v u Q I j i q;rcases q with q|q
 .exact h p s d H x y v u Q I j i q
 .exact t p s d H x y v u Q I j i q
theorem JA{d:CmpOp}{r:R2}(p:bF X (c9 d) r)(z:PE X a l)(w:PE X b g)(t:nE d b=aj):PE X (.Compare a [d] [b] m) (tK r l g):=by intro A s f H Q I h;exact wpAny_Compare1 (xF z w I h λv u i x y C B n j q=>p A i f C x y v u Q B n j q) t
def As(t:TE):TT:=λd H Q=>t d H λx f=>∃k,x=.bl k/\Q k f
theorem Gp{f:CmpOp}{r:R2}(C:bF X (c9 f) r)(F:PE X a l)(E:PE X b g)(D:nE f b=aj):PT X (.Compare a [f] [b] m) (As (tK r l g)):=by
 intro i s d H Q I h;refine wpAny_isTrue_Compare1 (aQ (F i s d H _ I h) λv n ⟨x,N,K,t,B⟩=>aQ (E i n d N _ K B) λu j ⟨y,M,J,q,A⟩=>aQ (C i j d M x y v u _ J t q A) λc O ⟨z,L,G,p,k,e,w⟩=>?_) D;subst e;cases p;exact k7 ⟨L,G,w⟩
def vV(r i:R2)(l g o:TE):TE:=λd H Q=>l d H λx p=>g d p λy n=>r x y n λz f=>∃k,z=.bl k /\
 (if k=ai then o d f λh j=>i y h j Q else Q (.bl aj) f)
theorem IE{n f:CmpOp}{r q:R2}(S:bF X (c9 n) r)(P:bF X (c9 f) q)(Z:PE X a l)(Y:PE X b g)(W:PE X c o)(T:lastMarks [n,f] [b,c]=aj:=by with_unfolding_all rfl):PE X (.Compare a [n,f] [b,c] m) (vV r q l g o):=by
 intro j s i H Q I h;refine Compare_chain (aQ (Z j s i H _ I h) λv G ⟨x,H1,I1,L,O⟩=>chain_link (aQ (Y j G i H1 _ I1 O) λu F ⟨y,H2,I2,p,N⟩=>aQ (S j F i H2 x y v u _ I2 L p N) λd E ⟨z,A,w,K,k,e,t⟩=>?_)) T;subst e;cases K;refine k7 ?_;cases k with
 |false=>exact ite_ff ⟨.bl aj,A,w,rfl,t⟩
 |true=>exact ite_tt (chain_last (aQ (W j E i A _ w t) λC D ⟨B,H4,I4,J,M⟩=>P j D i H4 y B u C Q I4 p J M))
theorem Ja{n f:CmpOp}{r q:R2}(Y:bF X (c9 n) r)(W:bF X (c9 f) q)(ha:PE X a l)(hb:PE X b g)(hc:PE X c o)(Z:lastMarks [n,f] [b,c]=aj:=by with_unfolding_all rfl):PT X (.Compare a [n,f] [b,c] m) (As (vV r q l g o)):=by
 intro j s i H Q I h;refine isTrue_chain (aQ (ha j s i H _ I h) λv G ⟨x,H1,I1,M,S⟩=>test_link (aQ (hb j G i H1 _ I1 S) λu F ⟨y,H2,I2,p,P⟩=>aQ (Y j F i H2 x y v u _ I2 M p P) λd E ⟨z,A,w,L,k,e,t⟩=>?_)) Z;subst e;cases L;refine k7 ?_;cases k with
 |false=>
  obtain⟨k',e',T⟩:=t;cases e';exact ite_ff ⟨A,w,T⟩
 |true=>
  refine ite_tt (test_last (aQ (hc j E i A _ w t) λC D ⟨B,H4,I4,K,O⟩=>aQ (W j D i H4 y B u C _ I4 p K O) λd' s5 ⟨z2,H5,I5,J,k2,e2,N⟩=>?_));subst e2;cases J;exact k7 ⟨H5,I5,N⟩
theorem mY:(a_:Nat)<2^63:=by rw[nG];decide
theorem FO:bF X (gT .Add) (λx y H Q=>∃i j,x=.str i/\y=.str j/\i.length+j.length<=a_/\Q (.str (i++j)) H):=by intro z s r H x y v u Q I n f h;obtain⟨i,j,rfl,rfl,p,q⟩:=h;obtain⟨t,rfl⟩:=n;obtain⟨d,rfl⟩:=f;exact add_str (λd w=>⟨.str (i++j),H,I.tok _,⟨_,rfl⟩,q⟩) p
theorem vals1{x:V}{d:List ah}(r:bq [x] d):∃u,d=[u]/\RelV x u:=by
 cases r with
 |cons h f=>cases f;exact⟨_,rfl,h⟩
def zE(K:aw)(x:V)(H:Hp)(n:Nat):Prop :=
 match x with
 |.str y=>y.length<=a_/\n=y.length
 |.byt y=>y.size<=a_/\n=y.size
 |.ref p=>(∃xs,b7 K H p xs/\n=xs.length)\/∃xs,b_ K H p xs/\n=xs.length
 |_=>False
theorem gF:d8 X (.builtin "len") (λxs H Q=>∃x n,xs=[x]/\zE X.K x H n/\Q (.int n) H):=by
 intro F s B H xs C Q I r h;obtain⟨x,n,rfl,e,q⟩:=h;obtain⟨u,rfl,f⟩:=vals1 r;have E:=mY;have D:a_=16777216:=nG;cases x with
 |str y=>obtain⟨t,rfl⟩:=f;obtain⟨A,d⟩:y.length<=a_/\n=y.length:=e;subst d;exact len_str ∅ ⟨.int _,H,I.tok _,⟨_,rfl⟩,q⟩
 |byt y=>obtain⟨t,rfl⟩:=f;obtain⟨A,d⟩:y.size<=a_/\n=y.size:=e;subst d;exact PySem.W.len_bytes ∅ ⟨.int _,H,I.tok _,⟨_,rfl⟩,q⟩
 |ref p=>
  cases f;have d:(∃xs,b7 X.K H p xs/\n=xs.length)\/∃xs,b_ X.K H p xs/\n=xs.length:=e;rcases d with⟨xs,hx,d⟩|⟨xs,hx,d⟩
  .subst d;obtain⟨v,i,j,z⟩:=I.list hx;have w:=i.length;exact Calls.call_len_list j.isList (by simp only[bY];lia) ⟨.int xs.length,H,I.tok _,⟨_,by simp only[bY];rw[w]⟩,q⟩
  .subst d;obtain⟨v,i,j,z⟩:=I.tuple hx;have w:=i.length;exact len_tuple j (by simp only[bY];lia) ⟨.int xs.length,H,I.tok _,⟨_,by simp only[bY];rw[w]⟩,q⟩
 |_=>exact(show False from e).elim
end
structure Cj(h:az)(x dx C:af)(mA:Str->Option ah):Prop where
 obj:h.get? x=aa (PySem.W.instObj C dx)
 ns:h.Ns1 dx mA
 ne:dx≠x
theorem Jq{h:az}{g:af}{d:Str->Option ah}(n:h.Ns1 g d):∃c,h.get? g=aa c/\∀b,PySem.W.lookIn b c=aa (d b):=by
 obtain⟨o,f,u,j,p,m,_,l⟩:=n;refine⟨o,j,λb=>?_⟩;have e:=l b;unfold nsFind findBy at e;rw[<-Array.find?_toList]at e;unfold PySem.W.lookIn;rw[p];dsimp only;split
 .rename_i y q;rw[q]at e;exact congrArg aa e
 .rename_i q;rw[q]at e;have a:f.toList.any (·.refKey)=aj:=by rw[List.any_eq_false];intro y i;obtain⟨z,t,r⟩:=m y (Array.mem_toList_iff.mp i);simp[DictEntry.refKey,r]
  have s:¬f.toList.any (·.refKey)=ai:=by rw[a];exact eA
  rw[if_neg s];exact congrArg aa e
theorem Cj.look{h:az}{x d C:af}{c:Str->Option ah}(I:Cj h x d C c):∃b,rK h x (PySem.W.instObj C d) C (aa b)/\∀a,PySem.W.lookIn a b=aa (c a) :=
 let ⟨b,ho,hl⟩:=Jq I.ns
 ⟨b,⟨I.obj,rfl,rfl,ho⟩,hl⟩
theorem pD.some_of{v:V}{o:Option ah}(r:pD (aa v) o):∃u,o=aa u/\RelV v u:=by
 cases o with
 |none=>exact(show False from r).elim
 |some u=>exact⟨u,rfl,r⟩
section
variable{P:aN}{w:aD}{H i:Hp}{h g:az}{a C b:af}{fs c:List (Str×V)}
theorem Hu(l:cP P w H h)(e:H a=aa (.ins C b fs)):∃j,Cj h a b C j/\(∀f,pD (fs.lookup f) (j f))/\PySem.Within j (fs.map (·.1))/\fs.length<=1000/\H b=aa (.own a):=by
 obtain⟨d,z,o,m,j,n,r,q⟩:=(show c_ P w H h a (.ins C b fs)from l a _ e)
 exact⟨j,⟨m,n,o⟩,r,q,z,d⟩
end
structure A0(K:aw)(C:af):Prop where
 pg:PySem.W.plainGet K C fA=ai
 hd:PySem.W.hasDictIn K C=ai
 po:PySem.W.plainOver K C=ai
 sa:nH K (.ref C) "__setattr__"=aa (aa (.builtin "object.__setattr__"))
theorem A0.get{K:aw}{C:af}(c:A0 K C)(f:Str):PySem.W.plainGet K C f=ai:=c.pg
section
variable{X:Cx}{f:List (af×Obj)}{d:St}{H:Hp}{s:am}{A:aJ}{E:ah->am->Prop}{Q:ah->am->Prop}{c:ah}{b:Bool}
inductive gQ(K:aw)(H:Hp):V->ah->Prop where
 |non:gQ K H .non (.type "NoneType")
 |bl (x:Bool):gQ K H (.bl x) (.type "bool")
 |int (i:Int):gQ K H (.int i) (.type "int")
 |str (x:Str):gQ K H (.str x) (.type "str")
 |flt (x:UInt64):gQ K H (.flt x) (.type "float")
 |lst {a:af}{xs:List V} (e:H a=aa (.lst xs)):gQ K H (.ref a) (.type "list")
 |frz {a:af}{o:Obj}{xs:List V} (e:H a=aa (.frz o (.lst xs))):gQ K H (.ref a) (.type "list")
 |tup {a:af}{xs:List V} (e:H a=aa (.tup xs)):gQ K H (.ref a) (.type "tuple")
 |dK {a:af}{kvs:List (bR×V)} (e:H a=aa (.dK kvs)):gQ K H (.ref a) (.type "dict")
 |dT {a:af}{kvs:List (List bR×V)} (e:H a=aa (.dT kvs)):gQ K H (.ref a) (.type "dict")
 |ins {a C dx:af}{fs:List (Str×V)} (e:H a=aa (.ins C dx fs)) (cl:A0 K C) (ha:nH K (.ref C) "__class__"=aa (aa (.builtin "object.__class__")))
   (hn:CI K (.builtin "object.__class__") "__get__"=aa (aa (.builtin "getset_descriptor.__get__"))) (sy:PySem.W.takesIn K (.builtin "object.__class__")=aa ai)
   (hm:uW K C (.type "object")=aa ai):gQ K H (.ref a) (.ref C)
theorem Gu{x:V}{u t:ah}(I:Inv X f d H s)(g:RelV x u)(ty:gQ X.K H x t)(e:fD X.K t c=aa b)(h:∀m,Q (.bool b) {s with toks:=m}):aq (au X.prog X.w) A (call (.builtin "isinstance") [u,c]) Q E s:=by
 cases ty with
 |non=>cases (show u=Value.none from g);exact jB PySem.W.kitx_none I.kIn True.intro e (λz=>nomatch z) h
 |bl y=>cases (show u=Value.bool y from g);exact jB PySem.W.kitx_bool I.kIn True.intro e (λz=>nomatch z) h
 |int i=>obtain⟨t,q⟩:=(show ∃t,u=Value.int i t from g);cases q;exact jB PySem.W.kitx_int I.kIn True.intro e (λz=>nomatch z) h
 |str y=>obtain⟨t,q⟩:=(show ∃t,u=Value.str y t from g);cases q;exact jB PySem.W.kitx_str I.kIn True.intro e (λz=>nomatch z) h
 |flt y=>obtain⟨t,q⟩:=(show ∃t,u=Value.float y t from g);cases q;exact jB PySem.W.kitx_float I.kIn True.intro e (λz=>nomatch z) h
 |@lst a xs ea=>
  cases (show u=Value.ref a from g);obtain⟨_,_,n,_,j⟩:=(show c_ X.prog X.w H s.heap a (.lst xs)from I.hok a _ ea)
  exact jB PySem.W.kitx_list I.kIn ⟨_,j,rfl⟩ e (λz=>nomatch z) h
 |@frz a ob xs ea=>
  cases (show u=Value.ref a from g);obtain⟨_,_,_,n,_,j⟩:=(show c_ X.prog X.w H s.heap a (.frz ob (.lst xs))from I.hok a _ ea)
  exact jB PySem.W.kitx_list I.kIn ⟨_,j,rfl⟩ e (λz=>nomatch z) h
 |@tup a xs ea=>
  cases (show u=Value.ref a from g);obtain⟨_,_,_,p,_⟩:=(show c_ X.prog X.w H s.heap a (.tup xs)from I.hok a _ ea)
  obtain⟨o,j,l,_⟩:=p;exact jB PySem.W.kitx_tuple I.kIn ⟨o,j,l⟩ e (λz=>nomatch z) h
 |@dK a kvs ea=>
  cases (show u=Value.ref a from g);obtain⟨_,_,w,_,p⟩:=(show c_ X.prog X.w H s.heap a (.dK kvs)from I.hok a _ ea)
  obtain⟨o,r,v,j,l,_⟩:=p;exact jB PySem.W.kitx_dict I.kIn ⟨o,j,l.1⟩ e (λz=>nomatch z) h
 |@dT a kvs ea=>
  cases (show u=Value.ref a from g);obtain⟨_,_,xs,_,o,r,v,j,l,_⟩:=(show c_ X.prog X.w H s.heap a (.dT kvs)from I.hok a _ ea)
  exact jB PySem.W.kitx_dict I.kIn ⟨o,j,l.1⟩ e (λz=>nomatch z) h
 |@ins a C dx fs ea cl ha hn sy hm=>
  cases (show u=Value.ref a from g);obtain⟨D,O,_⟩:=Hu I.hok ea;obtain⟨B,J,_⟩:=O.look;exact jB (PySem.W.kitx_own (cl.get _) cl.hd ha hn sy hm) I.kIn J e (λz=>nomatch z) h
end
structure Room(k:Nat)(A:aJ):Prop where
 hd:A.handled=ae
 dp:A.depth+3*k+5<rL
 un:A.units+16*k+200<cLine
theorem Room.mono{j k:Nat}{A:aJ}(r:Room k A)(h:j<=k):Room j A:=⟨r.hd,by have:=r.dp;lia,by have:=r.un;lia⟩
theorem Room.deeper{k:Nat}{A:aJ}(r:Room (k+1) A)(a:Env):Room k (A.deeper a) :=⟨r.hd,by have:=r.dp;show A.depth+1+3*k+5<_;lia,by have:=r.un;show A.units+3+16*k+200<_;lia⟩
theorem Room.depth{k:Nat}{A:aJ}(r:Room k A):A.depth<rL:=by have:=r.dp;lia
theorem Room.units{k:Nat}{A:aJ}(r:Room k A):A.units+64<cLine:=by have:=r.un;lia
def Gg:TA:=λ_ H Q=>Q [] H
def FU(c:TE)(b:TA):TA:=λa H Q=>c a H λx f=>b a f λxs d=>Q (x::xs) d
section
variable{X:Cx}{e:aA}{es:List aA}{c:TE}{t:TA}{a:Pos}
theorem iR:PA X [] Gg:=λ_ _ _ _ H Q I h=>x0 ⟨[],H,I,.nil,h⟩
theorem gE(o:PE X e c)(n:PA X es t)(m:aI (e::es) X.env=(aj,aM e X.env)::aI es X.env:=by rfl):PA X (e::es) (FU c t):=by intro a d s b H Q I h;rw[m];show aq _ _ (spliced ((aj,aM e X.env)::cg a (aI es X.env))) _ _ s;refine uX (aQ (o d s b H _ I h) λu f ⟨x,v,q,i,l⟩=>?_);exact aQ (n a d f b v _ q l) λw y ⟨xs,r,p,g,j⟩=>⟨x::xs,r,p,.cons i g,j⟩
def HD(t:TA):TE:=λd H Q=>t d H λxs b=>xs.length<=a_/\∀p,b p=ae->Q (.ref p) (upd b p (.tup xs))
def Eg(t:TA):TE:=λd H Q=>t d H λxs b=>xs.length<=a_/\∀p,b p=ae->Q (.ref p) (upd b p (.lst xs))
theorem Fc{x1}(h:PA X es t):PE X (.Tuple es x1 a) (HD t):=by intro n s i H Q I l;refine wpAny_Tuple_spliced (aQ (h a n s i H _ I l) λj d ⟨xs,g,f,r,z,q⟩=>⟨by rw[<-r.length];exact z,?_⟩);have m:g d.heap.objs.size=ae:=f.hok.fresh (a8 _);refine⟨.ref d.heap.objs.size,upd g d.heap.objs.size (.tup xs),f.laid (t':=d.toks) (λb u e=>bd _ e) (a8 _) ?_,rfl,q _ m⟩;exact⟨z,j,r,⟨⟨_,cu _ rfl,rfl,_,rfl⟩,_,cu _ rfl,rfl⟩⟩
theorem KA(h:PA X es t):PE X (.List es a) (Eg t):=by intro n s i H Q I l;refine wpAny_List_spliced (aQ (h a n s i H _ I l) λj d ⟨xs,g,f,r,z,q⟩=>⟨by rw[<-r.length];exact z,?_⟩);have m:g d.heap.objs.size=ae:=f.hok.fresh (a8 _);refine⟨.ref d.heap.objs.size,upd g d.heap.objs.size (.lst xs),f.laid (t':=d.toks) (λb u e=>bd _ e) (a8 _) ?_,rfl,q _ m⟩;exact⟨z,j,0,r,cu _ rfl⟩
end
abbrev Sp:=List V->Hp->VK->XK->Prop
abbrev eJ:=List Env->Hp->am->XK->ah->am->Prop
structure oQ(P:aN)(w:aD)(K:aw)(mg:Str->Option ah)(base:az)(A:aJ)(outer:List Env)(s:am)(H:Hp):Prop where
 frames:A.frames=aa outer
 mod:Mod K mg base
 bs:∀b o,base.get? b=aa o->s.heap.get? b=aa o/\H b=ae
 bsz:base.objs.size<=s.heap.objs.size
 funs:s.heap.FunFrames base outer
 frf:∀b∈dU outer,H b=ae
 hok:cP P w H s.heap
 bare:kY s.gens
 tab:tu K H
def CE(a:List Env)(P:aN)(w:aD)(H:Hp)(s:am)(Q:VK)(u:ah)(b:am):Prop :=
 ∃v c,b.os=s.os/\kY b.gens/\Un (dU a) [] H c s.heap b.heap/\cP P w c b.heap/\RelV v u/\Q v c
def CR(c:eJ)(a:List Env)(P:aN)(w:aD)(H:Hp)(s:am)(Q:VK)(E:XK)(r:Result)(b:am):Prop :=
 match r with
 |.ok (.ret u)=>CE a P w H s Q u b
 |.ok _=>False
 |.error e=>c a H s E e b
structure jn(P:aN)(w:aD)(K:aw)(mg:Str->Option ah)(base:az)(CX:eJ)(k:Nat)(f:af)(fd:fE)(ps:List Str)(sp:Sp):Prop where
 len:∀vs H Q E,sp vs H Q E->vs.length=ps.length
 run:∀(A:aJ) (outer:List Env) (s:am) (H:Hp) (args:Args) (us:List ah) (vs:List V) (Q:VK) (E:XK),Room k A->oQ P w K mg base A outer s H->BindsTo s fd args (ps.zip us)->bq vs us->sp vs H Q E ->
  jC (au P w) A (.call (.ref f) args) (CR CX outer P w H s Q E) s
section
variable{X:Cx}{f:List (af×Obj)}{a:St}{H:Hp}{s c:am}
theorem Inv.env0(I:Inv X f a H s):oQ X.prog X.w X.K X.mg X.base X.A X.stack s H :=⟨I.ok.frames,I.ok.mod,I.bs,cA I.ok.bsz I.sz,I.stack,I.stkFree,I.hok,I.bare,I.tab⟩
theorem Inv.after{Q:VK}{u:ah}(I:Inv X f a H s)(h:CE X.stack X.prog X.w H s Q u c):EP X f a Q u c:=by obtain⟨v,o,m,i,un,l,r,q⟩:=h;obtain⟨n,g,d,t,j⟩:=c;obtain rfl:j=s.os:=m;exact⟨v,o,I.call (h':=n) (g':=g) (d':=d) (t':=t) (ch:=[]) un l i (λb z=>absurd z (by simp)),r,q⟩
end
def Ft(d:Sp)(a:List V)(E:XK)(t:TA):TE:=λb H Q=>t b H λc f=>d (c++a) f Q E
def Binds(K:aw)(d:fE)(b:List Str)(c:List ah):Prop :=
 ∀(s:am) (a:List ah),K.In s.heap->(a++c).length=b.length->BindsTo s d ⟨a,[]⟩ (b.zip (a++c))
theorem Binds.all{K:aw}{d:fE}{b:List Str}(h:∀a:List ah,a.length=b.length->dY d ⟨a,[]⟩=pure (b.zip a)):Binds K d b []:=λs a _ c=>by rw[iA]at c ⊢;exact .of_eq (h a c)
def o8(c:eJ)(X:Cx)(E:XK):Prop:=∀(b:List (af×Obj)) (a:St) (H:Hp) (s:am) (e:ah) (s':am),Inv X b a H s->c X.stack H s E e s'->X.xe e s'
section
variable{X:Cx}{l:eJ}{k:Nat}{f C:af}{j:fE}{d:List Str}{i:Sp}{a:List V}{c:List ah}{E:XK}{x m:Str}{p b n:Pos}{e o:aA}{g:List aA}{v:TE}{t:TA}
theorem Lx{A:List (af×Obj)}{z:St}{H:Hp}{s:am}{Q:VK}{q:List ah}{y:List V}(F:jn X.prog X.w X.K X.mg X.base l k f j d i)(J:Room k X.A)(M:Binds X.K j d c)(L:bq a c)(G:o8 l X E)(I:Inv X A z H s) (r:bq y q) (h:i (y++a) H Q E):aq (au X.prog X.w) X.A (call (.ref f) q) (EP X A z Q) X.xe s:=by
 have B:bq (y++a) (q++c):=r.append L;have K:(q++c).length=d.length:=by rw[<-B.length];exact F.len _ _ _ _ h
 refine rM (nI (F.run X.A X.stack s H ⟨q,[]⟩ (q++c) (y++a) Q E J I.env0 (M s q I.kIn K) B h) λr D w=>?_);cases r with
 |error e=>exact G A z H s e D I w
 |ok N=>
  cases N with
  |ret u=>exact I.after w
  |next=>exact fF w
  |brk=>exact fF w
  |cont=>exact fF w
theorem zI(F:jn X.prog X.w X.K X.mg X.base l k f j d i)(z:Room k X.A)(D:Gl X x)(A:X.mg x=aa (.ref f))(B:nJ X.K (.ref f)=ai)(K:Binds X.K j d c)(J:bq a c)(y:o8 l X E)(L:PA X (e::g) t) (M:(x==("__debug__":Str))=aj:=by decide) (G:aI (e::g) X.env=(aj,aM e X.env)::aI g X.env:=by rfl) (N:(cg b (aI g X.env)).any (·.1)=aj:=by rfl):PE X (.Call (.Name x p) (e::g) [] b) (Ft i a E t):=by intro O s w H Q I h;refine pI (pC I D A ?_ M);refine CJ (h₀:=X.base) I.ok.mod.kin B (aQ (L b O s w H _ I h) λS T ⟨P,W,u,r,q⟩=>⟨u.kIn,?_⟩) G N;exact Lx F z K J y u r q
end
structure b0(N P:List Str)(sc:cN):Prop where
 kind:sc.kind=.function
 co:sc.isCoroutine=aj
 gen:sc.isGenerator=aj
 nd:N.Nodup
 pre:N.take P.length=P
 par:∀x∈P,sc.names.lookup x=aa .local\/sc.names.lookup x=aa .cell
 nofree:∀y∈sc.names,y.2≠.free
theorem A6{a:Str->Option eY}{x:Str}:∀{binds:List (Str×ah)}{m:Str->Option ah},(∀v,(x,v)∉binds)->bindL a binds m x=m x
 |[],_,_=>rfl
 | (n,v)::r,m,h=>by
  unfold bindL;rw[A6 λw b=>h w (jh _ b)];split
  .have:x≠n:=by rintro rfl;exact h v jz
   simp[this]
  .rfl
theorem Cr{a:Str->Option eY}{x:Str}:∀{binds:List (Str×ah)}{m:Str->Option ah},(∀v,(x,v)∉binds)->bindC a binds m x=m x
 |[],_,_=>rfl
 | (n,v)::r,m,h=>by
  unfold bindC;rw[Cr λw b=>h w (jh _ b)];split
  .rfl
  .have:x≠n:=by rintro rfl;exact h v jz
   simp[this]
theorem zD{a:Str->Option eY}{x:Str}{v:ah}:∀{P:List Str}{b:List ah}{i:Nat}{m:Str->Option ah},P.Nodup->P[i]?=aa x->b[i]?=aa v->a x=aa .local -> bindL a (P.zip b) m x=aa v
 |[],_,_,_,_,h,_,_=>by simp at h
 |_::_,[],_,_,_,_,h,_=>by simp at h
 |p::P,w::b,0,m,nd,h1,h2,hk=>by simp at h1 h2;subst h1;subst h2;show bindL a ((p,w)::P.zip b) m p=_;unfold bindL;rw[A6 λv c=>(mf.mp nd).1 (x_ c).1,if_pos hk];simp
 |p::P,w::b,i+1,m,nd,h1,h2,hk=>by show bindL a ((p,w)::P.zip b) m x=_;unfold bindL;exact zD (i:=i) (mf.mp nd).2 (by simpa using h1) (by simpa using h2) hk
theorem Ci{a:Str->Option eY}{x:Str}{v:ah}:∀{P:List Str}{b:List ah}{i:Nat}{m:Str->Option ah},P.Nodup->P[i]?=aa x->b[i]?=aa v->a x≠aa .local -> bindC a (P.zip b) m x=aa v
 |[],_,_,_,_,h,_,_=>by simp at h
 |_::_,[],_,_,_,_,h,_=>by simp at h
 |p::P,w::b,0,m,nd,h1,h2,hk=>by simp at h1 h2;subst h1;subst h2;show bindC a ((p,w)::P.zip b) m p=_;unfold bindC;rw[Cr λv c=>(mf.mp nd).1 (x_ c).1,if_neg hk];simp
 |p::P,w::b,i+1,m,nd,h1,h2,hk=>by show bindC a ((p,w)::P.zip b) m x=_;unfold bindC;exact Ci (i:=i) (mf.mp nd).2 (by simpa using h1) (by simpa using h2) hk
def start(N:List Str)(a:List V):St:=a.map aa++bW (N.length-a.length) ae
def fX(g:eJ)(P:aN)(w:aD)(K:aw)(mg:Str->Option ah)(base:az)(N:List Str)(b:Str)(a:cN)(f:af)(d:ah)(A:aJ)(outer:List Env)(s:am)(H:Hp)(E:XK):Cx where
 prog:=P
 w:=w
 K:=K
 mg:=mg
 base:=base
 A:=A.deeper (gU b a s.heap.objs.size f d)
 N:=N
 s₀:=s
 H₀:=H
 env:=gU b a s.heap.objs.size f d
 outer:=outer
 stack:=gU b a s.heap.objs.size f d::outer
 ex:=[]
 calm:=ai
 fn:=λ_=>ai
 pn:=[]
 xe:=λe s'=>aq (au P w) (A.deeper (gU b a s.heap.objs.size f d)) (leaving (gU b a s.heap.objs.size f d) e) (λ_ c=>g outer H s E e c) (λh c=>g outer H s E h c) s'
theorem zv{a:cN}{n:Nat}{x:Str}(h:a.names.lookup x=aa .cell):∃c,(dZ n a.names []).lookup x=aa c:=by have q:=CK a.names n [] (.inl h);exact ya.mp q
theorem AC{X:eJ}{P:aN}{w:aD}{K:aw}{O:Str->Option ah}{o:az}{N B:List Str}{j:Str}{d:cN}{f:af}{L:ah}{A:aJ}{g:List Env}{s Q:am}{H:Hp}{E:XK}{M:List ah}{t:List V}(S:b0 N B d) (Z:A.handled=ae) (m:oQ P w K O o A g s H) (hl:t.length=B.length) (r:bq t M)(x:InCallC s s.heap.objs.size (bindL (gU j d s.heap.objs.size f L).kindOf (B.zip M) λ_=>ae) (dZ (s.heap.objs.size+1) d.names []) (bindC (gU j d s.heap.objs.size f L).kindOf (B.zip M) λ_=>ae) Q):Inv (fX X P w K O o N j d f L A g s H E) [] (start N t) H Q:=by
 have cX:B.length<=N.length:=by have:=congrArg pJ S.pre;rw[lc]at this;lia
 obtain⟨J,tk,rfl,W⟩:=x.done;have C:∀b:af,b∉(fX X P w K O o N j d f L A g s H E).ex:=λb z=>absurd (show b∈([]:List af)from z) (by simp);refine⟨⟨m.mod,S.kind,rfl,rfl,a8 _,λy z c J l=>?_,λy D=>?_,λy c _ h=>?_,λ_=>Z,Around.frames_deeper m.frames,.inr ⟨rfl,rfl⟩,λb z=>absurd z (C b),m.bs,m.bsz,λb _ _=>C b,λb z=>absurd z (C b),m.funs,m.frf,m.tab⟩,rfl,m.bare,Un.kept W,⟨_,x.toInCall.ns,λi y v J l h3=>?_⟩,λy c h=>⟨_,x.cell y c h⟩,m.hok.fresh (a8 _),λy c h=>?_,λp G=>absurd (show p∈([]:List (af×Obj))from G) (by simp),m.hok.kept W,?_⟩
 .exact name_of_addr x.apart (jD J) (jD l)
 .have D:d.names.lookup y=aa .cell\/d.names.lookup y=aa .free:=D;rcases D with D|D
  .exact zv D
  .exact absurd rfl (S.nofree _ (jD D))
 .exact kZ (x.above y c (jD h))
 .have I:i<t.length:=by
   unfold start at l;by_cases I:i<t.length
   .exact I
   .rw[nK (by simpa using I)]at l;rw[List.getElem?_replicate]at l;split at l <;> cases l
  have ha:t[i]?=aa v:=by
   unfold start at l;rw[ii (by simpa using I),jE]at l;cases e:t[i]? with
   |none=>rw[e]at l;cases l
   |some a=>rw[e]at l;cases l;rfl
  obtain⟨u,T,Y⟩:=r.get ha;have G:B[i]?=aa y:=by rw[<-S.pre,List.getElem?_take_of_lt ∅];exact J
  have F:B.Nodup:=by rw[<-S.pre];exact S.nd.sublist (List.take_sublist _ _)
  refine⟨u,Y,?_⟩;rcases S.par y (uY G)with k|k
  .exact .inl ⟨k,zD F G T k⟩
  .obtain⟨c,e⟩:=zv (n:=s.heap.objs.size+1) k;refine .inr ⟨.inl k,c,e,?_⟩;have q:=x.cell y c e;rw[Ci F G T (by show d.names.lookup y≠_;rw[k];decide)]at q;exact q
 .exact m.hok.fresh (kZ (x.above y c (jD h)))
 .unfold start;show _=N.length;rw[eZ,fG,List.length_replicate];lia
theorem D0{M:eJ}{P:aN}{w:aD}{K:aw}{L:Str->Option ah}{h:az}{k:Nat}{f:af}{m d:Str}{g:nL}{i:List aU}{a:cN}{dV kV F pm z ct oc:ah}{an od:Option af}{X:Array (Option ah)}{N G:List Str}{O:Sp} (lk:K.lookup f=aa ⟨oc,od,.func (ge m d g i a dV kV F pm an z ct),X⟩) (bK:rN K z d=ai) (S:b0 N G a)(len:∀l H Q E,O l H Q E->l.length=G.length)(ff:∀(A:aJ) (c:List Env) (s:am) (H:Hp) (l:List V) (Q:VK) (E:XK),Room k (A.deeper (gU d a s.heap.objs.size f z))->O l H Q E -> ∃t,j7 (fX M P w K L h N d a f z A c s H E) i t/\t {nx:=λ_ p=>Q .non p,rt:=Q} (start N l) H):jn P w K L h M (k+1) f (ge m d g i a dV kV F pm an z ct) G O:=by
 refine⟨len,λA c s H args us l Q E Z D hb r fK=>?_⟩;have hl:=len _ _ _ _ fK;have KX:K.In s.heap:=D.mod.kin.keeps λb o e=>(D.bs b o e).1;have Y:s.heap.NoLimit:=D.mod.nolimit.keeps λb o e=>(D.bs b o e).1;have yI:∀y∈G.zip us,a.names.lookup y.1=aa .local\/(a.names.lookup y.1=aa .cell/\((dZ (s.heap.objs.size+1) a.names []).lookup y.1).isSome=ai):=λ⟨n,v⟩ hy=>by
  rcases S.par n (x_ hy).1 with q|q
  .exact .inl q
  .exact .inr ⟨q,CK _ _ _ (.inl q)⟩
 refine codeAny_call_function Z.depth (KX _ _ lk) rfl S.co S.gen rfl (PySem.W.codeRec_of KX bK) (hb _ _ _ _ ?_);refine wpAny_newFunctionEnv_cells S.kind yI λenv he s1 x=>?_;subst he;refine⟨Y.keeps x.toInCall.keep,codeAny_func ?_⟩;obtain⟨t,ht,hq⟩:=ff A c s H l Q E (Z.deeper _) fK;have I:Inv (fX M P w K L h N d a f z A c s H E) [] (start N l) H s1:=AC S Z.hd D hl r x;refine cW (ht [] s1 (start N l) H _ I hq) (λfl T B=>?_) λe T B=>B;have C:∀{j:St}{p:Hp}{v:V}{u:ah},Inv (fX M P w K L h N d a f z A c s H E) [] j p T->RelV v u->Q v p->CE c P w H s Q u T :=λ{j p v u} J W q=>⟨v,p,J.os,J.bare,J.base,J.hok,W,q⟩
 cases fl with
 |ret u=>obtain⟨v,j,p,J,W,q⟩:=B;exact C J W q
 |next=>obtain⟨j,p,J,q⟩:=B;exact C (v:=V.non) (u:=Value.none) J rfl q
 |brk=>obtain⟨_,_,_,q⟩:=B;exact fF q
 |cont=>obtain⟨_,_,_,q⟩:=B;exact fF q
section
variable{X:Cx}{x:Str}{p a:Pos}{e:aA}{b:List aA}{t:TA}{c T:String}{r:List V->Hp->VK->Prop}
def BD(r:List V->Hp->VK->Prop)(t:TA):TE:=λd H Q=>t d H λf g=>r f g Q
theorem rm(w:d8 X (.builtin c) r)(u:Gl X x)(q:X.mg x=ae)(n:dy x=aa (.builtin c))(y:PA X (e::b) t)(o:x≠"__name__":=by decide)(z:(x==("__debug__":Str))=aj:=by decide)(v:aI (e::b) X.env=(aj,aM e X.env)::aI b X.env:=by rfl) (A:(cg a (aI b X.env)).any (·.1)=aj:=by rfl):PE X (.Call (.Name x p) (e::b) [] a) (BD r t):=by intro f s d H Q I h;refine pI (pq I u q n ?_ o z);exact LC (aQ (y a f s d H _ I h) λi j ⟨g,C,B,l,m⟩=>w f j d C g i Q B l m) v A
theorem xk(w:d8 X (.type T) r)(u:Gl X x)(q:X.mg x=ae)(n:dy x=aa (.type T))(y:PA X (e::b) t)(o:x≠"__name__":=by decide)(z:(x==("__debug__":Str))=aj:=by decide)(v:aI (e::b) X.env=(aj,aM e X.env)::aI b X.env:=by rfl) (A:(cg a (aI b X.env)).any (·.1)=aj:=by rfl):PE X (.Call (.Name x p) (e::b) [] a) (BD r t):=by intro f s d H Q I h;refine pI (pq I u q n ?_ o z);exact CG (aQ (y a f s d H _ I h) λi j ⟨g,C,B,l,m⟩=>w f j d C g i Q B l m) v A
end
end L2
namespace HT
section
open PySem.SeqAt
open PySem.AutoSeq1 (wpAny_loadPart')
open PySem.MeetsSeq PySem.MeetsSeq2 PySem.MeetsSeq3
end
section
variable{a:aN}{w:aD}{A:aJ}{E:ah->am->Prop}{s:am}
theorem cat_tup{t b:af}{d c:List ah}{Q:ah->am->Prop}(B:IsTup s.heap t d.toArray)(C:IsTup s.heap b c.toArray)(u:d≠[])(F:c=[]->Q (.ref t) s) (D:c≠[]->Q (.ref s.heap.objs.size) {s with heap:=s.heap.push {cls:=.type "tuple",data:=.seq (d++c).toArray}})(l:d.length+c.length<=a_):aq (au a w) A (gT .Add (.ref t) (.ref b)) Q E s:=by
 obtain⟨⟨cls,y,data,o⟩,j,x,n,v⟩:=id B;obtain⟨⟨z,g,m,f⟩,h,r,p,q⟩:=id C;simp only at x v r q;subst x v r q;have e:d.toArray++c.toArray=(d++c).toArray:=by simp
 by_cases i:c=[]
 .exact concat_meets ⟨_,j,rfl⟩ ⟨_,h,rfl⟩ CL seq_tuple_add CM CN (CO _ _)
   (tuple_addW1 t b d.toArray c.toArray n p y g o f (by simpa using u) (by simp[i])) ⟨j,h,F i⟩
 .refine concat_meets ⟨_,j,rfl⟩ ⟨_,h,rfl⟩ CL seq_tuple_add CM CN (CO _ _)
   (tuple_addW2 t b d.toArray c.toArray n p y g o f (by simpa using u) (by simpa using i) (by rw[bY,bY];exact l)) ⟨j,h,?_⟩
  rw[e];exact D i
def sIx(n d:Nat):Option Int->Nat
 |none=>d
 |some v=>if v<0 then(v+(n:Int)).toNat else min v.toNat n
theorem sIx_nat(n d k:Nat):sIx n d (aa (k:Int))=min k n:=by show(if(k:Int)<0 then((k:Int)+(n:Int)).toNat else min (k:Int).toNat n)=min k n;rw[if_neg ∅,lf]
theorem sIx_le(n d:Nat)(c:d<=n)(o:Option Int):sIx n d o<=n:=by
 cases o with
 |none=>exact c
 |some v=>
  show(if v<0 then(v+(n:Int)).toNat else min v.toNat n)<=n;by_cases b:v<0
  .rw[if_pos b];lia
  .rw[if_neg b];exact Nat.min_le_right _ _
theorem zo(v:Int)(n d:Nat):(if v<0 then max (v+(n:Int)) 0 else min v (n:Int))=((sIx n d (aa v):Nat):Int):=by
 show(if v<0 then max (v+(n:Int)) 0 else min v (n:Int))=(((if v<0 then(v+(n:Int)).toNat else min v.toNat n):Nat):Int)
 by_cases b:v<0
 .simp only[if_pos b];lia
 .simp only[if_neg b];lia
theorem Gb(b c:Option Int)(n:Nat):CP b c 1 (n:Int)=(((sIx n 0 b:Nat):Int),((sIx n n c:Nat):Int)):=by
 have d:¬((1:Int)<0):=∅
 unfold CP;simp only[d,if_false];refine Prod.ext ?_ ?_
 .cases b with
  |none=>rfl
  |some v=>exact zo v n 0
 .cases c with
  |none=>rfl
  |some v=>exact zo v n n
theorem IX(i j:Nat):yb (i:Int) (j:Int) 1=j-i:=by
 unfold yb;have b:(1:Int) > 0:=∅
 simp only[b,if_true,Int.ediv_one];split <;> lia
theorem B5{v:ah}{o:Option Int}{Q:Option Int->am->Prop}(p:lg v o)(h:Q o s):aq (au a w) A (Builtin.Slice.slicePartIndex v) Q E s:=by
 cases p with
 |none=>exact slicePart_none h
 |int i t=>exact slicePart_int h
theorem JK{j:af}{g f:ah}{b c:Option Int}{n:Nat}{Q:Int×Int×Nat->am->Prop}(o:s.heap.IsSliceOf j g f .none)(m:lg g b)(l:lg f c)(h:Q (((sIx n 0 b:Nat):Int),1,sIx n n c-sIx n 0 b) s):aq (au a w) A (Builtin.Slice.sliceApplied (.ref j) (pure (n:Int))) Q E s:=by
 obtain⟨q,i,p,d⟩:=id o;unfold Builtin.Slice.sliceApplied Builtin.Slice.sliceFields;refine ap (ap (nM i d (x:=g) rfl (ap (nM i d (x:=f) rfl (ap (nM i d (x:=.none) rfl (aE ?_)))))));refine ap (slicePart_none ?_);show aq _ _ (if((1:Int) == 0)=ai then _ else _) _ _ s;rw[if_neg (by decide)];refine ap (B5 m (ap (B5 l (ap (aE ?_)))));show aq _ _ (match CP b c 1 (n:Int)with | (b,c)=>pure (b,(1:Int),yb b c 1)) _ _ s;rw[Gb b c n];show aq _ _ (pure (((sIx n 0 b:Nat):Int),(1:Int),yb ((sIx n 0 b:Nat):Int) ((sIx n n c:Nat):Int) 1)) _ _ s;rw[IX];exact aE h
theorem Ii(xs:Array ah)(i k:Nat):((cz k).filterMap λ(m:Nat)=>xs[((i:Int)+(m:Int)*1).toNat]?).toArray=((xs.toList.drop i).take k).toArray:=by
 have e:(λ(m:Nat)=>xs[((i:Int)+(m:Int)*1).toNat]?)=λm=>xs[i+m]?:=by
  funext m;have:((i:Int)+(m:Int)*1).toNat=i+m:=∅
  rw[this]
 rw[e];have:=pick_run xs i k;rw[List.filterMap_map]at this;have b:((λx=>xs[x]?) ∘ λx=>i+x)=λm=>xs[i+m]?:=rfl;rw[b]at this;rw[this]
theorem getItem_tuple_cut{t i:af}{b:Array ah}{p o:ah}{c d:Option Int}{Q:ah->am->Prop}(g:IsTup s.heap t b)(r:s.heap.IsSliceOf i p o .none)(x:lg p c)(v:lg o d)(z:¬(sIx b.size 0 c=0/\sIx b.size b.size d=b.size))(h:Q (.ref s.heap.objs.size) {s with heap:=s.heap.push {cls:=.type "tuple",data:=.seq ((b.toList.drop (sIx b.size 0 c)).take (sIx b.size b.size d-sIx b.size 0 c)).toArray}})(B:b.size<=a_):aq (au a w) A (pK (.ref t) (.ref i)) Q E s:=by
 have f:sizeOk (.seq ((b.toList.drop (sIx b.size 0 c)).take (sIx b.size b.size d-sIx b.size 0 c)).toArray):=by show((b.toList.drop (sIx b.size 0 c)).take (sIx b.size b.size d-sIx b.size 0 c)).toArray.size<=a_;rw[bY,lc,pL,k9];lia
 have G:sIx b.size b.size d<=b.size:=sIx_le _ _ (a8 _) d;obtain⟨y,u,l,C⟩:=id r;have n:s.TypeIs (.ref i) "slice":=⟨y,u,l⟩
 unfold pK
 try with_reducible refine ig ?_
 first|refine ap (aE ?_)|skip
 refine ap (wpAny_sequenceKey g.typeIs (by decide) ?_);refine ap (wpAny_callSpecial?_slot (name:=rO "__getitem__") g.typeIs LD (rP LD g.typeIs entry_tuple_getitem ?_ (args_tuple_getitem _ _)));show aq _ _ (Builtin.Tuple.tupleItemsOf (.ref t) >>= _) _ _ s;refine ap (tupleItemsOf_ g ?_);refine ap (wpAny_typeOf n ?_);rw[if_pos (by decide)];refine ap (JK r x v ?_);have j:¬((((sIx b.size 0 c:Nat):Int) == 0&&(1:Int) == 1&&(sIx b.size b.size d-sIx b.size 0 c) == b.size)=ai):=by intro q;rw[eB,eB]at q;have F:((sIx b.size 0 c:Nat):Int)=0:=eq_of_beq q.1.1;have D:sIx b.size b.size d-sIx b.size 0 c=b.size:=eq_of_beq q.2;exact z ⟨∅,∅⟩
 show aq _ _ (if(((sIx b.size 0 c:Nat):Int) == 0&&(1:Int) == 1&&(sIx b.size b.size d-sIx b.size 0 c) == b.size)=ai then _ else _) _ _ s;rw[if_neg j,Ii]
 first
  |exact ap (m:=yc _) (lh (aE ⟨_,rfl,aE h⟩) f)
  |exact ap (m:=yc _) (lh (ap (aE (aE ⟨_,rfl,aE h⟩))) f)
  |exact ap (ap (m:=yc _) (lh (aE (aE ⟨_,rfl,aE h⟩)) f))
  |exact ap (ap (m:=yc _) (lh (aE ⟨_,rfl,aE h⟩) f))
end
end HT
namespace L2
abbrev TO:=St->Hp->(Option Int->Hp->Prop)->Prop
def PO(X:Cx)(e:Option aA)(t:TO):Prop :=
 ∀(b:List (af×Obj)) (s:am) (a:St) (H:Hp) (Q:Option Int->Hp->Prop),Inv X b a H s->t a H Q ->
  aq (au X.prog X.w) X.A (evalPart e X.env) (λu d=>∃o c,Inv X b a c d/\lg u o/\Q o c) X.xe s
def J8:TO:=λ_ H Q=>Q ae H
def Fz(t:TE):TO:=λa H Q=>t a H λx b=>∃i,x=.int i/\Q (aa i) b
section
variable{X:Cx}{e:aA}{f:TE}{c d:Option aA}{g j:TO}{n m:Pos}
theorem GM:PO X ae J8:=by intro b s a H Q I h;rw[evalPart_none];exact aE ⟨ae,H,I,.none,h⟩
theorem Io(h:PE X e f):PO X (aa e) (Fz f):=by intro p s a H Q I o;rw[evalPart_some];refine aQ (h p s a H _ I o) λu w ⟨x,v,r,b,l⟩=>?_;obtain⟨i,rfl,q⟩:=l;obtain⟨t,rfl⟩:=b;exact⟨aa i,v,r,.int i t,q⟩
def kK(X:Cx)(r:V->Option Int->Option Int->Hp->VK->Prop):Prop :=
 ∀(l:List (af×Obj)) (s:am) (a:St) (H:Hp) (x:V) (v h b:ah) (c d:Option Int) (i:af) (Q:VK),Inv X l a H s->RelV x v->s.heap.IsSliceOf i h b .none->lg h c->lg b d->r x c d H Q ->
  ∃T o,typeLookup (.type T) "__getitem__"=pure (aa (.builtin o))/\s.TypeIs v T/\aq (au X.prog X.w) X.A (pK v (.ref i)) (EP X l a Q) X.xe s
theorem kK.or{r p:V->Option Int->Option Int->Hp->VK->Prop}(h:kK X r)(z:kK X p):kK X (λx c d H Q=>r x c d H Q\/p x c d H Q):=by
 intro y s a H x v i b c d l Q I o w u t q;rcases q with q|q
 .exact h y s a H x v i b c d l Q I o w u t q
 .exact z y s a H x v i b c d l Q I o w u t q
def Jm(r:V->Option Int->Option Int->Hp->VK->Prop)(f:TE)(g j:TO):TE:=λa H Q=>f a H λx i=>g a i λl h=>j a h λu b=>r x l u b Q
theorem Hv{r:V->Option Int->Option Int->Hp->VK->Prop}(K:kK X r)(N:PE X e f)(L:PO X c g)(G:PO X d j):PE X (.Subscript e (.Slice c d ae m) n) (Jm r f g j):=by intro o s i H Q I h;refine Subscript_ (aQ (N o s i H _ I h) λv z ⟨x,H1,Y,A,D⟩=>?_);refine wpAny_Slice (aQ (L o z i H1 _ Y D) λt y ⟨l,Z,W,F,C⟩=>aQ (G o y i Z _ W C) λp a ⟨u,w,S,E,B⟩=>?_);rw[evalPart_none];refine aE ?_;have P:Inv X o i w {a with heap:=a.heap.push {cls:=.type "slice",data:=.fields #[t,p,.none]}}:=S.kept (t':=a.toks) λb ob q=>bd _ q;obtain⟨T,id,O,J,M⟩:=K o {a with heap:=a.heap.push {cls:=.type "slice",data:=.fields #[t,p,.none]}} i w x v t p l u a.heap.objs.size Q P A (Heap.IsSliceOf.new ..) F E B;show aq (au X.prog X.w) X.A (subscriptTail e (.Slice c d ae m) v (.ref a.heap.objs.size)) (EP X o i Q) X.xe {a with heap:=a.heap.push {cls:=.type "slice",data:=.fields #[t,p,.none]}};exact tail_any (ops:=[.ref a.heap.objs.size,v]) J O M (by with_unfolding_all rfl)
def lQ(xs:List V)(c d:Option Int):List V:=(xs.drop (HT.sIx xs.length 0 c)).take (HT.sIx xs.length xs.length d-HT.sIx xs.length 0 c)
theorem zk(xs:List V)(c d:Option Int):(lQ xs c d).length<=xs.length:=by unfold lQ;rw[lc,pL];lia
def Br(K:aw):V->Option Int->Option Int->Hp->VK->Prop:=λx c d H Q=>∃a xs,x=.ref a/\b_ K H a xs /\
 ¬(HT.sIx xs.length 0 c=0/\HT.sIx xs.length xs.length d=xs.length)/\∀p,H p=ae->Q (.ref p) (upd H p (.tup (lQ xs c d)))
theorem Gm:kK X (Br X.K):=by
 intro J s C H x v E D c d F Q I u B y w h;obtain⟨a,xs,rfl,z,A,q⟩:=h;cases u;obtain⟨i,r,t,p⟩:=I.tuple z;have l:i.toArray.size=xs.length:=by rw[bY];exact r.length.symm
 refine⟨"tuple",_,PyProof.Rows.slot_tuple_getitem.lookup,t.typeIs,?_⟩;refine HT.getItem_tuple_cut t B y w (by rw[l];exact A) ?_ (by rw[l];exact p);rw[l];refine⟨.ref s.heap.objs.size,_,I.laid (t':=s.toks) (o:=.tup (lQ xs c d)) (λb G q=>bd _ q) (a8 _) ?_,rfl,q _ (I.hok.fresh (a8 _))⟩;exact⟨cA (zk xs c d) p,_,(r.drop (HT.sIx xs.length 0 c)).take (HT.sIx xs.length xs.length d-HT.sIx xs.length 0 c),CA.new _ _⟩
def zL(K:aw):R2:=λx y H Q=>∃a b xs h,x=.ref a/\y=.ref b/\b_ K H a xs/\b_ K H b h/\xs≠[]/\xs.length+h.length<=a_ /\
 (h=[]->Q (.ref a) H)/\(h≠[]->∀p,H p=ae->Q (.ref p) (upd H p (.tup (xs++h))))
theorem bq.nil_iff{xs:List V}{a:List ah}(r:bq xs a):a=[]↔xs=[]:=by
 cases r with
 |nil=>simp
 |cons _ _=>simp
theorem Ma:bF X (gT .Add) (zL X.K):=by
 intro N s L H x y v u Q I B A h;obtain⟨a,b,xs,t,rfl,rfl,K,J,G,r,D,C⟩:=h;cases B;cases A;obtain⟨F,l,E,_⟩:=I.tuple K;obtain⟨p,i,m,_⟩:=I.tuple J;refine HT.cat_tup E m (λz=>G (l.nil_iff.mp z)) (λz=>⟨.ref a,H,I,rfl,D (i.nil_iff.mp z)⟩) (λz=>?_) (by rw[<-l.length,<-i.length];exact r);refine⟨.ref s.heap.objs.size,_,I.laid (t':=s.toks) (o:=.tup (xs++t)) (λb M q=>bd _ q) (a8 _) ?_,rfl,C (λw=>z (i.nil_iff.mpr w)) _ (I.hok.fresh (a8 _))⟩;exact⟨by rw[eZ];exact r,_,l.append i,CA.new _ _⟩
end
def i8(n:Nat)(i:Int):Option Nat:=if 0<=i then(if i<n then aa i.toNat else ae)else if -(n:Int)<=i then aa (i+n).toNat else ae
def fi{a:Type}(xs:List a)(i:Int):Option a:=(i8 xs.length i).bind λj=>xs[j]?
theorem zK{n:Nat}{i:Int}{j:Nat}(h:i8 n i=aa j):seqIndex? i n=aa j/\j<n/\-(n:Int)<=i/\i<n:=by
 unfold i8 at h;by_cases b:0<=i
 .rw[if_pos b]at h;by_cases a:i<n
  .rw[if_pos a]at h;have e:i.toNat=j:=dw h;exact⟨by rw[seqIndex_of b a,e],∅,∅,a⟩
  .rw[if_neg a]at h;cases h
 .rw[if_neg b]at h;by_cases a:-(n:Int)<=i
  .rw[if_pos a]at h;have e:(i+n).toNat=j:=dw h;exact⟨by rw[seqIndex_neg ∅ a,e],∅,a,∅⟩
  .rw[if_neg a]at h;cases h
theorem vQ{a:Type}{xs:List a}{i:Int}{v:a}(h:fi xs i=aa v):∃j,seqIndex? i xs.length=aa j/\xs[j]?=aa v/\j<xs.length/\-(xs.length:Int)<=i/\i<xs.length:=by
 unfold fi at h;cases e:i8 xs.length i with
 |none=>rw[e]at h;cases h
 |some j=>rw[e]at h;obtain⟨f,d,c,b⟩:=zK e;exact⟨j,f,h,d,c,b⟩
theorem Jx{a:Type}{xs:List a}{j:Nat}{v:a}(h:xs[j]?=aa v):fi xs (j:Int)=aa v:=by
 have b:j<xs.length:=(cJ.mp h).1;have e:i8 xs.length (j:Int)=aa j:=by unfold i8;rw[if_pos ∅,if_pos ∅];simp
 unfold fi;rw[e];exact h
def A3(b:aA):Prop:=∀o i,yd b aj o i=operate [o,i] (pK o i)
def kA(X:Cx)(r:R2):Prop :=
 ∀(b a:aA) (d:List (af×Obj)) (s:am) (c:St) (H:Hp) (x y:V) (v u:ah) (Q:VK),Inv X d c H s->RelV x v->RelV y u->r x y H Q ->
  yd a aj v u=operate [v,u] (pK v u)->aq (au X.prog X.w) X.A (subscriptTail b a v u) (EP X d c Q) X.xe s
def uQ(X:Cx)(d:String)(r:V->List V->Hp->VK->Prop):Prop :=
 ∀(c:List (af×Obj)) (s:am) (a:St) (H:Hp) (x:V) (xs:List V) (v:ah) (b:List ah) (Q:VK),Inv X c a H s->RelV x v->bq xs b->r x xs H Q ->
  aq (au X.prog X.w) X.A (call (.builtin d) (v::b)) (EP X c a Q) X.xe s
section
variable{X:Cx}{a b:aA}{F E:TE}{D:Pos}
theorem kA.or{r j:R2}(h:kA X r)(n:kA X j):kA X (λx y H Q=>r x y H Q\/j x y H Q):=by
 intro c d m s f H x y v u Q I i g q l;rcases q with q|q
 .exact h c d m s f H x y v u Q I i g q l
 .exact n c d m s f H x y v u Q I i g q l
theorem GW{r:R2}(j:kA X r)(m:PE X a F)(l:PE X b E)(i:A3 b):PE X (.Subscript a b D) (tK r F E):=by intro n s c H Q I h;exact Subscript_ (xF m l I h λv u d x y p o g f q=>j a b n d c p x y v u Q o g f q (i _ _))
def Bd(K:aw):R2:=λx y H Q=>∃p xs i v,x=.ref p/\y=.int i/\b7 K H p xs/\fi xs i=aa v/\Q v H
def yU(K:aw):R2:=λx y H Q=>∃p xs i v,x=.ref p/\y=.int i/\b_ K H p xs/\fi xs i=aa v/\Q v H
def y_:R2:=λx y H Q=>∃z i c,x=.str z/\y=.int i/\z.length<=a_/\fi z.cps.toList i=aa c/\Q (.str ⟨#[c]⟩) H
theorem Md:kA X (Bd X.K):=by
 intro f g J s A H x y v u Q I M L h B;obtain⟨p,xs,i,z,rfl,rfl,N,P,q⟩:=h;cases M;obtain⟨t,rfl⟩:=L;obtain⟨n,r,m,Y⟩:=I.list N;obtain⟨j,d,W,h3,T,S⟩:=vQ P;obtain⟨w,G,l⟩:=r.get W;have O:=r.length;have Z:=mY;have c:EP X J A Q w s:=⟨z,H,I,l,q⟩
 by_cases C:0<=i
 .have o:i.toNat=j:=by
   rw[seqIndex_of C S]at d;exact dw d
  exact item_listR m.isList C ∅ (by rw[o];simpa using G) c B
 .have o:(i+(n.toArray.size:Int)).toNat=j:=by
   rw[seqIndex_neg ∅ T]at d;rw[bY,<-O];exact dw d
  exact subscriptTail_builtinR (x:=w) m.isList.typeIs slot_list_getitem.lookup
   (wpAny_getItem_list_neg (Q:=λr K=>r=w/\EP X J A Q r K) m.isList ∅ (by rw[bY] <;> lia) ∅ (by rw[o];simpa using G) ⟨rfl,c⟩) B
theorem Mi:kA X (yU X.K):=by
 intro c d n s l H x y v u Q I B A h G;obtain⟨p,xs,i,z,rfl,rfl,J,L,q⟩:=h;cases B;obtain⟨t,rfl⟩:=A;obtain⟨C,r,m,P⟩:=I.tuple J;obtain⟨j,N,M,Y,W,T⟩:=vQ L;obtain⟨w,O,f⟩:=r.get M;have K:=r.length;have S:=mY;have g:EP X n l Q w s:=⟨z,H,I,f,q⟩
 exact subscriptTail_builtinR (x:=w) m.typeIs slot_tuple_getitem.lookup
  (getItem_tuple (j:=j) (Q:=λr o=>r=w/\EP X n l Q r o) m ∅ ∅ (by rw[bY,<-K];exact N) (by simpa using O) ⟨rfl,g⟩) G
theorem Hs:kA X y_:=by
 intro d f N s G H x y v u Q I m l h n;obtain⟨z,i,c,rfl,rfl,K,p,q⟩:=h;obtain⟨t,rfl⟩:=m;obtain⟨J,rfl⟩:=l;obtain⟨j,g,A,M,w,r⟩:=vQ p;have o:z.cps.toList.length=z.length:=by simp[mh]
 rw[o]at g w r;have L:=mY;exact tail_any (typeIs_str s z t) slot_str_getitem.lookup (getItem_str (c:=c) (by have C:decide (i < -(2^63:Int))=aj:=decide_eq_false ∅;have B:decide (i ≥ 2^63)=aj:=decide_eq_false ∅;rw[C,B,Bool.or_false]) (by rw[g];simpa using A) ⟨.str ⟨#[c]⟩,H,I.tok _,⟨_,rfl⟩,q⟩) n
def BM(K:aw):R2:=λx y H Q=>Bd K x y H Q\/yU K x y H Q\/y_ x y H Q
theorem gK:kA X (BM X.K):=Md.or (Mi.or Hs)
theorem Fo(c:List ah)(n j:Nat)(u:ah):fH (·.setIfInBounds j u) {cls:=.type "list",data:=.seq c.toArray n}={cls:=.type "list",data:=.seq (c.set j u).toArray n}:=by simp[fH]
theorem Inv.lst{d:List (af×Obj)}{c:St}{H:Hp}{s:am}{p:af}{xs:List V}(I:Inv X d c H s)(h:H p=aa (.lst xs)):∃(its:List ah) (n:Nat),bq xs its/\s.heap.get? p=aa {cls:=.type "list",data:=.seq its.toArray n}/\xs.length<=a_:=by obtain⟨z,its,n,r,e⟩:=I.hok p _ h;exact⟨its,n,r,e,z⟩
theorem Inv.lstUpd{m:List (af×Obj)}{j:St}{H:Hp}{s:am}{p:af}{xs g:List V}{d c:List ah}{n i:Nat}{f:Obj->Obj}(I:Inv X m j H s)(h:H p=aa (.lst xs))(v:s.heap.get? p=aa {cls:=.type "list",data:=.seq d.toArray n}) (l:f {cls:=.type "list",data:=.seq d.toArray n}={cls:=.type "list",data:=.seq c.toArray i}) (r:bq g c) (o:g.length<=a_) (t:Nat):Inv X m j (upd H p (.lst g)) {s with heap:=s.heap.update p f,toks:=t}:=by
 have e:(s.heap.update p f).get? p=aa {cls:=.type "list",data:=.seq c.toArray i}:=by rw[mi f v (by rw[l] <;> rfl),l]
 refine I.write (x:=p) (e:=p) (by rw[h];trivial) (.inl rfl) (λb u w q=>(mj _ _ (ez w)).trans q) ⟨_,e⟩ ?_;exact⟨o,c,i,r,e⟩
def Ey:V->V->V->Hp->(Hp->Prop)->Prop:=λo i v H Q=>∃p xs k j,o=.ref p/\i=.int k/\H p=aa (.lst xs)/\i8 xs.length k=aa j/\Q (upd H p (.lst (xs.set j v)))
theorem KZ:Bi X Ey:=by
 intro L s A H o i v ov M u Q I C G B h;obtain⟨p,xs,k,j,rfl,rfl,m,K,q⟩:=h;cases C;obtain⟨t,rfl⟩:=G;obtain⟨c,n,r,f,J⟩:=I.lst m;obtain⟨d,O,x,w⟩:=zK K;have g:=r.length;have N:=mY;have z:Inv X L A (upd H p (.lst (xs.set j v))) {s with heap:=s.heap.update p (fH (·.setIfInBounds j u))} :=I.lstUpd m f (Fo c n j u) (r.set B j) (by rw[e_];exact J) s.toks;by_cases y:0<=k
 .have l:k.toNat=j:=by
   rw[seqIndex_of y w]at d;exact dw d
  exact PySem.W.ki_setAt f y ∅ (by rw[bY,<-g];exact w) (by rw[l];exact⟨_,z,q⟩)
 .have l:(k+(c.toArray.size:Int)).toNat=j:=by
   rw[seqIndex_neg ∅ x]at d;rw[bY,<-g];exact dw d
  exact PySem.W.ki_setBack f ∅ (by rw[bY,<-g];exact x) ∅ (by rw[l];exact⟨_,z,q⟩)
theorem Ix(c d:Option Int)(n:Nat):(pM c d ae n).1=((HT.sIx n 0 c:Nat):Int)/\(pM c d ae n).2.1=((HT.sIx n n d:Nat):Int)/\(pM c d ae n).2.2=1:=by
 refine⟨?_,?_,rfl⟩
 .cases c with
  |none=>simp[pM,HT.sIx]
  |some i=>
   simp only[pM,HT.sIx,CQ,show(1:Int) > 0 by decide,if_true];by_cases h:i<0
   .simp only[h,if_true] <;> lia
   .simp only[h,if_false] <;> lia
 .cases d with
  |none=>simp[pM,HT.sIx]
  |some i=>
   simp only[pM,HT.sIx,CQ,show(1:Int) > 0 by decide,if_true];by_cases h:i<0
   .simp only[h,if_true] <;> lia
   .simp only[h,if_false] <;> lia
theorem EA(c:List ah)(d f:Option Int):slicePick c.toArray d f ae=((c.drop (HT.sIx c.length 0 d)).take (HT.sIx c.length c.length f-HT.sIx c.length 0 d)).toArray:=by obtain⟨i,h,g⟩:=Ix d f c.toArray.size;unfold slicePick;rw[i,h,g];simp only[sliceRange_one,pick_run,bY] <;> rfl
def Ag(K:aw):V->Option Int->Option Int->Hp->VK->Prop:=λx c d H Q=>∃a xs,x=.ref a/\b7 K H a xs/\∀p,H p=ae->Q (.ref p) (upd H p (.lst (lQ xs c d)))
theorem L8:kK X (Ag X.K):=by
 intro B s u H x v y w c d z Q I g p j i h;obtain⟨a,xs,rfl,n,q⟩:=h;cases g;obtain⟨l,r,f,m⟩:=I.list n;have t:=r.length;refine⟨"list",_,slot_list_getitem.lookup,f.isList.typeIs,?_⟩;refine wpAny_getItem_list_slice f.isList p j i .none (by simp) ?_ (by rw[bY] <;> lia);rw[EA,<-t];refine⟨.ref s.heap.objs.size,_,I.laid (t':=s.toks) (o:=.lst (lQ xs c d)) (λb A q=>bd _ q) (a8 _) ?_,rfl,q _ (I.hok.fresh (a8 _))⟩;exact⟨cA (zk xs c d) m,_,0,(r.drop (HT.sIx xs.length 0 c)).take (HT.sIx xs.length xs.length d-HT.sIx xs.length 0 c),cu _ rfl⟩
def dr:V->Bool
 |.non=>ai
 |.bl _=>ai
 |.int _=>ai
 |.str _=>ai
 |_=>aj
def cb:V->V->Bool
 |.non,.non=>ai
 |.bl a,.bl b=>a == b
 |.bl a,.int b=>(if a then 1 else 0) == b
 |.int a,.bl b=>a == (if b then 1 else 0)
 |.int a,.int b=>a == b
 |.str a,.str b=>a == b
 |_,_=>aj
theorem Ah{A:aJ}{s:am}{y x:V}{u v:ah}(f:RelV y u)(c:RelV x v)(h:dr y=ai)(g:dr x=ai):rQ A s u v (cb y x):=by
 cases y with
 |non=>
  cases f;cases x with
  |non=>cases c;exact SeqAt.EqAt.same _
  |bl b=>cases c;exact SeqAt.EqAt.none_bool b
  |int b=>obtain⟨t,rfl⟩:=c;exact SeqAt.EqAt.none_int b t
  |str b=>obtain⟨t,rfl⟩:=c;exact SeqAt.EqAt.none_str b t
  |_=>exact absurd (show aj=ai from g) eA
 |bl a=>
  cases f;cases x with
  |non=>cases c;exact SeqAt.EqAt.bool_none a
  |bl b=>cases c;exact SeqAt.EqAt.bool_bool a b
  |int b=>obtain⟨t,rfl⟩:=c;exact SeqAt.EqAt.bool_int a b t
  |str b=>obtain⟨t,rfl⟩:=c;exact SeqAt.EqAt.bool_str a b t
  |_=>exact absurd (show aj=ai from g) eA
 |int a=>
  obtain⟨d,rfl⟩:=f;cases x with
  |non=>cases c;exact SeqAt.EqAt.int_none a d
  |bl b=>cases c;exact SeqAt.EqAt.int_bool a d b
  |int b=>obtain⟨t,rfl⟩:=c;exact SeqAt.EqAt.int_int a d b t
  |str b=>obtain⟨t,rfl⟩:=c;exact SeqAt.EqAt.int_str a d b t
  |_=>exact absurd (show aj=ai from g) eA
 |str a=>
  obtain⟨d,rfl⟩:=f;cases x with
  |non=>cases c;exact SeqAt.EqAt.str_none a d
  |bl b=>cases c;exact SeqAt.EqAt.str_bool a d b
  |int b=>obtain⟨t,rfl⟩:=c;exact SeqAt.EqAt.str_int a d b t
  |str b=>obtain⟨t,rfl⟩:=c;exact CS a d b t
  |_=>exact absurd (show aj=ai from g) eA
 |_=>exact absurd (show aj=ai from h) eA
def f9(x:V)(u:ah):Bool:=match u with
 |.none=>cb .non x
 |.bool b=>cb (.bl b) x
 |.int i _=>cb (.int i) x
 |.str z _=>cb (.str z) x
 |_=>aj
theorem qy{x y:V}{u:ah}(r:RelV y u)(f:dr y=ai):f9 x u=cb y x:=by
 cases y with
 |non=>cases r;rfl
 |bl b=>cases r;rfl
 |int i=>obtain⟨t,rfl⟩:=r;rfl
 |str z=>obtain⟨t,rfl⟩:=r;rfl
 |_=>exact absurd (show aj=ai from f) eA
theorem wx{x:V}:∀{xs:List V}{c:List ah},bq xs c->xs.all dr=ai->c.any (f9 x)=xs.any λy=>cb y x
 |_,_,.nil,_=>rfl
 |y::xs,u::c,.cons r t,f=>by rw[ml,eB]at f;rw[List.any_cons,List.any_cons,qy r f.1,wx t f.2]
theorem lN{A:aJ}{s:am}{x:V}{v:ah}(g:RelV x v)(h:dr x=ai):∀{xs:List V}{d:List ah},bq xs d->xs.all dr=ai->∀u∈d,rQ A s u v (f9 x u)
 |_,_,.nil,_=>λu c=>by cases c
 |y::xs,u::d,.cons r t,f=>λi c=>by
  rw[ml,eB]at f;rcases bT.mp c with rfl|c
  .rw[qy r f.1];exact Ah r g f.1 h
  .exact lN g h t f.2 i c
def qN(x:V)(xs:List V):Bool:=xs.any λy=>cb y x
def wv(K:aw)(c:Bool):R2:=λx y H Q=>∃p xs,y=.ref p/\(b7 K H p xs\/b_ K H p xs)/\dr x=ai/\xs.all dr=ai/\Q (.bl (if c then !qN x xs else qN x xs)) H
theorem Ka:bF X (c9 .In) (wv X.K aj):=by
 intro o s n H x y v u Q I i l h;obtain⟨p,xs,rfl,d,j,fs,q⟩:=h;cases l;rcases d with d|d
 .obtain⟨c,r,f,m⟩:=I.list d;refine SeqAt.in_listAt (f9 x) f.isList (λw g=>lN i j r fs w (by simpa using g)) ⟨.bl _,H,I,rfl,?_⟩;rw[show c.toArray.any (f9 x)=c.any (f9 x) by simp,wx r fs];exact q
 .obtain⟨c,r,f,m⟩:=I.tuple d;refine SeqAt.in_tupleAt (f9 x) f (λw g=>lN i j r fs w (by simpa using g)) ⟨.bl _,H,I,rfl,?_⟩;rw[show c.toArray.any (f9 x)=c.any (f9 x) by simp,wx r fs];exact q
theorem d8.or{f:ah}{r i:List V->Hp->VK->Prop}(h:d8 X f r)(l:d8 X f i):d8 X f (λxs H Q=>r xs H Q\/i xs H Q):=by
 intro j s c H xs d Q I g q;rcases q with q|q
 .exact h j s c H xs d Q I g q
 .exact l j s c H xs d Q I g q
theorem Cn:d8 X (.type "list") (λxs H Q=>∃p f,xs=[.ref p]/\(b7 X.K H p f\/b_ X.K H p f)/\∀l,H l=ae->Q (.ref l) (upd H l (.lst f))):=by
 intro J s B H xs K Q I r h;obtain⟨p,f,rfl,t,q⟩:=h;obtain⟨u,rfl,C⟩:=vals1 r;cases C;have v:∀(c:List ah),bq f c->f.length<=a_->∀(d:az) (i:Nat),(∀b A,s.heap.get? b=aa A->d.get? b=aa A) ->
   d.get? s.heap.objs.size=aa {cls:=.type "list",dict:=ae,data:=.seq c.toArray i,slots:=#[]}->EP X J B Q (.ref s.heap.objs.size) {s with heap:=d}:=λc g m d i j e=>
  ⟨.ref s.heap.objs.size,_,I.laid (t':=s.toks) j (a8 _) (show c_ X.prog X.w _ d _ (.lst f)from⟨m,c,i,g,e⟩),rfl,q _ (I.hok.fresh (a8 _))⟩
 rcases t with t|t
 .obtain⟨c,g,w,m⟩:=I.list t;have G:=g.length;obtain⟨o,x,z,n,y⟩:=w.isList;exact call_list_seq p (.inl rfl) x z y (λd i j e=>v c g m d i j e) (by simp only[bY] <;> lia)
 .obtain⟨c,g,w,m⟩:=I.tuple t;have G:=g.length;obtain⟨o,x,z,n,y⟩:=w;exact call_list_seq p (.inr rfl) x z y (λd i j e=>v c g m d i j e) (by simp only[bY] <;> lia)
theorem BJ:d8 X (.type "tuple") (λxs H Q=>∃p d,xs=[.ref p]/\((b7 X.K H p d/\∀l,H l=ae->Q (.ref l) (upd H l (.tup d)))\/(b_ X.K H p d/\Q (.ref p) H))):=by
 intro n s j H xs y Q I r h;obtain⟨p,d,rfl,h⟩:=h;obtain⟨u,rfl,v⟩:=vals1 r;cases v;rcases h with⟨hq,q⟩|⟨hq,q⟩
 .obtain⟨c,g,i,m⟩:=I.list hq;have z:=g.length;refine call_tuple_list i.isList (λf w=>?_) (by simp only[bY] <;> lia);have t:Inv X n j H {s with heap:=f}:=I.kept (t':=s.toks) w;have x:Inv X n j (upd H f.objs.size (.tup d)) {s with heap:=f.push {cls:=.type "tuple",data:=.seq c.toArray}} :=t.laid (t':=s.toks) (λb o e=>bd _ e) (a8 _) (show c_ X.prog X.w _ _ _ (.tup d)from⟨m,c,g,CA.new _ _⟩);exact⟨.ref f.objs.size,_,x,rfl,q _ (t.hok.fresh (a8 _))⟩
 .obtain⟨c,g,i,m⟩:=I.tuple hq;exact call_tuple_same i ⟨.ref p,H,I,rfl,q⟩
def Cf(K:aw)(T:String)(x:V)(H:Hp):Prop:=match x with
 |.str _=>T = "str"
 |.int _=>T = "int"
 |.ref p=>(T = "list"/\∃xs,b7 K H p xs)\/(T = "tuple"/\∃o,K.lookup p=aa o/\o.cls=.type "tuple"/\o.dict=ae) \/
   (T = "dict"/\((∃c,H p=aa (.dK c))\/∃c,H p=aa (.dT c)))\/(T = "set"/\∃S n,H p=aa (.set S n))
 |_=>False
theorem FJ{q:List (af×Obj)}{l:St}{H:Hp}{s:am}{T:String}{x:V}{v:ah}(I:Inv X q l H s)(r:RelV x v)(ty:Cf X.K T x H):s.TypeIs v T/\∀a,v=.ref a->∃j,s.heap.get? a=aa j/\j.dict=ae:=by
 cases x with
 |str z=>
  obtain⟨t,rfl⟩:=r;cases (show T = "str" from ty);exact⟨typeIs_str s z t,λ_ e=>nomatch e⟩
 |int i=>
  obtain⟨t,rfl⟩:=r;cases (show T = "int" from ty);exact⟨typeIs_int s i t,λ_ e=>nomatch e⟩
 |ref p=>
  cases r;rcases ty with⟨rfl,xs,hq⟩|⟨rfl,o,hk,hc,f⟩|⟨rfl,hk⟩|⟨rfl,S,n,hk⟩
  .obtain⟨m,_,h,_⟩:=I.list hq;refine⟨h.isList.typeIs,λa e=>?_⟩;cases e;obtain⟨o,n,e,c,f,_⟩:=h;exact⟨o,e,f⟩
  .refine⟨⟨o,I.kIn p o hk,hc⟩,λa e=>?_⟩;cases e;exact⟨o,I.kIn _ o hk,f⟩
  .have z:∃o,s.heap.get? p=aa o/\o.ExactDict:=by
    rcases hk with⟨kvs,hk⟩|⟨kvs,hk⟩
    .obtain⟨_,_,_,_,o,_,_,e,d,_⟩:=I.hok p _ hk;exact⟨o,e,d⟩
    .obtain⟨_,_,_,_,o,_,_,e,d,_⟩:=I.hok p _ hk;exact⟨o,e,d⟩
   obtain⟨o,e,d⟩:=z;refine⟨⟨o,e,d.1⟩,λa g=>?_⟩;cases g;exact⟨o,e,d.2.1⟩
  .obtain⟨o,_,_,_,e,d,_⟩:=I.hok p _ hk;refine⟨⟨o,e,d.1⟩,λa g=>?_⟩;cases g;exact⟨o,e,d.2.1⟩
 |_=>exact fF ty
def Fv(K:aw)(T:String)(r:V->List V->Hp->VK->Prop)(B:TE)(t:TA):TE:=λc H Q=>B c H λx d=>Cf K T x d/\t c d λxs f=>r x xs f Q
variable{o e:aA}{es:List aA}{B:TE}{t:TA}{g:Str}{m d:Pos}{T C:String}{r:V->List V->Hp->VK->Prop}
theorem pi(K:PlainAttrs T)(c:Slot T g C)(L:typeOf (.builtin C)=pure (.type "method_descriptor"))(S:uQ X C r)(P:PE X o B)(W:PA X (e::es) t)(N:kc o g X.env (aM o X.env)=aM o X.env:=by rfl)(u:((cg d (aI (e::es) X.env)).all (λx=>!x.1)&&(nN d (nO [] X.env)).all (λx=>x.1.isSome)&&decide ((e::es).length+([]:List ik).length+(if([]:List ik).isEmpty then 0 else 1)<30))=ai:=by rfl)(M:(m.endLine == d.line)=ai:=by rfl) (O:aI (e::es) X.env=(aj,aM e X.env)::aI es X.env:=by rfl) (w:(cg d (aI es X.env)).any (·.1)=aj:=by rfl):PE X (.Call (.Attribute o g m) (e::es) [] d) (Fv X.K T r B t):=by intro i s f H Q I h;refine wpAny_Call_method_late N u M rfl (aQ (P i s f H _ I h) λv z ⟨x,H1,n,j,ty,J⟩=>?_);obtain⟨Z,Y⟩:=FJ n j ty;refine⟨T,C,K,c,L,Z,Y,?_⟩;have l:=W d i z f H1 _ n J;rw[O]at l ⊢;refine Calls.callWith_builtin (by show(aj||(cg d (aI es X.env)).any (·.1))=aj;rw[w] <;> rfl) (CT ?_);exact aQ l λq y ⟨p,H2,I2,A,G⟩=>S i y f H2 x p v q Q I2 j A G
end
def nB(X:Cx)(d:String)(r:V->List V->Hp->VK->Prop):Prop :=
 ∀(c:List (af×Obj)) (s:am) (a:St) (H:Hp) (x:V) (xs:List V) (v:ah) (b:List ah) (Q:VK),Inv X c a H s->RelV x v->bq xs b->r x xs H Q ->
  aq (au X.prog X.w) X.A (call (.builtin d) (v::b)) (EP X c a Q) X.xe s
theorem bq.one:∀{x:V}{a:List ah},bq [x] a->∃u,a=[u]/\RelV x u
 |_,_,.cons r .nil=>⟨_,rfl,r⟩
section
variable{X:Cx}{d:List (af×Obj)}{a:St}{H:Hp}{s:am}{l b:af}{g c i:List V}
theorem Inv.lset{h its':List ah}{n:Nat}{f:Array ah->Array ah}{j:Nat}(I:Inv X d a H s)(v:H l=aa (.lst g))(e:s.heap.get? l=aa {cls:=.type "list",data:=.seq h.toArray n}) (r:f h.toArray=its'.toArray) (o:bq c its') (m:c.length<=a_):Inv X d a (upd H l (.lst c)) {s with heap:=s.heap.update l (fH f),toks:=j}:=by have q:=PySem.IsL.update e f;rw[r]at q;refine I.write (x:=l) (e:=l) (by rw[v];exact trivial) (.inl rfl) (λw u t p=>(mj s.heap (fH f) (ez t)).trans p) ⟨_,q⟩ ?_;exact⟨m,its',_,o,q⟩
theorem Inv.lnew{its:List ah}{t':Nat}(I:Inv X d a H s)(h:bq c its)(f:c.length<=a_):Inv X d a (upd H s.heap.objs.size (.lst c)) {s with heap:=s.heap.push {cls:=.type "list",data:=.seq its.toArray},toks:=t'} :=I.laid (λ_ _ q=>bd _ q) (a8 _) ⟨f,its,0,h,cu _ rfl⟩
theorem Inv.fresh(I:Inv X d a H s):H s.heap.objs.size=ae:=I.hok.fresh (a8 _)
theorem Inv.lstM(I:Inv X d a H s)(h:H l=aa (.lst g)):g.length<=a_/\∃(f:List ah) (n:Nat),bq g f/\g.length=f.length/\s.heap.get? l=aa {cls:=.type "list",data:=.seq f.toArray n}:=by obtain⟨z,f,n,r,e⟩:=I.hok l _ h;exact⟨z,f,n,r,r.length,e⟩
theorem JG{n:Nat}(h:n<=a_):CU n=aj:=by unfold CU;exact decide_eq_false ∅
end
section
variable{X:Cx}
def Ib:V->List V->Hp->VK->Prop:=λx a H Q=>∃l xs y,x=.ref l/\a=[y]/\H l=aa (.lst xs)/\xs.length<a_/\Q .non (upd H l (.lst (xs++[y])))
theorem AX:nB X "list.append" Ib:=by
 intro o s f H x g v i Q I b c h;obtain⟨l,xs,y,rfl,rfl,a,j,q⟩:=h;cases b;obtain⟨u,rfl,d⟩:=c.one;obtain⟨z,its,n,r,m,e⟩:=I.lstM a;refine pN F.slot_list_append ⟨_,e,rfl⟩ F.entry_list_append (F.args_list_append_2 _ _) (PySem.list_append l its.toArray n u (by rw[bY];lia)) ⟨e,?_⟩;refine⟨.non,_,I.lset (its':=its++[u]) a e (by simp) (r.append (.cons d .nil)) ?_,rfl,q⟩;rw[eZ,u0];lia
theorem Hy{a:Type}(xs:List a)(k:Nat):(bW k xs).flatten.length=k*xs.length:=by
 induction k with
 |zero=>simp
 |succ k b=>rw[u5,CV,eZ,b,ye,Nat.add_comm]
end
section
variable{a:Type}[DecidableEq a]
def iU(b:List (a×V))(k:a):Option V:=(b.find? λc=>decide (c.1=k)).map (·.2)
theorem Bp{p:a×V}{r:List (a×V)}{k:a}(e:p.1=k):iU (p::r) k=aa p.2:=by simp[iU,rR,e]
theorem Ax{p:a×V}{r:List (a×V)}{k:a}(e:¬p.1=k):iU (p::r) k=iU r k:=by simp[iU,rR,e]
theorem pD.isSome_eq{o:Option V}{u:Option ah}(r:pD o u):o.isSome=u.isSome:=by
 cases o with
 |none=>cases u with
  |none=>rfl
  |some _=>exact(show False from r).elim
 |some _=>cases u with
  |none=>exact(show False from r).elim
  |some _=>rfl
end
section
variable{X:Cx}{d:List (af×Obj)}{c:St}{H:Hp}{s:am}{a:af}{y v:V}{u r:ah}{o:Option V}{A:aJ}{E:ah->am->Prop}
theorem Inv.big(I:Inv X d c H s):pH<s.heap.objs.size:=by have h:bA<s.heap.objs.size:=(I.mod.glob.keeps I.bk).lt;exact yf (by decide) h
theorem Em{f:az}{g:Nat}{ob:HO}(I:Inv X d c H s)(h:qF (H a))(i:jA a s.heap f)(j:∃q,f.get? a=aa q)(new:c_ X.prog X.w (upd H a ob) f a ob):Inv X d c (upd H a ob) {s with heap:=f,toks:=g} :=I.write (x:=a) (e:=a) h (.inl rfl) (λb q l z=>(i.2 b l).trans z) j new
end
def wB(i:aA):Prop:=∀ov a,yd i aj ov a=operate [ov,a] (pK ov a)
theorem KQ{a:aN}{w:aD}{A:aJ}{E:ah->am->Prop}{s:am}{m:Env}{c b:aA}{q:Pos}{T u:String}{Q:ah->am->Prop}(y:typeLookup (.type T) "__getitem__"=pure (aa (.builtin u))) (v:wB b)(h:aq (au a w) A (aM c m) (λo j=>aq (au a w) A (aM b m) (λi d=>d.TypeIs o T/\aq (au a w) A (pK o i) Q E d) E j) E s):aq (au a w) A (aM (.Subscript c b q) m) Q E s:=by
 refine Subscript_ (cW h (λo j p=>cW p (λi d f=>?_) λ_ _ x=>x) λ_ _ x=>x);obtain⟨t,f⟩:=f;unfold subscriptTail;refine ap ?_;rw[getitemInPython_of_ne t.not_modules];refine ap (u6 t y ?_);have l:aq (au a w) A (yd b aj o i) (λr g=>aq (au a w) A (letTemporaryGo c o r >>= λ_=>pure r) Q E g) E d:=by rw[v o i];exact wpAny_operating (cW f (λr g n=>ap (wpAny_letTemporaryGo (aE n))) λ_ _ x=>x)
 first
  |exact aE (ap l)
  |exact ap (aE (ap l))
  |exact ap l
theorem HR{P:aN}{w:aD}{H:Hp}(h:az)(a:pH<h.objs.size):c_ P w H (h.push {cls:=.type "dict",data:=.dict #[]}) h.objs.size (.dT []) :=⟨li _,beq_eq_false_iff_ne.mpr (ez (cM a)),[],.nil,_,#[],0,cu _ rfl,⟨rfl,rfl,rfl⟩,rfl,rfl,List.nodup_nil⟩
structure M1(X:Cx)(o:aA)(m:Str)(apos:Pos)(e:aA)(cpos:Pos):Prop where
 base:kc o m X.env (aM o X.env)=aM o X.env
 few:((cg cpos (aI [e] X.env)).all (λx=>!x.1)&&(nN cpos (nO [] X.env)).all (λx=>x.1.isSome)&&decide (([e]:List aA).length+([]:List ik).length+(if([]:List ik).isEmpty then 0 else 1)<30))=ai
 line:(apos.endLine == cpos.line)=ai
 trees:cg cpos (aI [e] X.env)=[(aj,aM e X.env)]
end L2
namespace Att
open PySem PySem.W PySem.Calls PyProof.Rows
theorem Kc{P:Params}{h:az}:∀(c:List Int) (d:List ah),WellAll P h d (c.map WData.int)->IntsAre d c:=by
 intro c
 induction c with
 |nil=>
  intro d w;rw[List.map_nil]at w;cases w;exact .nil
 |cons n c f=>
  intro d w;rw[mn]at w;cases w with
  |cons a b=>
   cases a;exact .cons _ _ (f _ b)
theorem Ld{l:OpenLaw}{n:Nat}(x:l.most=aa n){P:Params}{h:az}{args:List WData}{c:List ah}(m:l.row.toRowW.claim.pre args=ai) (i:WellAll P h c args):∃a j b,c=[Value.ref a]/\args=[WData.list (b.map WData.int)]/\h.get? a=aa {cls:=.type "list",data:=.seq j.toArray}/\IntsAre j b/\b.length<=n:=by
 have u:WShape.hasAll [] args [.list .int]=ai:=(pre_splitW m).1;have o:l.pre.holds [] {args:=args}=ai:=(pre_splitW m).2;obtain⟨d,r,rfl,A,z⟩:=hasAllW_cons u;obtain rfl:=hasAllW_nil z;obtain⟨xs,rfl,y⟩:=hasW_list A;obtain⟨b,rfl⟩:=items_int y;have B:b.length<=n:=by
  unfold OpenLaw.pre at o;have g:(WTm.not (.lt (.lit (.int (n:Int))) (.len (.arg 0)))).holds [] {args:=[.list (b.map .int)]}=ai:=by have g:=(holds_andW o).1;rw[x]at g;exact g
  have f:=condW_of g (w_not (w_lt w_lit (w_len_list (w_arg rfl))));rw[fG]at f;refine Nat.le_of_not_lt λq=>?_;have t:(n:Int)<((b.length:Nat):Int):=∅
  first
   | (rw[decide_eq_true t]at f;exact absurd f (by decide))
   | (simp at f;lia)
 cases i with
 |cons s p=>
  cases p;cases s with
  |list w v=>exact⟨_,_,b,rfl,rfl,w,Kc b _ v,B⟩
theorem Ig(l:OpenLaw)(args:List WData):l.row.toRowW.claim.post args (.bool ai) args=ai :=
 postW_of (r:=l.row.toRowW) (X:=(ai == ai))
  (show WShape.has [] (.bool ai) .bool=ai by first|rfl|decide|simp[WShape.has,WShape.arms,WShape.armsAll])
  (show(WTm.eq .res (.lit (.bool ai))).value [] {args:=args,res:=aa (.bool ai),after:=args}=aa (.bool (ai == ai))from w_eq_bool (w_res rfl) w_lit) rfl
theorem attach_call{l:OpenLaw}{n:Nat}{q:aN}{g:List Str}{XP:(Str->Option ah)->az->Prop}{C:aD->az->Prop}{d:DefRec}(M:l.most=aa n) (I:d.params.defaults=[])(call:∀(w:aD) (c b:am) (s v:Str->Option ah) (j:af) (o:Obj) (u t h:ah) (a:af) (i:List ah) (p:List Int),Ground q g [] XP w c s v b.heap->C w b.heap -> b.heap.get? j=aa o->o.data=.func (docDef d.name d.params d.body d.scope u t h)->b.heap.CodeRec t d.name->s d.name=aa (.ref j) -> b.heap.get? a=aa {cls:=.type "list",data:=.seq i.toArray}->IntsAre i p->p.length<=n->b.gens=#[] -> jC (au l.prog w) pO (.call (.ref j) ⟨[.ref a],[]⟩) (λr m=>r=.ok (.ret (.bool ai))/\OldK b.heap m.heap/\m.os=b.os/\kY m.gens) b):WalkO q g XP C l.row.toRowW d [] (λf i=>PySem.call f i):=by intro w c b s v G Y j o u t h dV kV L Q Z A H P B y as F z J x O;obtain rfl:dV=.none:=Dflts.none A I;obtain rfl:kV=.none:=Dflts.noKw A;obtain⟨a,i,p,rfl,rfl,D,E,X⟩:=Ld M F x;refine enter_call (nI (call w c b s v j o u t h a i p G Y L (fd_plain Q) Z H D E X P) λr m K=>?_);obtain⟨rfl,W,T,S⟩:=K;exact⟨.inl ⟨.bool ai,.bool ai,[],rfl,λ_=>rfl,.bool ai,Ig l _,λ_=>⟨List.Pairwise.nil,λ_ N=>(nomatch N)⟩⟩,W,T,S⟩
end Att
namespace L2
theorem yZ:∀{a:List ah}{b:List Int},IntsAre a b->bq (b.map V.int) a
 |_,_,.nil=>.nil
 |_,_,.cons n t h=>.cons ⟨t,rfl⟩ (yZ h)
def xo(H:Hp):Prop:=∀b,H b=ae\/(∃o xs,H b=aa (.frz o (.lst xs)))\/∃q,H b=aa (.tbl q)
def iM(K:aw):Hp:=λb=>match jy K "least_ending" with
 |some (_,P)=>if b=P then aa (.tbl "least_ending.<locals>.<lambda>")else ae
 |none=>ae
theorem nj{K:aw}{b:af}{u:HO}(h:iM K b=aa u):u=.tbl "least_ending.<locals>.<lambda>"/\∃c,jy K "least_ending"=aa (c,b):=by
 unfold iM at h;split at h
 .rename_i c P e;split at h
  .rename_i a;subst a;cases h;exact⟨rfl,c,e⟩
  .cases h
 .cases h
theorem zB{K:aw}{c P:af}(h:jy K "least_ending"=aa (c,P)):iM K P=aa (.tbl "least_ending.<locals>.<lambda>"):=by unfold iM;rw[h];exact if_pos rfl
def zg(K:aw)(h:az):Prop:=∀c P,jy K "least_ending"=aa (c,P)->u7 K c P=ai/\K.lookup P=ae/\h.get? P=aa {cls:=.none,data:=.fields #[]}
theorem HW{P:aN}{w:aD}{K:aw}{J mb:Str->Option ah}{CX:eJ}{k:Nat}{fa a:af}{fd:fE}{x:Str}{sp:Sp}{f:am}{E:List ah}{L:List Int}(KX:K.In f.heap) (jK:f.heap.Ns bA J) (j:f.heap.Ns l9 mb) (lA:∀x:Str,x≠"__name__"->mb x=dy x) (N:f.heap.NoLimit) (hbm:∃D A,J "__builtins__"=aa (.ref D)/\D≠l9/\f.heap.get? D=aa A/\A.cls=.type "module"/\A.dict=aa l9/\A.data=.plain) (B:zg K f.heap) (hg:f.gens=#[])(t:f.heap.get? a=aa {cls:=.type "list",data:=.seq E.toArray}) (hi:IntsAre E L) (hl:L.length<=a_) (hr:Room k pO)(F:∀p:az,K.In p->p.Ns bA J->jn P w K J p CX k fa fd [x] sp) (LN:∀(s:am) (u:ah),BindsTo s fd ⟨[u],[]⟩ [(x,u)])(fK:∀H:Hp,xo H->b7 K H a (L.map V.int)->sp [.ref a] H (λv _=>v=.bl ai) λ_ _ _=>False)(hCX:∀H e l,CX [] H f (λ_ _ _=>False) e l->False):jC (au P w) pO (.call (.ref fa) ⟨[.ref a],[]⟩) (λr l=>r=.ok (.ret (.bool ai))/\OldK f.heap l.heap/\l.os=f.os/\kY l.gens) f:=by
 have rv:=yZ hi;have M:=hi.length;have C:∀H:Hp,xo H->b7 K H a (L.map V.int)->cP P w H f.heap->(∀b,H b≠ae->b=a\/∃c,jy K "least_ending"=aa (c,b))->(H a≠ae->K.lookup a=ae)->tu K H ->
   jC (au P w) pO (.call (.ref fa) ⟨[.ref a],[]⟩) (λr l=>r=.ok (.ret (.bool ai))/\OldK f.heap l.heap/\l.os=f.os/\kY l.gens) f:=by
  intro H hO hS G X hK hTH;have g:∀{b:af}{o:Obj},f.heap.get? b=aa o->H b=ae->(kL f.heap H).get? b=aa o:=λe n=>Hi e n;have noA:∀{b:af}{o:Obj}{Q:Array DictEntry}{S:Nat},f.heap.get? b=aa o->o.data=.dict Q S->H b=ae:=λ{b o Q S} e d=>by
   cases q:H b with
   |none=>rfl
   |some u=>
    rcases X b (by rw[q];simp)with i|⟨c,i⟩
    .subst i;rw[t]at e;cases e;have d':Data.seq E.toArray _=Data.dict Q S:=d;cases d'
    .rw[(B c b i).2.2]at e;cases e;cases d
  have y:∀{b:af}{m:Str->Option ah},f.heap.Ns b m->(kL f.heap H).Ns b m:=λ{b m} ⟨o,Q,S,e,d,r⟩=>⟨o,Q,S,g e (noA e d),d,r⟩
  have O:K.In (kL f.heap H):=λb o e=>g (KX b o e) (by
   cases q:H b with
   |none=>rfl
   |some u=>
    rcases X b (by rw[q];simp)with i|⟨c,i⟩
    .subst i;rw[hK (by rw[q];simp)]at e;cases e
    .rw[(B c b i).2.1]at e;cases e)
  have hM:Mod K J (kL f.heap H):=⟨O,y jK,⟨mb,y j,lA⟩,(let ⟨mc,h1,h2⟩:=N;⟨mc,y h1,h2⟩),by
   obtain⟨D,A,b1,b2,W,b4,b5,b6⟩:=hbm;refine⟨D,A,b1,b2,g W ?_,b4,b5,b6⟩;cases q:H D with
   |none=>rfl
   |some u=>
    rcases X D (by rw[q];simp)with i|⟨c,i⟩
    .subst i;rw[t]at W;cases W;simp at b4
    .rw[(B c D i).2.2]at W;cases W;simp at b4⟩
  have e0:oQ P w K J (kL f.heap H) pO [] f H:=⟨rfl,hM,λb o e=>Ly e,ke (DJ _ _),trivial,λb j=>absurd (show b∈([]:List af)from j) (by simp),G,.of_eq hg,hTH⟩
  refine nI ((F _ O (y jK)).run pO [] f H ⟨[.ref a],[]⟩ [.ref a] [.ref a] _ _ hr e0 (LN f (.ref a)) (.cons rfl .nil) (fK H hO hS)) λr l h=>?_;cases r with
  |error e=>exact(hCX H e l h).elim
  |ok fl=>
   cases fl with
   |next=>exact fF h
   |brk=>exact fF h
   |cont=>exact fF h
   |ret u=>
    obtain⟨v,H',os,T,un,Dr,r',q⟩:=h;have q':v=.bl ai:=q;subst q';obtain rfl:u=Value.bool ai:=r';refine⟨rfl,⟨λb o e=>?_,λb o e=>un.there b o e (by simp)⟩,os,T⟩;cases q:H b with
    |none=>exact .inl (un.keep b o e q (by intro z;exact absurd (show b∈([]:List af)from z) (by simp)) (by simp))
    |some u=>
     rcases hO b with z|⟨A,xs,z⟩|⟨qn,z⟩
     .rw[q]at z;cases z
     .have z2:=un.frzs b A _ z;obtain⟨I,_⟩:=G b _ z;obtain⟨e2,_⟩:=Dr b _ z2;rw[e]at I;cases I;exact .inl e2
     .rcases X b (by rw[q];simp)with i|⟨c,i⟩
      .subst i;obtain⟨ps,I,_⟩:=G b _ z;rw[t]at I;cases I
      .obtain⟨k1,k2,k3⟩:=B c b i;rw[k3]at e;cases e;obtain⟨oc,Y,_,_,_,_,_,_,_,f1,f2,f3,f4,_⟩:=PySem.W.codeHd_of_K KX k1;obtain⟨ps,I,_⟩:=Dr b _ (un.tbls b _ z);exact .inr (.inl ⟨⟨c,oc,Y,f1,f2,f3,f4⟩,rfl,#[],ps,rfl,by rw[I];simp⟩)
 cases hk:K.lookup a with
 |some o=>
  have e:=KX a o hk;rw[t]at e;cases e;have tH:∀b u,iM K b=aa u->c_ P w (iM K) f.heap b u:=λb u z=>by
   obtain⟨rfl,c,e⟩:=nj z;exact⟨#[],(B c b e).2.2,trivial,λZ cv h=>by cases h⟩
  refine C (iM K) (λb=>?_) (.inr ⟨_,E.toArray,_,hk,rfl,rfl,rfl,by rw[bY,M];exact hl,by simpa using rv⟩) tH (λb z=>?_) (λz=>?_) λx hx c P e=>?_
  .cases q:iM K b with
   |none=>exact .inl rfl
   |some u=>exact .inr (.inr ⟨_,congrArg aa (nj q).1⟩)
  .cases q:iM K b with
   |none=>exact absurd q z
   |some u=>exact .inr (nj q).2
  .cases q:iM K a with
   |none=>exact absurd q z
   |some u=>
    obtain⟨_,c,i⟩:=nj q;rw[(B c a i).2.2]at t;cases t
  .obtain rfl:x = "least_ending":=by simpa[rj]using hx
   exact zB e
 |none=>
  have ta:∀c P,jy K "least_ending"=aa (c,P)->P≠a:=λc P e z=>by subst z;rw[(B c P e).2.2]at t;cases t
  refine C (λb=>if b=a then aa (.frz {cls:=.type "list",data:=.seq E.toArray} (.lst (L.map V.int)))else iM K b) (λb=>?_) (.inl (.inr ⟨{cls:=.type "list",data:=.seq E.toArray},if_pos rfl⟩)) (λb u z=>?_) (λb z=>?_) (λ_=>hk) λx hx c P e=>?_
  .by_cases j:b=a
   .exact .inr (.inl ⟨_,_,if_pos j⟩)
   .cases q:iM K b with
    |none=>exact .inl ((if_neg j).trans q)
    |some u=>exact .inr (.inr ⟨_,(if_neg j).trans (q.trans (congrArg aa (nj q).1))⟩)
  .by_cases j:b=a
   .have z':=(if_pos j).symm.trans z;cases z';subst j;exact⟨t,by rw[fG];exact hl,E,_,rv,t⟩
   .obtain⟨rfl,c,e⟩:=nj ((if_neg j).symm.trans z);exact⟨#[],(B c b e).2.2,trivial,λZ cv h=>by cases h⟩
  .by_cases j:b=a
   .exact .inl j
   .cases q:iM K b with
    |none=>exact absurd ((if_neg j).trans q) z
    |some u=>exact .inr (nj q).2
  .obtain rfl:x = "least_ending":=by simpa[rj]using hx
   exact(if_neg (ta c P e)).trans (zB e)
theorem Mq{l:yg}{n k:Nat}{q:aN}{c:List Str}{XP:(Str->Option ah)->az->Prop}{D:aD->az->Prop}{d:DefRec}{K:Params->aw}{CX:aD->eJ}{sp:aD->Sp}{x:Str}(O:l.most=aa n) (r:n<=a_) (M:d.params.defaults=[]) (N:Room k pO)(B:∀(w:aD) (h:az),D w h->(K w.params).In h/\zg (K w.params) h)(F:∀(w:aD) (g:Str->Option ah) (m:af) (h:az),(K w.params).In h->h.Ns bA g->g d.name=aa (.ref m) -> ∃y:fE,(∀(s:am) (u:ah),BindsTo s y ⟨[u],[]⟩ [(x,u)]) /\ ∀b:az,(K w.params).In b->b.Ns bA g->jn l.prog w (K w.params) g b (CX w) k m y [x] (sp w))(X:∀(w:aD) (H:Hp) (a:af) (j:List Int),j.length<=n->xo H->b7 (K w.params) H a (j.map V.int)->sp w [.ref a] H (λv _=>v=.bl ai) λ_ _ _=>False)(t:∀(w:aD) (H:Hp) (s:am) (e:ah) (p:am),CX w [] H s (λ_ _ _=>False) e p->False):PySem.W.WalkO q c XP D l.row.toRowW d [] (λf z=>PySem.call f z):=by refine Att.attach_call O M λw A i g mb m o pm cd Z a z j G Y ho hd bK L I J C P=>?_;have E:=(B w _ Y).1;obtain⟨y,Q,W⟩:=F w g m _ E G.T.g L;exact HW E G.T.g G.T.b G.T.builtins G.T.nolimit G.T.bmain (B w _ Y).2 P I J (cA C r) N W Q (λH T S=>X w H a j C T S) λH e p=>t w H i e p
def iy(s:aU):nL:=match s with
 |.FunctionDef _ a _ _ _ _ _ _ _ _=>a
 |_=>{posonlyargs:=[],args:=[],vararg:=ae,kwonlyargs:=[],kw_defaults:=[],kwarg:=ae,defaults:=[]}
def dX(s:aU):List aU:=match s with
 |.FunctionDef _ _ b _ _ _ _ _ _ _=>b
 |_=>[]
def aT(s:aU):cN:=match s with
 |.FunctionDef _ _ _ _ _ _ a _ _ _=>a
 |_=>{kind:=.function,names:=[],isGenerator:=aj,isCoroutine:=aj}
abbrev wg:eJ:=λ_ _ _ _ _ _=>False
abbrev E0:XK:=λ_ _ _=>False
structure mW(K:aw)(x qual:Str)(st:aU)(f:af)(fd:fE):Prop where
 ex:∃(oc:ah) (od:Option af) (kV doc pm:ah) (an:Option af) (aF ct:ah) (osl:Array (Option ah)),
  fd=ge x qual (iy st) (dX st) (aT st) .none kV doc pm an aF ct/\K.lookup f=aa ⟨oc,od,.func fd,osl⟩/\rN K aF qual=ai
 kp:nJ K (.ref f)=ai
section
variable{P:aN}{w:aD}{K:aw}{b:Str->Option ah}{a:az}
theorem mW.binds{x c:Str}{g:aU}{f:af}{p:fE}{j:List Str}(F:mW K x c g f p)(h:∀(kV d l:ah) (n:Option af) (o m:ah) (i:List ah),i.length=j.length->dY (ge x c (iy g) (dX g) (aT g) .none kV d l n o m) ⟨i,[]⟩=pure (j.zip i)):Binds K p j []:=by obtain⟨oc,r,kV,d,l,n,o,m,q,rfl,s,t⟩:=F.ex;exact .all (h kV d l n o m)
theorem BA{x d:Str}{g:aU}{f:af}{oc:ah}{p o:Option af}{i:Array (Option ah)}{kV h m j n:ah}(l:K.lookup f=aa ⟨oc,p,.func (ge x d (iy g) (dX g) (aT g) .none kV h m o j n),i⟩)(c:rN K j d=ai) (k:nJ K (.ref f)=ai):mW K x d g f (ge x d (iy g) (dX g) (aT g) .none kV h m o j n):=⟨⟨oc,p,kV,h,m,o,j,n,i,rfl,l,c⟩,k⟩
end
theorem Jr{n:Nat}(h:n<=1000):n<a_:=yh h (by decide)
section
variable{X:Cx}
theorem pv(i:Nat){x:Str}{a:Pos}(d:X.N[i]?=aa x:=by rfl)(b:fN X.env.scope x:=by eq_refl)(c:(x==("__debug__":Str))=aj:=by decide)(f:(x==("__classdict__":Str))=aj:=by decide):PE X (.Name x a) (BZ i):=ix d b c f
end
theorem mT{A B:Prop}(h:B):if aj=ai then A else B:=by rw[if_neg eA];exact h
theorem nr{A B:Prop}(h:A):if ai=ai then A else B:=by rw[if_pos rfl];exact h
def Same(H a:Hp):Prop:=∀b o,H b=aa o->a b=aa o
theorem Same.refl(H:Hp):Same H H:=λ_ _ h=>h
theorem Same.trans{H f d:Hp}(a:Same H f)(b:Same f d):Same H d:=λc o h=>b c o (a c o h)
theorem Same.free{H a:Hp}(e:Same H a){l:af}(h:a l=Option.none):H l=Option.none:=by
 cases q:H l with
 |none=>rfl
 |some o=>
  rw[e l o q]at h;cases h
end L2
set_option maxHeartbeats 4000000
namespace L2
def fV(a:Env):List (Str×eY)->List (Str×af)->List (Str×af)
 |[],b=>b
 | (n,k)::r,b=>if k == .free then fV a r ((n,(a.cells.lookup n).getD 0)::b)else fV a r b
theorem Km{d:Env}{y:Str}{c:af}(b:List (Str×eY))(f:List (Str×af))(j:∀x∈b,x.2=.free->∃c,d.cells.lookup x.1=aa c)(h:(fV d b f).lookup y=aa c):f.lookup y=aa c\/d.cells.lookup y=aa c:=by
 induction b generalizing f with
 |nil=>exact .inl h
 |cons a r g=>
  obtain⟨n,k⟩:=a;unfold fV at h;have i:∀x∈r,x.2=.free->∃c,d.cells.lookup x.1=aa c:=λx m=>j x (jh _ m);split at h
  .rename_i o;obtain⟨s,l⟩:=j (n,k) (jz ..) (by simpa using o);rcases g _ i h with q|q
   .rw[ji]at q;split at q
    .rename_i p;have e:y=n:=by simpa using p
     subst e;rw[l]at q;exact .inr (by rw[l];exact q)
    .exact .inl q
   .exact .inr q
  .exact g _ i h
theorem Bv{a:Type}{n:Str}{v:a}{l:List (Str×a)}:((n,v)::l).lookup n=aa v:=by rw[ji];simp
theorem AU{a:Type}{n y:Str}{v:a}{l:List (Str×a)}(h:∃c,l.lookup y=aa c):∃c,((n,v)::l).lookup y=aa c:=by
 rw[ji];split
 .exact⟨_,rfl⟩
 .exact h
theorem wS{d:Env}{y:Str}:∀(a:List (Str×eY)) (b:List (Str×af)),(∃c,b.lookup y=aa c)->∃c,(fV d a b).lookup y=aa c
 |[],b,h=>h
 | (n,k)::r,b,h=>by
  unfold fV;split
  .exact wS r _ (AU h)
  .exact wS r _ h
theorem vE{g:Env}{y:Str}:∀(a:List (Str×eY)) (i:List (Str×af)),(∃x∈a,x.1=y/\x.2=.free)->∃c,(fV g a i).lookup y=aa c
 |[],i,⟨_,h,_⟩=>by simp at h
 | (n,k)::r,i,⟨x,b,f,d⟩=>by
  unfold fV;rcases bT.mp b with e|b
  .subst e;simp only at f d;subst f d;simp only[beq_self_eq_true,if_true];exact wS r _ ⟨_,Bv⟩
  .split
   .exact vE r _ ⟨x,b,f,d⟩
   .exact vE r _ ⟨x,b,f,d⟩
theorem xj{b:Env}:∀(a:List (Str×eY)) (g:List (Str×af)),(∀x∈a,x.2=.free->∃c,b.cells.lookup x.1=aa c) -> (forIn (m:=Sem) a g λx r=>match x with | (d,f)=>if(f == NameKind.free)=ai then do let c <-cellOf b d;pure (ForInStep.yield ((d,c)::r))else pure (ForInStep.yield r))=pure (fV b a g)
 |[],g,_=>rfl
 | (n,k)::r,g,h=>by
  have j:∀x∈r,x.2=.free->∃c,b.cells.lookup x.1=aa c:=λx o=>h x (jh _ o);rw[List.forIn_cons];unfold fV;by_cases i:(k == NameKind.free)=ai
  .obtain⟨c,l⟩:=h (n,k) (jz ..) (by simpa using i);simp only[i,if_true];have e:cellOf b n=pure c:=by unfold cellOf;rw[l]
   rw[e];simp only[pure_bind];rw[xj r _ j,l];rfl
  .simp only[i,if_false,pure_bind];exact xj r _ j
theorem KH{a:cN}{b:Env}(h:∀x∈a.names,x.2=.free->∃c,b.cells.lookup x.1=aa c):u8 a b=pure (fV b a.names []):=by unfold u8;have q:=xj a.names [] h;simp only[bind_pure_comp]at q ⊢;rw[q];rfl
theorem uI{n c:Nat}(b:n+1<=c)(a:c<n):False:=∅
theorem vL:∀(c:List (Str×eY)) (n:Nat) (a b:List (Str×af)),dZ n c (a++b)=dZ n c a++b
 |[],_,_,_=>rfl
 | (x,k)::r,n,a,b=>by
  unfold dZ;split
  .exact vL r (n+1) ((x,n)::a) b
  .exact vL r n a b
theorem tI{y:Str}{c:af}:∀(b:List (Str×eY)) (n:Nat) (a:List (Str×af)),(y,c)∈dZ n b a->(y,c)∈a\/(y,.cell)∈b
 |[],_,_,h=>.inl h
 | (x,k)::r,n,a,h=>by
  unfold dZ at h;split at h
  .rename_i d;rcases tI r _ _ h with z|z
   .rcases bT.mp z with z|z
    .cases z;have e:k=.cell:=by simpa using d
     subst e;exact .inr (jz ..)
    .exact .inl z
   .exact .inr (jh _ z)
  .rcases tI r _ _ h with z|z
   .exact .inl z
   .exact .inr (jh _ z)
theorem xI{y:Str}:∀(b:List (Str×eY)) (n:Nat) (a:List (Str×af)),(∃c,a.lookup y=aa c)->∃c,(dZ n b a).lookup y=aa c
 |[],_,_,h=>h
 | (x,k)::r,n,a,h=>by
  unfold dZ;split
  .exact xI r _ _ (AU h)
  .exact xI r _ _ h
theorem uR{y:Str}:∀(b:List (Str×eY)) (n:Nat) (a:List (Str×af)),(y,.cell)∈b->∃c,(dZ n b a).lookup y=aa c
 | (x,k)::r,n,a,h=>by
  unfold dZ;rcases bT.mp h with e|h
  .cases e;exact xI r _ _ ⟨_,Bv⟩
  .split
   .exact uR r _ _ h
   .exact uR r _ _ h
def jU(X:Cx)(a:cN)(C:af):List (Str×af):=dZ (C+1) a.names (fV X.env a.names [])
theorem wJ(X:Cx)(a:cN)(C:af):jU X a C=dZ (C+1) a.names []++fV X.env a.names []:=vL a.names (C+1) [] _
theorem HC{M:Model}{A:aJ}{E:ah->am->Prop}{s:am}{a:cN}{b:af}{j:List (Str×af)}{c:Str}{f:Env}{Q:Env->am->Prop}(l:Q (newEnv a s.heap.objs.size b (dZ (s.heap.objs.size+1) a.names j) c ae .none (aa f) l9) {s with heap:=pushCells (s.heap.push {cls:=.type "dict",data:=.dict #[]}) a.names}):aq M A (newFunctionEnv a b j [] c ae .none (aa f)) Q E s:=by
 simp only[newFunctionEnv,Option.isSome_some,if_true];refine ap (wpAny_alloc ?_);refine ap (wpAny_layCells _ (λi d h=>by cases g:d == NameKind.cell <;> simp[g]) _ _ _ _ ?_);rw[show({s with heap:=s.heap.push {cls:=.type "dict",data:=.dict #[]}}:am).heap.objs.size=s.heap.objs.size+1 from yi ..];refine ap ?_;rw[List.forIn_nil];exact aE (aE l)
theorem zQ{s:am}{a:List (Str×eY)}{y:Str}{c:af}(h:(y,c)∈dZ (s.heap.objs.size+1) a []):(pushCells (s.heap.push {cls:=.type "dict",data:=.dict #[]}) a).IsCell c ae/\s.heap.objs.size+1<=c/\∀z,(z,c)∈dZ (s.heap.objs.size+1) a []->y=z:=by have ok:=cellsFrom_ok a (s.heap.push {cls:=.type "dict",data:=.dict #[]}) (s.heap.objs.size+1) [] ⟨λ_ _ d=>(nomatch d),List.Pairwise.nil⟩ (by rw[yi];exact a8 _);rw[yi]at ok;exact⟨(ok.empty y c h).1,(ok.empty y c h).2,λz b=>name_of_addr ok.apart h b⟩
def cQ(X:Cx)(a:cN)(b:List Str)(C:af)(s₀:am)(H₀:Hp)(ex:List af)(pn:List (af×Obj)):Cx where
 prog:=X.prog
 w:=X.w
 K:=X.K
 mg:=X.mg
 base:=X.base
 A:=X.A
 N:=b
 s₀:=s₀
 H₀:=H₀
 env:=compEnvC a (jU X a C) C X.env
 outer:=X.stack
 stack:=X.stack
 ex:=ex
 fn:=λy=>a.names.lookup y == aa .cell
 calm:=X.calm
 pn:=X.pn++pn
 xe:=λ_ _=>False
def fU(b:St)(a:List Nat):St:=a.map λi=>(b[i]?).join
structure jY(X:Cx)(scope:cN)(x:Str)(N':List Str)(cap:List Nat):Prop where
 kind:scope.kind=.function
 cells:∀y∈scope.names,y.2=.cell->scope.names.lookup y.1=aa .cell
 names:∀y∈scope.names,y.2=.local->scope.names.lookup y.1=aa .local
 loc:scope.names.lookup x=aa .local\/scope.names.lookup x=aa .cell
 free:∀y∈scope.names,y.2=.free->X.env.kindOf y.1=aa .cell\/X.env.kindOf y.1=aa .free
 nd:N'.Nodup
 hd:N'.head?=aa x
 len:N'.length=cap.length+1
 caps:∀i j y,N'[i+1]?=aa y->cap[i]?=aa j->(X.N[j]?=aa y/\scope.names.lookup y=aa .free)\/(X.N.length<=j/\scope.names.lookup y=aa .local)
theorem Im{a:List (Str×eY)}{y:Str}{k:eY}(h:a.lookup y=aa k):∃x∈a,x.1=y/\x.2=k:=⟨(y,k),jD h,rfl,rfl⟩
theorem wt{a:Env}{x:Str}:∀{b:List (Str×eY)}{k:eY}, (b.map λ(n,k)=>if(k == NameKind.free&&a.scope.kind == .function&&a.kindOf n == aa .cell)then(n,NameKind.cell)else(n,k)).lookup x=aa k -> ∃f,b.lookup x=aa f/\(k=f\/(f=.free/\k=.cell))
 |[],_,h=>by simp at h
 | (n,c)::r,k,h=>by
  change yj x ((if(c == NameKind.free&&a.scope.kind == .function&&a.kindOf n == aa .cell)=ai then(n,NameKind.cell)else(n,c))::_)=_ at h;rw[ji];by_cases d:(c == NameKind.free&&a.scope.kind == .function&&a.kindOf n == aa .cell)=ai
  .rw[if_pos d,ji]at h;split at h
   .rename_i g;cases h;have:c=.free:=by simp at d;exact d.1.1
    exact⟨c,rfl,.inr ⟨this,rfl⟩⟩
   .exact wt h
  .rw[if_neg d,ji]at h;split at h
   .rename_i g;cases h;exact⟨c,rfl,.inl rfl⟩
   .exact wt h
theorem xL{a:Env}{x:Str}:∀{b:List (Str×eY)},b.lookup x=aa .free -> let q:=(b.map λ(n,k)=>if(k == NameKind.free&&a.scope.kind == .function&&a.kindOf n == aa .cell)then(n,NameKind.cell)else(n,k)).lookup x
  q=aa .cell\/q=aa .free
 |[],h=>by simp at h
 | (n,c)::r,h=>by
  show yj x ((if(c == NameKind.free&&a.scope.kind == .function&&a.kindOf n == aa .cell)=ai then(n,NameKind.cell)else(n,c))::_)=_\/yj x ((if(c == NameKind.free&&a.scope.kind == .function&&a.kindOf n == aa .cell)=ai then(n,NameKind.cell)else(n,c))::_)=_;rw[ji]at h;by_cases f:(c == NameKind.free&&a.scope.kind == .function&&a.kindOf n == aa .cell)=ai
  .rw[if_pos f,ji];cases d:x == n with
   |true=>exact .inl rfl
   |false=>rw[d]at h;exact xL h
  .rw[if_neg f,ji];cases d:x == n with
   |true=>rw[d]at h;cases h;exact .inr rfl
   |false=>rw[d]at h;exact xL h
theorem wu{a:Env}{x:Str}:∀{b:List (Str×eY)},b.lookup x=aa .cell -> (b.map λ(n,k)=>if(k == NameKind.free&&a.scope.kind == .function&&a.kindOf n == aa .cell)then(n,NameKind.cell)else(n,k)).lookup x=aa .cell
 |[],h=>by simp at h
 | (n,d)::r,h=>by
  show yj x ((if(d == NameKind.free&&a.scope.kind == .function&&a.kindOf n == aa .cell)=ai then(n,NameKind.cell)else(n,d))::_)=_;rw[ji]at h;by_cases f:(d == NameKind.free&&a.scope.kind == .function&&a.kindOf n == aa .cell)=ai
  .rw[if_pos f,ji];cases c:x == n with
   |true=>rfl
   |false=>rw[c]at h;exact wu h
  .rw[if_neg f,ji];cases c:x == n with
   |true=>rw[c]at h;cases h;rfl
   |false=>rw[c]at h;exact wu h
section
variable{X:Cx}{w:List (af×Obj)}{t:St}{H:Hp}{s:am}{f:cN}{x:Str}{A:List Str}{g:List Nat}
theorem Inv.freeHas(I:Inv X w t H s)(B:jY X f x A g):∀y∈f.names,y.2=.free->∃c,X.env.cells.lookup y.1=aa c:=λy a e=>I.ok.has y.1 (B.free y a e)
theorem Inv.clIn(I:Inv X w t H s)(B:jY X f x A g){y:Str}{c:af}(h:(fV X.env f.names []).lookup y=aa c):X.env.cells.lookup y=aa c:=by
 rcases Km f.names [] (I.freeHas B) h with q|q
 .simp at q
 .exact q
theorem Inv.cbIn(I:Inv X w t H s)(B:jY X f x A g){C:af}{y:Str}{c:af}(h:(jU X f C).lookup y=aa c):((y,c)∈dZ (C+1) f.names []/\f.names.lookup y=aa .cell)\/((fV X.env f.names []).lookup y=aa c/\X.env.cells.lookup y=aa c):=by
 rw[wJ,CW]at h;cases e:(dZ (C+1) f.names []).lookup y with
 |none=>rw[e]at h;exact .inr ⟨h,I.clIn B h⟩
 |some a=>
  rw[e]at h;cases h;have m:=jD e;rcases tI _ _ _ m with z|z
  .cases z
  .exact .inl ⟨m,B.cells _ z rfl⟩
theorem Inv.cbOld(I:Inv X w t H s)(B:jY X f x A g){C:af}{y:Str}{c:af}(h:(fV X.env f.names []).lookup y=aa c)(a:f.names.lookup y=aa .free):(jU X f C).lookup y=aa c:=by
 rw[wJ,CW];cases e:(dZ (C+1) f.names []).lookup y with
 |none=>exact h
 |some b=>
  rcases tI _ _ _ (jD e)with z|z
  .cases z
  .have:=B.cells _ z rfl;rw[a]at this;cases this
theorem Inv.block{fp:List af}{D:az}{m:Str->Option ah}{t':Nat}(hh:D=pushCells (s.heap.push {cls:=.type "dict",data:=.dict #[]}) f.names)(I:Inv X w t H s)(B:jY X f x A g)(W:∀b∈fp,jw X w H b)(Z:∀b∈fp,∃o,s.heap.get? b=aa o)(jK:D.Ns s.heap.objs.size m)(E:∀b o,s.heap.get? b=aa o->D.get? b=aa o):Inv (cQ X f A s.heap.objs.size s H fp w) [] (ae::fU t g) H {s with heap:=D,toks:=t'}:=by
 have M:∀x c,X.env.cells.lookup x=aa c->c<s.heap.objs.size:=λx c e=>(I.cell x c e).elim λv q=>q.lt;have C:∀{y:Str}{c:af},(y,c)∈dZ (s.heap.objs.size+1) f.names []->D.IsCell c ae/\s.heap.objs.size+1<=c/\∀z,(z,c)∈dZ (s.heap.objs.size+1) f.names []->y=z:=λh=>by rw[hh];exact zQ h
 have lk:∀y k,(compEnvC f (jU X f s.heap.objs.size) s.heap.objs.size X.env).kindOf y=aa k->∃N,f.names.lookup y=aa N/\(k=N\/(N=.free/\k=.cell)):=λy k h=>wt h;have G:∀y,f.names.lookup y=aa .free->∃c,(fV X.env f.names []).lookup y=aa c:=λy h=>vE f.names [] (Im h);have nfs:∀b∈dU X.stack,b≠s.heap.objs.size:=λb F e=>by
  rcases bT.mp (I.stkSub b F)with z|z
  .exact absurd I.lt (by rw[<-z,e];exact gR _)
  .exact I.nofs (ke e.symm) z
 refine⟨⟨I.ok.mod,B.kind,I.ok.glob,I.ok.blt,a8 _,λy z c h1 h2=>?_,λy O=>?_,λy c h mz=>?_,I.ok.hd,I.ok.frames,.inl rfl,λb F=>?_,λb o e=>I.bs b o e,cA I.ok.bsz I.sz,λb o e F=>?_,λb F hf=>?_,I.stack,(λb F=>I.stkFree b F),I.tab⟩,rfl,I.bare,Un.kept E,⟨m,jK,λi y v e1 Q e3=>?_⟩,λy c h=>?_,I.hok.fresh (a8 _),λy c h=>?_,λp hp=>?_,I.hok.kept E,?_⟩
 .-- inj
  rcases I.cbIn B h1 with⟨a1,a2⟩|⟨a1,a2⟩ <;> rcases I.cbIn B h2 with⟨b1,b2⟩|⟨b1,b2⟩
  .exact(C a1).2.2 z b1
  .exact(uI (C a1).2.1 (M _ _ b2)).elim
  .exact(uI (C b1).2.1 (M _ _ a2)).elim
  .exact I.ok.inj y z c a2 b2
 .-- has
  show ∃c,(jU X f s.heap.objs.size).lookup y=aa c;have kr:f.names.lookup y=aa .free->∃c,(jU X f s.heap.objs.size).lookup y=aa c:=λq=>(G y q).imp λc hc=>I.cbOld B hc q;rcases O with O|O
  .obtain⟨N,q,z|⟨z,_⟩⟩:=lk y _ O
   .subst z;exact uR _ _ _ (jD q)
   .subst z;exact kr q
  .obtain⟨N,q,z|⟨_,z⟩⟩:=lk y _ O
   .subst z;exact kr q
   .cases z
 .-- cab
  have hk:f.names.lookup y=aa .cell:=by simpa using(show(f.names.lookup y == aa .cell)=ai from h)
  show s.heap.objs.size<=c;rcases I.cbIn B mz with⟨a1,a2⟩|⟨a1,a2⟩
  .have:=(C a1).2.1;lia
  .obtain⟨c',P⟩:=uR (n:=s.heap.objs.size+1) (a:=[]) _ (jD hk);have e:(jU X f s.heap.objs.size).lookup y=aa c':=by rw[wJ,CW,P];rfl
   have Q:(jU X f s.heap.objs.size).lookup y=aa c:=mz;rw[e]at Q;cases Q;have:=(C (jD P)).2.1;lia
 .-- exf
  obtain⟨f0,f1,f2,f3,f4,f5⟩:=W b F;obtain⟨o,K⟩:=Z b F;refine⟨λe=>absurd (bE K) (by rw[e];exact gR _),λy c h=>?_⟩;rcases I.cbIn B h with⟨a1,a2⟩|⟨a1,a2⟩
  .rintro rfl;exact uI (C a1).2.1 (bE K)
  .exact f4 y c a2
 .-- noex
  obtain⟨f0,f1,f2,f3,f4,f5⟩:=W b F;rcases f3 with z|z
  .exact I.ok.noex b o e z
  .exact absurd (eu (bE e) (cA I.ok.bsz z)) (gR _)
 .-- exfs
  obtain⟨f0,f1,f2,f3,f4,f5⟩:=W b F;rcases bT.mp (I.stkSub b hf)with z|z
  .exact f1 z
  .exact f2 z
 .-- loc
  cases i with
  |zero=>simp at Q
  |succ i=>
   have J:(fU t g)[i]?=aa (aa v):=by simpa using Q
   unfold fU at J;rw[jE]at J;cases Y:g[i]? with
   |none=>rw[Y]at J;cases J
   |some j=>
    rw[Y]at J;have S:(t[j]?).join=aa v:=dw J;have e5:t[j]?=aa (aa v):=by
     cases hq:t[j]? with
     |none=>rw[hq]at S;cases S
     |some o=>rw[hq]at S;exact congrArg aa S
    obtain⟨b1,b2⟩:=(B.caps i j y e1 Y).elim id λz=>by have:=(cJ.mp e5).1;rw[I.len]at this;exact absurd this (Nat.not_lt.mpr z.1)
    obtain⟨mm,hn,hl⟩:=I.loc;have si:=B.free _ (jD b2) rfl;have T:fN X.env.scope y:=by
     rcases si with z|z
     .exact .inr (.inl z)
     .exact .inr (.inr z)
    obtain⟨u,r,l⟩:=hl j y v b1 e5 T;refine⟨u,r,.inr ⟨xL b2,?_⟩⟩;rcases l with⟨l,_⟩|⟨_,c,hc,vt⟩
    .rcases si with z|z
     .rw[l]at z;cases z
     .rw[l]at z;cases z
    .obtain⟨c',P⟩:=G y b2;have e6:=I.clIn B P;rw[hc]at e6;cases e6;obtain⟨L,K,hd⟩:=vt;exact⟨c,I.cbOld B P b2,L,E c L K,hd⟩
 .rcases I.cbIn B h with⟨a1,a2⟩|⟨a1,a2⟩
  .exact⟨ae,(C a1).1⟩
  .obtain⟨v,L,K,hd⟩:=I.cell y c a2;exact⟨v,L,E c L K,hd⟩
 .rcases I.cbIn B h with⟨a1,a2⟩|⟨a1,a2⟩
  .exact I.hok.fresh (cA (u9 _) (C a1).2.1)
  .exact I.freeC y c a2
 .have eE:p∈X.pn++w:=by simpa[cQ]using hp
  obtain⟨e,n,ne,nf,d⟩:=I.pin p eE;refine⟨E _ _ e,n,cM (bE e),λhf=>?_,d⟩;rcases bT.mp (I.stkSub p.1 hf)with z|z
  .exact ne z
  .exact nf z
 .show(ae::fU t g).length=A.length;rw[B.len];simp[fU]
end
def ul(X:Cx)(b:List aA)(t:TT):Prop :=
 ∀(d:List (af×Obj)) (s:am) (a:St) (H:Hp) (Q:Bool->Hp->Prop),Inv X d a H s->t a H Q ->
  aq (au X.prog X.w) X.A (forIn b ai λc r=>if r=ai then do let ok <-k6 c X.env (aM c X.env);pure (ForInStep.yield ok)else pure (ForInStep.yield r)) (TP X d a Q) X.xe s
theorem FP{P:aN}{w:aD}{A:aJ}{R:Result->am->Prop}{s:am}{m q i:aA}{l:List aA}{g:cN}{p:Pos}{t B:ah}{d:Env}(J:Nat->am->Prop)(n:∀k o,J k o->aq (au P w) A (pyNext t) (λr z=>match r with
   |none=>R (.ok .next) z
   |some v=>aq (au P w) A (xW q t v) (λ_ F=>aq (au P w) A (assign q d v) (λ_ E=>aq (au P w) A (forIn l ai λc r=>if r=ai then do let ok <-k6 c d (aM c d);pure (ForInStep.yield ok)else pure (ForInStep.yield r)) (λb u=>if b=ai then aq (au P w) A (aM m d) (λy D=>aq (au P w) A (call (.builtin "list.append") [B,y]) (λ_ C=>∃j,j<k/\J j C) (λ_ _=>False) D) (λ_ _=>False) u else ∃j,j<k/\J j u) (λ_ _=>False) E) (λ_ _=>False) F) (λ_ _=>False) z) (λ_ _=>False) o) (k:Nat) (h:J k s) :
  jC (au P w) A (.compLoop (.ListComp m [⟨q,i,l,0⟩] g p) 0 t B d) R s:=by
 refine codeAny_loop rfl J (λj o I=>?_) k h;show aq _ A (Sem.onRaise (compTurn (.ListComp m [⟨q,i,l,0⟩] g p) 0 t B d) (λx=>do noteFrame x d;theTreesLotGoes x)) _ _ o;refine wpAny_noted ?_;rw[compTurn_list];have no:∀(O:ah->am->Prop) (a:ah) (b:am),False->O a b:=λ_ _ _ f=>f.elim;refine ap (wpAny_standAt (ap (cW (n j o I) (λr z H=>?_) (no _))));cases r with
 |none=>exact aE H
 |some v=>
  refine ap (cW H (λ_ F N=>ap (cW N (λ_ E M=>ap (cW M (λb u G=>?_) (no _))) (no _))) (no _));cases b with
  |true=>exact ap (ap (cW G (λy D L=>ap (cW L (λ_ C K=>aE (aE ⟨rfl,K⟩)) (no _))) (no _)))
  |false=>exact aE ⟨rfl,G⟩
def Fp:TT:=λ_ H Q=>Q ai H
theorem Gy{X:Cx}:ul X [] Fp:=λ_ _ _ H _ I h=>wpAny_tests_nil ⟨H,I,h⟩
theorem Lq{X:Cx}{c:aA}{t:TT}(h:PT X c t):ul X [c] t:=λd s a H Q I b=>wpAny_tests_one (h d s a H Q I b)
def Cs(q:TI)(h:V->Hp->St->Prop)(k:Nat)(r:TT)(s:TE)(d:List Nat):TE:=λg H Q=>q g H λJ p=>∀l,p l=ae->∃W:Nat->Nat->List V->Hp->Prop,(∃m,W 0 m [] (upd p l (.lst [])))/\∀i m a H,W i m a H ->
 (J.stop i H/\Q (.ref l) H)\/(J.go i H/\∀v j,J.yld i H v j->∃f,f.length=k+1/\h v j f/\r (f++(fU g d).drop k) j λb o=>if b=ai then s (f++(fU g d).drop k) o λy n=>n l=aa (.lst a)/\a.length<a_/\∃c,c<m/\W (i+1) c (a++[y]) (upd n l (.lst (a++[y]))) else ∃c,c<m/\W (i+1) c a o)
def Cv:V->Hp->St->Prop:=λv _ a=>a=[aa v]
abbrev Co(b:TI)(c:TT)(d:TE)(a:List Nat):TE:=Cs b Cv 0 c d a
section
variable{X:Cx}{m:List (af×Obj)}{t:St}{H:Hp}{s:am}{g:cN}{x:Str}{j:List Str}{l:List Nat}
theorem Inv.unblock{r:List af}{p:Hp}{w:St}{s':am}{h:az}(I:Inv X m t H s)(D:∀b∈r,jw X m H b)(a:Inv (cQ X g j s.heap.objs.size s H r m) [] w p s') (sb:jA s.heap.objs.size s'.heap h):Inv X m t p {s' with heap:=h}:=by
 have k:∀b o,b≠s.heap.objs.size->s'.heap.get? b=aa o->h.get? b=aa o:=λb o f e=>(sb.2 b f).trans e;have y:∀b o,s.heap.get? b=aa o->b≠s.heap.objs.size:=λb o e=>cM (bE e);have un:Un (dU X.stack) r H p s.heap h:=by
  refine⟨λb o e n f d=>k b o (y b o e) (a.base.keep b o e n f d),λb o e n f d=>?_,λb o e n d=>a.base.free b o e n d,λb o e d=>?_,a.base.tups,a.base.frzs,a.base.tbls⟩
  .obtain⟨C,q⟩:=a.base.slot b o e n f d;exact⟨C,k b _ (y b o e) q⟩
  .obtain⟨B,q⟩:=a.base.there b o e d;exact⟨B,k b B (y b o e) q⟩
 have A:cP X.prog X.w p h:=λb u e=>by
  have i:p s.heap.objs.size=ae:=a.free;refine(a.hok b u e).stay (λc v E q=>k c v ?_ q) (λ_ q=>q) λ_ _ q=>q;rintro rfl;rcases E with z|z
  .rw[<-z,i]at e;cases e
  .rw[i]at z;cases z
 refine I.call' (s':={s' with heap:=h}) (ch:=r) a.os un A a.bare λb f=>?_;obtain⟨J,G,f2,f3,f4,F⟩:=D b f;exact⟨f3,G,f4,F⟩
theorem JQ{elt F tg:aA}{pos pos':Pos}{ifs:List aA}{wi:TI}{tgf:V->Hp->St->Prop}{k:Nat}{ts:TT}{te:TE}{use:Option (ah->Sem Unit)}{Q:ah->am->Prop}{Qp:VK}(B:jY X g x j l)(hk:k<=l.length)(hc:X.calm=ai)(hi:PI X tg F wi)(cF:∀C E G ex pn,PG (cQ X g j C E G ex pn) tg λv N H Q=>∃S,S.length=k+1/\N.length=j.length/\tgf v H S/\Q (S++N.drop (k+1)) H)(ht:∀C E G ex pn,ul (cQ X g j C E G ex pn) ifs ts) (he:∀C E G ex pn,PE (cQ X g j C E G ex pn) elt te) (hs:∀x,uU F X.env x=pure x) (I:Inv X m t H s) (h:Cs wi tgf k ts te l t H Qp)(fin:∀{w s6:am}{O H5:Hp}{K σ5 a f},Inv X m t O w->(∀b∈K,jw X m O b)->Inv (cQ X g j w.heap.objs.size w O K m) [] σ5 H5 s6->Qp (.ref a) H5->compPost (au X.prog X.w) X.A X.xe use Q (.ref a) w.heap.objs.size (.ok f) s6):aq (au X.prog X.w) X.A (comprehension (.ListComp elt [⟨tg,F,ifs,0⟩] g pos) g X.env pos' (newList []) aj (aM F X.env) use) Q X.xe s:=by
 refine wpAny_comprehension_free (use:=use) rfl hs (KH (I.freeHas B)) B.kind B.names (aQ (hi m s t H _ I h) λv s1 h1=>aQ h1 λitv D h2=>?_);obtain⟨it,K,tn,J,H2,e,I2,T,aS,f2,h2⟩:=h2;subst e;refine lh ?_;have I3:Inv X m t (upd H2 D.heap.objs.size (.lst [])) {D with heap:=D.heap.push {cls:=.type "list",data:=.seq ([]:List ah).toArray},toks:=D.toks}:=I2.lnew (its:=[]) (t':=D.toks) .nil (li _);obtain⟨W,⟨m0,w0⟩,turn⟩:=h2 D.heap.objs.size I2.fresh;generalize mC:({D with heap:=D.heap.push {cls:=.type "list",data:=.seq ([]:List ah).toArray},toks:=D.toks}:am)=w at I3;have hs3':({D with heap:=D.heap.push {cls:=.type "list",data:=.seq ([]:List ah).toArray}}:am)=w:=mC;generalize hH3:upd H2 D.heap.objs.size (.lst [])=O at I3 w0;have nl:∀b∈K,b≠D.heap.objs.size:=λb A e=>by obtain⟨o,ho,_⟩:=T.obj _ _ aS b A;exact absurd (bE ho) (by rw[e];exact gR _)
 have k3:∀b o,D.heap.get? b=aa o->w.heap.get? b=aa o:=λb o e=>by rw[<-mC];exact bd _ e
 have f3:∀b∈K,jw X m O b:=λb A=>⟨by rw[<-hH3,bM (nl b A)];exact(f2 b A).1,(f2 b A).2⟩
 have bg:tn 0 w.heap:=T.keep _ _ _ aS λb _ o e=>k3 b o e;have fo3:∀b∈K,∃o,w.heap.get? b=aa o:=λb A=>(T.obj _ _ bg b A).imp λo q=>q.1;refine HC ?_;generalize hh:pushCells (w.heap.push {cls:=.type "dict",data:=.dict #[]}) g.names=h₁;have old:∀b o,w.heap.get? b=aa o->h₁.get? b=aa o:=λb o e=>hh ▸ pushCells_keeps _ _ b o (bd _ e);have jK:h₁.Ns w.heap.objs.size (λ_=>ae):=hh ▸ (Heap.Ns.new w.heap (.type "dict")).keeps (pushCells_keeps _ _);have I4:=Inv.block (t':=w.toks) hh.symm I3 B f3 fo3 jK old;have bB:tn 0 h₁:=T.keep _ _ _ bg λb _ o e=>old b o e;have L:∀{H':Hp},(∀b∈K,H' b=ae)->∀b∈K,jw (cQ X g j w.heap.objs.size w O K m) [] H' b:=λhn b A=>by
  obtain⟨f0,f1,f2',f3',f4,f5⟩:=f3 b A;refine⟨hn b A,λe=>?_,λhf=>?_,.inl A,λy c h=>?_,λp hp=>f5 p (by simpa[cQ]using hp)⟩
  .obtain⟨o,ho⟩:=fo3 b A;exact absurd (bE ho) (by rw[show b=w.heap.objs.size from e];exact gR _)
  .rcases bT.mp (I3.stkSub b hf)with z|z
   .exact f1 z
   .exact f2' z
  .rcases I3.cbIn B h with⟨a1,a2⟩|⟨a1,a2⟩
   .rintro rfl;obtain⟨o,ho⟩:=fo3 _ A;exact uI (zQ a1).2.1 (bE ho)
   .exact f4 y c a2
 have Y:jC (au X.prog X.w) X.A (.compLoop (.ListComp elt [⟨tg,F,ifs,0⟩] g pos) 0 (.ref it) (.ref D.heap.objs.size) (compEnvC g (jU X g w.heap.objs.size) w.heap.objs.size X.env))
   (compPost (au X.prog X.w) X.A X.xe use Q (.ref D.heap.objs.size) w.heap.objs.size) {w with heap:=h₁,toks:=w.toks}:=by
  refine FP (λn s'=>∃i P N H',(∃pre:St,pre.length=k+1/\N=pre++(fU t l).drop k)/\Inv (cQ X g j w.heap.objs.size w O K m) [] N H' s'/\tn i s'.heap/\(∀b∈K,H' b=ae)/\W i n P H') ?_ m0
   ⟨0,[],_,O,⟨(ae::fU t l).take (k+1),by simp[fU];lia,by rw[<-List.drop_succ_cons (a:=ae)];exact(rT _ _).symm⟩,I4,bB,λb A=>(f3 b A).1,w0⟩
  rintro n s5 ⟨i,P,σ5,H5,⟨pre,sq,rfl⟩,I5,bL,fr5,w5⟩;rcases turn i n P H5 w5 with⟨stop,q⟩|⟨go,step⟩
  .refine cW (T.done (cQ X g j w.heap.objs.size w O K m) rfl rfl rfl hc i [] s5 _ H5 (λ_ _=>False) I5 (L fr5) bL stop) (λr s6 ⟨hr,I6⟩=>?_) (λ_ _ f=>f.elim);subst hr;exact fin I3 f3 I6 q
  .refine cW (T.item (cQ X g j w.heap.objs.size w O K m) rfl rfl rfl hc i [] s5 _ H5 (λ_ _=>False) I5 (L fr5) bL go) (λr s6 ⟨u,hr,h6⟩=>?_) (λ_ _ f=>f.elim);subst hr;refine cW h6 (λ_ s7 ⟨v,H7,I7,r7,y7,Z,fr7⟩=>?_) (λ_ _ f=>f.elim);have I7':=I7.pinned (L fr7) (T.obj _ _ Z);have back:∀{M:St}{H8:Hp}{s8:am},Inv (cQ X g j w.heap.objs.size w O K m) ([]++qY K s7.heap) M H8 s8->tn (i+1) s8.heap/\(∀b∈K,H8 b=ae):=λ{M H8 s8} I8=>⟨T.keep _ _ _ Z λb A o e=>(I8.pin (b,o) (ka _ (ka _ (uy A e)))).1,λb A=>by obtain⟨o,e,d⟩:=T.obj _ _ Z b A;exact(I8.pin (b,o) (ka _ (ka _ (uy A e)))).2.1⟩
   obtain⟨S,io,htg,step⟩:=step v H7 y7;refine aQ (cF _ _ _ _ _ _ s7 _ H7 v u (λM H8=>M=S++(fU t l).drop k/\H8=H7) I7' r7 ⟨S,io,I7'.len,htg,by rw[List.drop_append_of_le_length ∅,List.drop_eq_nil_of_le ∅];rfl,rfl⟩) λ_ s8 ⟨M,H8,I8,e8,e8'⟩=>?_;subst e8 e8';refine aQ (ht _ _ _ _ _ _ s8 _ _ _ I8 step) λb s9 ⟨H9,I9,q9⟩=>?_;cases b with
   |false=>
    obtain⟨m',hm,w9⟩:=(show ∃m',m'<n/\W (i+1) m' P H9 from q9)
    exact⟨m',hm,i+1,P,_,H9,⟨S,io,rfl⟩,I9.unpinned,(back I9).1,(back I9).2,w9⟩
   |true=>refine aQ (he _ _ _ _ _ _ s9 _ H9 _ I9 q9) λu10 s10 ⟨y,H10,I10,r10,hl10,hz10,m',hm,w10⟩=>?_;refine aQ (AX _ s10 _ H10 (.ref D.heap.objs.size) [y] _ [u10] (λz H11=>H11=upd H10 D.heap.objs.size (.lst (P++[y]))) I10 rfl (.cons r10 .nil) ⟨_,P,y,rfl,rfl,hl10,hz10,rfl⟩) λ_ s11 ⟨_,H11,I11,_,e11⟩=>?_;subst e11;exact⟨m',hm,i+1,P++[y],_,_,⟨S,io,rfl⟩,I11.unpinned,(back I11).1,(back I11).2,w10⟩
 exact codeAny_compStart_list Y (T.self _ 0 _ _ _ bB Y)
theorem En{w:Pos}(B:jY X g x j l):∀C b c i f,PG (cQ X g j C b c i f) (.Name x w) λv d H Q=>∃n,n.length=0+1/\d.length=j.length/\Cv v H n/\Q (n++d.drop (0+1)) H:=by
 intro C b c i f m s d H v u Q I r h;obtain⟨n,_,z,y,q⟩:=h;cases (show n=[aa v] from y);have A:Loc (cQ X g j C b c i f).env.scope x:=B.loc.elim (λh=>.inl (lookup_relabel_local h)) (λh=>.inr (wu h));have o:(cQ X g j C b c i f).fn x=ai\/(cQ X g j C b c i f).env.scope.names.lookup x=aa .local:=B.loc.elim (λh=>.inr (lookup_relabel_local h)) (λh=>.inl (by show(g.names.lookup x == aa .cell)=ai;rw[h];rfl));have p:(cQ X g j C b c i f).N[0]?=aa x:=by show j[0]?=aa x;rw[<-List.head?_eq_getElem?];exact B.hd
 refine Cz B.nd p A o m s d H v u Q I r ?_;show Q (d.set 0 (aa v)) H;cases d with
 |nil=>rw[nQ,B.len]at z;lia
 |cons a r=>exact q
theorem Hj{f b:aA}{p pos:Pos}{d:List aA}{wi:TI}{ts:TT}{te:TE}(B:jY X g x j l)(A:X.calm=ai)(y:PI X (.Name x p) b wi)(v:∀C a c o i,ul (cQ X g j C a c o i) d ts) (z:∀C a c o i,PE (cQ X g j C a c o i) f te) (w:∀x,uU b X.env x=pure x:=by intro _;rfl):PE X (.ListComp f [⟨.Name x p,b,d,0⟩] g pos) (Co wi ts te l):=by intro m s t H Q I h;rw[eval_ListComp];exact JQ (use:=ae) B (li _) A y (En B) v z w I h λD f3 r q=>by obtain⟨u,n,_⟩:=r.loc;exact⟨u,n,λE sb=>⟨.ref _,_,D.unblock f3 r sb,rfl,q⟩⟩
end
def Walk(J:It)(xs:List V)(R:Hp->Prop):Prop :=
 ∀H,R H->∀i,(∀x,xs[i]?=aa x->J.go i H/\∀y a,J.yld i H y a->a=H/\y=x)/\(i=xs.length->J.stop i H)
theorem Ie{K:aw}{a:af}{xs:List V}:Walk (vS K a) xs (λH=>b7 K H a xs):=λH h i=>⟨λx b=>⟨⟨xs,x,h,b⟩,λy d z=>⟨z.1,by have:=z.2 xs h;rw[b]at this;exact(dw this).symm⟩⟩,λc=>⟨xs,h,ke c.symm⟩⟩
theorem Ee{K:aw}{a:af}{xs:List V}:Walk (wU K a) xs (λH=>b_ K H a xs):=λH h i=>⟨λx b=>⟨⟨xs,x,h,b⟩,λy d z=>⟨z.1,by have:=z.2 xs h;rw[b]at this;exact(dw this).symm⟩⟩,λc=>⟨xs,h,ke c.symm⟩⟩
def oU(a:Int)(n:Nat):List V:=(cz n).map λi=>V.int (a+(i:Nat))
theorem v5(a:Int)(n:Nat):(oU a n).length=n:=by simp[oU]
theorem GD{b:Int}{n:Nat}:Walk (uh b n) (oU b n) (λ_=>True):=λH _ i=>by
 refine⟨λx a=>?_,λc=>by rw[v5]at c;exact ke c.symm⟩;have d:i<n:=by have:=(cJ.mp a).1;rw[v5]at this;exact this
 refine⟨d,λy g z=>⟨z.1,?_⟩⟩;unfold oU at a;rw[jE,CY d]at a;have f:V.int (b+(i:Nat))=x:=dw a;rw[z.2,<-f]
def sg(c:Nat):V:=.str ⟨#[c]⟩
def rq(z:Str):It:=⟨λi _=>i<z.cps.size,λi H x a=>a=H/\∃c,z.cps[i]?=aa c/\x=sg c,λi _=>i=z.cps.size⟩
theorem IP{z:Str}:Walk (rq z) (z.cps.toList.map sg) (λ_=>True):=λH _ i=>by
 refine⟨λx a=>?_,λd=>by show i=z.cps.size;simpa using d⟩;rw[jE]at a;cases e:z.cps.toList[i]? with
 |none=>rw[e]at a;cases a
 |some c=>
  rw[e]at a;have f:i<z.cps.size:=by have:=(cJ.mp e).1;simpa using this
  refine⟨f,λy h w=>⟨w.1,?_⟩⟩;obtain⟨g,b,rfl⟩:=w.2;have:z.cps[i]?=aa c:=by simpa using e
  rw[this]at b;cases b;exact(dw a)
section
variable{X:Cx}{a:aA}
theorem JO{P:aN}{w:aD}{K:aw}{z:Str}{d:af}{f:Nat->az->Prop} (O:∀i h,f i h->∃o n r,h.get? d=aa o/\o.cls=.type n/\o.data=.fields r /\ ["enumerate","zip","dict_itemiterator","dict_reverseitemiterator","odict_iterator","itertools.zip_longest","itertools.pairwise"].contains n=aj)(LQ:∀(A:aJ) (i:Nat) (s:am) (Q:ah->am->Prop) (E:ah->am->Prop),f i s.heap->Q (.ref d) s->aq (au P w) A (k_ (.ref d)) Q E s)(B:∀A:aJ,A.handled=ae->Walks P w A d [d] [d] z.cps.size (SignAt z) f):oR P w K a (rq z) [d] d f where
 mem:=by simp
 obj:=λi h g b j=>by
  have e:b=d:=by simpa using j
  subst e;obtain⟨o,n,r,G,_,F,_⟩:=O i h g;exact⟨o,G,λv q=>by rw[F]at q;cases q⟩
 keep:=λi h m g k=>by exact(B ({}:aJ) rfl).frame i h m g k
 item:=by intro X C t D y i T s N H E I p g x;subst C t D;obtain⟨M,L,f2,f3,f4,J⟩:=p d (by simp);refine(B X.A (I.ok.hd y)).item i s _ _ x g λv m l Y S k=>?_;have I1:Inv X T N H {s with heap:=m,toks:=l}:=I.turned (t':=l) (λb o j e=>k b o (by simpa using j) e) M L f3 f4 J;obtain⟨o,n,r,G,h2,F,Z⟩:=O _ _ S;obtain⟨c,u,e1,rfl⟩:=Y;exact⟨_,rfl,qi (s:={s with heap:=m,toks:=l}) G h2 F Z ⟨sg c,H,I1,⟨u,rfl⟩,⟨rfl,c,e1,rfl⟩,S,λb j=>(p b j).1⟩⟩
 done:=by intro X C t D y i T s N H E I p g x;subst C t D;obtain⟨M,L,f2,f3,f4,J⟩:=p d (by simp);have W:i=z.cps.size:=x;subst W;exact(B X.A (I.ok.hd y)).done s _ _ g λm l k=>⟨rfl,I.turned (t':=l) (λb o j e=>k b o (by simpa using j) e) M L f3 f4 J⟩
 self:=LQ
theorem Jk{J:It}{xs:List V}{R:Hp->Prop}{g:TG}{l:TS}{D:j4}{b:St}{H:Hp}(A:Walk J xs R)(c:Nat->St->Hp->Prop)(B:c 0 b H)(v:∀i b H,i<=xs.length->c i b H->R H)(u:∀i x b H,xs[i]?=aa x->c i b H->g x b H λf j=>l {D with nx:=c (i+1),ct:=c (i+1),bk:=D.nx} f j) (z:∀b H,c xs.length b H->D.nx b H):∃W:Nat->Nat->St->Hp->Prop,(∃m,W 0 m b H)/\∀i m b H,W i m b H -> (J.stop i H/\D.nx b H)\/(J.go i H/\∃N:St->Hp->Prop,(∀h d,N h d->∃n,n<m/\W (i+1) n h d)/\∀x d,J.yld i H x d->g x b d λf j=>l {D with nx:=N,ct:=N,bk:=D.nx} f j):=by
 refine⟨λi m b H=>m=xs.length-i/\i<=xs.length/\c i b H,⟨xs.length,by simp,li _,B⟩,?_⟩;rintro i m b H ⟨rfl,w,p⟩;have q:=A H (v i b H w p) i;by_cases r:i<xs.length
 .have o:xs[i]?=aa xs[i]:=by simp[r]
  obtain⟨C,s⟩:=q.1 xs[i] o;refine .inr ⟨C,c (i+1),λh d t=>⟨xs.length-(i+1),∅,rfl,r,t⟩,λx d y=>?_⟩;obtain⟨rfl,rfl⟩:=s x d y;exact u i _ b _ o p
 .have e:i=xs.length:=∅
  subst e;exact .inl ⟨q.2 rfl,z b H p⟩
theorem K3{b:Type}(l:List b)(f:b->Bool)(d:Nat->Bool)(c:∀i x,l[i]?=aa x->d i=f x):(cz l.length).all d=l.all f:=by
 induction l generalizing d with
 |nil=>rfl
 |cons x r g=>rw[gf,yk,ml,u_,ml,c 0 x rfl];congr 1;exact g _ λi y h=>c (i+1) y (by simpa using h)
theorem Lf{bs:List Bool}{b:List ah}(r:bq (bs.map V.bl) b){i:Nat}{v:ah}(h:b.toArray[i]?=aa v):v=.bool (bs.getD i aj):=by
 have d:=r.length;rw[fG]at d;have g:i<b.length:=by have:=(nR.mp h).1;simpa using this
 have e:(bs.map V.bl)[i]?=aa (.bl (bs.getD i aj)):=by rw[jE,dR ∅];simp[List.getD,dR (show i<bs.length by lia)]
 obtain⟨u,c,f⟩:=r.get e;have:b[i]?=aa v:=by simpa using h
 rw[this]at c;cases c;exact f
theorem yV{A:aJ}(h:A.handled=ae):A.in1.handled=ae:=h
theorem xD(j:X.calm=ai):d8 X (.builtin "all") (λxs H Q=>∃(p:af) (bs:List Bool),xs=[.ref p]/\b7 X.K H p (bs.map V.bl)/\Q (.bl (bs.all id)) H):=by
 intro L s n H xs N Q I r h;obtain⟨p,bs,rfl,D,q⟩:=h;obtain⟨u,rfl,w⟩:=vals1 r;cases w;obtain⟨d,l,f,P⟩:=I.list D;have m:=l.length;rw[fG]at m;refine call_all_walk (CZ f.isList ?_);have K:p≠s.heap.objs.size:=by obtain⟨o,g,_⟩:=f.isList;exact cM (bE g)
 refine⟨s.heap.objs.size,_,_,_,_,_,λi=>bs.getD i aj,rfl,Walks.list (yV (I.ok.hd j)) s.heap.objs.size p K d.toArray,⟨⟨_,cu _ rfl,rfl,rfl⟩,?_⟩,λi v O T W C J=>?_,λS t k=>?_⟩
 .obtain⟨o,g,j,F⟩:=f.isList;exact⟨o,bd _ g,j,F⟩
 .rw[Lf l C];exact k7 J
 .have e:(cz d.toArray.size).all (λi=>bs.getD i aj)=bs.all id:=by
   rw[bY,<-m];exact K3 bs id _ λi x B=>by simp[List.getD,B]
  rw[e];have M:Inv X L n H {s with heap:=s.heap.push {cls:=.type "list_iterator",data:=.fields #[.ref p,.int 0 0]},toks:=s.toks}:=I.kept (t':=s.toks) λb o e=>bd _ e;exact⟨.bl _,H,Inv.turned (t':=t) M (it:=s.heap.objs.size) (λb o G e=>k b o (by simpa using G) e) I.fresh (ma I.lt) (.inr I.sz) (λx c e z=>by obtain⟨v,y⟩:=I.cell x c e;exact absurd y.lt (by rw[z];exact gR _)) (λA E z=>absurd (bE (I.pin A E).1) (by rw[z];exact gR _)),rfl,q⟩
end
section
variable{X:Cx}
def jW(z:Str)(a b:Option Int):Str:=⟨((z.cps.toList.drop (HT.sIx z.length 0 a)).take (HT.sIx z.length z.length b-HT.sIx z.length 0 a)).toArray⟩
theorem Ji(a b:Nat):sliceRange (a:Int) (b:Int) 1=(cz (b-a)).map λk=>a+k:=by
 unfold sliceRange;have e:(if(1:Int) > 0 then(if(a:Int)<(b:Int)then((b:Int)-a+1-1) / 1 else 0)else(if(a:Int) > b then((a:Int)-b-1-1) / (-1)else 0)).toNat=b-a:=by
  rw[if_pos (by decide)];split
  .rw[Int.ediv_one];lia
  .have:b-a=0:=∅
   rw[this];rfl
 show(cz (if(1:Int) > 0 then(if(a:Int)<(b:Int)then((b:Int)-a+1-1) / 1 else 0)else(if(a:Int) > b then((a:Int)-b-1-1) / (-1)else 0)).toNat).map _=_;rw[e];refine ym λk _=>?_;lia
theorem EL(a b:Option Int)(n:Nat):Builtin.Str.strSliceIndices a b 1 n=(cz (HT.sIx n n b-HT.sIx n 0 a)).map λk=>HT.sIx n 0 a+k:=by
 rw[<-Ji];have p:(1:Int) > 0:=by decide
 cases a <;> cases b <;> (unfold Builtin.Str.strSliceIndices HT.sIx;simp only[p,if_true];congr 1 <;> (try split) <;> lia)
theorem F8{b:Type}(l:List b)(a k:Nat):((cz k).map λj=>a+j).filterMap (λi=>l[i]?)=(l.drop a).take k:=by
 induction k with
 |zero=>simp
 |succ k c=>
  rw[rV,yn,List.filterMap_append,c,List.take_succ];congr 1;simp[rH];cases l[a+k]? <;> rfl
theorem FX(z:Str)(t:Tok)(l u:Option (Int×Tok)):∃m,sliceMade z t l u ae=m/\(m=.val (.str z t)/\jW z (l.map (·.1)) (u.map (·.1))=z\/m=.str (jW z (l.map (·.1)) (u.map (·.1)))):=by
 refine⟨_,rfl,?_⟩;unfold sliceMade slicePicked;have e:=EL (l.map (·.1)) (u.map (·.1)) z.length;simp only[Option.map_none,CQ];rw[e];have d:=F8 z.cps.toList (HT.sIx z.length 0 (l.map (·.1))) (HT.sIx z.length z.length (u.map (·.1))-HT.sIx z.length 0 (l.map (·.1)));have b:(((cz (HT.sIx z.length z.length (u.map (·.1))-HT.sIx z.length 0 (l.map (·.1)))).map λk=>HT.sIx z.length 0 (l.map (·.1))+k).filterMap (z.cps[·]?)).toArray=(jW z (l.map (·.1)) (u.map (·.1))).cps:=by unfold jW;rw[<-d];simp
 split
 .rename_i h;left;refine⟨rfl,?_⟩;simp only[beq_self_eq_true,yo,fG,C0,beq_iff_eq]at h;have g:HT.sIx z.length z.length (u.map (·.1))<=z.length:=HT.sIx_le _ _ (a8 _) _;have f:z.cps.toList.length=z.length:=by simp[mh]
  have a:HT.sIx z.length 0 (l.map (·.1))=0\/z.length=0:=∅
  unfold jW;rw[h];rcases a with a|a
  .rw[a,List.drop_zero,nU ∅]
  .have:z.cps.toList=[]:=nV ∅;rw[this];cases z;rename_i c;simp at this;subst this;simp
 .right;rw[show(⟨(((cz (HT.sIx z.length z.length (u.map (·.1))-HT.sIx z.length 0 (l.map (·.1)))).map λk=>HT.sIx z.length 0 (l.map (·.1))+k).filterMap (z.cps[·]?)).toArray⟩:Str)=jW z (l.map (·.1)) (u.map (·.1))from by rw[b]]
def AL:V->Option Int->Option Int->Hp->VK->Prop:=λx a b H Q=>∃z,x=.str z/\z.length<=a_/\Q (.str (jW z a b)) H
theorem Ky(z:Str)(a b:Option Int):(jW z a b).length<=z.length:=by unfold jW mh;simp;lia
theorem part_of{v:ah}{o:Option Int}(p:lg v o):∃q:Option (Int×Tok),v=partValue q/\q.map (·.1)=o:=by
 cases p with
 |none=>exact⟨ae,rfl,rfl⟩
 |int i t=>exact⟨aa (i,t),rfl,rfl⟩
theorem L5:kK X AL:=by
 intro y s n H x v p o r w a Q I b g d c h;obtain⟨z,rfl,f,q⟩:=h;obtain⟨t,rfl⟩:=b;obtain⟨l,rfl,rfl⟩:=part_of d;obtain⟨u,rfl,rfl⟩:=part_of c;refine⟨"str",_,F.slot_str_getitem.lookup,typeIs_str s z t,?_⟩;obtain⟨m,j,i⟩:=FX z t l u;refine getItem_meets (typeIs_str s z t) (by decide) F.slot_str_getitem F.entry_str_getitem (F.args_str_getitem_2 _ _) (meets_str_getitem_slice z t a l u ae (by decide)) ⟨g,?_⟩;rw[j];rcases i with⟨rfl,e⟩|rfl
 .exact⟨.str z,H,I,⟨t,rfl⟩,by rw[e]at q;exact q⟩
 .exact⟨cA (Ky z _ _) f,⟨.str _,H,I.tok _,⟨_,rfl⟩,q⟩⟩
def gz(K:aw)(H:Hp)(d:Nat)(x y:V)(k:Bool):Prop :=
 ∀(X:Cx),X.K=K->∀(b:List (af×Obj)) (a:St) (s:am) (u v:ah) (A:aJ),Inv X b a H s->RelV x u->RelV y v->A.units+d<cLine->rQ A s u v k
theorem ET{K:aw}{H:Hp}{d:Nat}{x y:V}(f:dr x=ai)(c:dr y=ai):gz K H d x y (cb x y):=λ_ _ _ _ _ _ _ _ _ b a _=>Ah b a f c
def eK(e:Nat->Bool)(n m:Nat):Bool:=(cz (min n m)).all e&&n == m
theorem Ct{A:aJ}:A.in1.units=A.units+1:=rfl
theorem wy{H:Hp}{d:Nat}{a b:af}{xs c:List V}{e:Nat->Bool}{D:List (af×Obj)}{o:St}{s:am}{A:aJ}(I:Inv X D o H s)(L:b7 X.K H a xs)(K:b7 X.K H b c)(J:∀(j:Nat) x y,xs[j]?=aa x->c[j]?=aa y->gz X.K H d x y (e j)) (Q:A.units+(d+1)<cLine):SeqAt.RcAt A s (.ref a) (.ref b) (eK e xs.length c.length)/\SeqAt.RcNeAt A s (.ref a) (.ref b) (!eK e xs.length c.length):=by
 obtain⟨g,q,n,_⟩:=I.list L;obtain⟨i,p,f,_⟩:=I.list K;have G:=q.length;have P:=p.length;have w:∀j (B:j<g.toArray.size) (z:j<i.toArray.size),rQ A.in1 s g.toArray[j] i.toArray[j] (e j):=λj B z=>by
  have O:j<g.length:=by simpa using B
  have N:j<i.length:=by simpa using z
  have l:xs[j]?=aa xs[j]:=dR ∅;have C:c[j]?=aa c[j]:=dR ∅;obtain⟨u,t,F⟩:=q.get l;obtain⟨v,r,E⟩:=p.get C;have M:g[j]=u:=by rw[dR O]at t;exact dw t
  have f2:i[j]=v:=by rw[dR N]at r;exact dw r
  have:=J j xs[j] c[j] l C X rfl D o s u v A.in1 I F E (by rw[Ct];lia);simpa[M,f2]using this
 by_cases h:xs.length=c.length
 .have m:g.toArray.size=i.toArray.size:=by simp;lia
  have l:eK e xs.length c.length=(cz g.toArray.size).all e:=by unfold eK;rw[h,Nat.min_self,beq_self_eq_true,Bool.and_true,bY,<-G,h]
  rw[l];exact⟨.lists n.isList f.isList m ∅ w,.lists n.isList f.isList m ∅ w⟩
 .have l:eK e xs.length c.length=aj:=by
   unfold eK;rw[beq_false_of_ne h,Bool.and_false]
  have m:(g.toArray.size != i.toArray.size)=ai:=by simp;lia
  rw[l];exact⟨.lists_lengths n.isList f.isList m ∅,.lists_lengths n.isList f.isList m ∅⟩
theorem xM{H:Hp}{d:Nat}{a b:af}{xs c:List V}{e:Nat->Bool}{B:List (af×Obj)}{l:St}{s:am}{A:aJ}(I:Inv X B l H s)(K:b_ X.K H a xs)(J:b_ X.K H b c)(G:∀(j:Nat) x y,xs[j]?=aa x->c[j]?=aa y->gz X.K H d x y (e j)) (O:A.units+(d+1)<cLine):SeqAt.RcAt A s (.ref a) (.ref b) (eK e xs.length c.length)/\SeqAt.RcNeAt A s (.ref a) (.ref b) (!eK e xs.length c.length):=by
 obtain⟨g,n,q,_⟩:=I.tuple K;obtain⟨f,m,h,_⟩:=I.tuple J;have E:=n.length;have F:=m.length;have r:∀j (w:j<g.toArray.size) (t:j<f.toArray.size),rQ A.in1 s g.toArray[j] f.toArray[j] (e j):=λj w t=>by
  have N:j<g.length:=by simpa using w
  have M:j<f.length:=by simpa using t
  have i:xs[j]?=aa xs[j]:=dR ∅;have z:c[j]?=aa c[j]:=dR ∅;obtain⟨u,p,D⟩:=n.get i;obtain⟨v,o,C⟩:=m.get z;have L:g[j]=u:=by rw[dR N]at p;exact dw p
  have f2:f[j]=v:=by rw[dR M]at o;exact dw o
  have:=G j xs[j] c[j] i z X rfl B l s u v A.in1 I D C (by rw[Ct];lia);simpa[L,f2]using this
 have i:eK e xs.length c.length=((cz (min g.toArray.size f.toArray.size)).all e&&g.toArray.size == f.toArray.size):=by unfold eK;rw[bY,bY,<-E,<-F]
 rw[i];exact⟨.tuples q h ∅ r,.tuples q h ∅ r⟩
theorem DV{K:aw}{H:Hp}{d:Nat}{a b:af}{xs c:List V}{e:Nat->Bool}(m:b7 K H a xs)(l:b7 K H b c)(o:a≠b)(i:∀(j:Nat) x y,xs[j]?=aa x->c[j]?=aa y->gz K H d x y (e j)):gz K H (d+1) (.ref a) (.ref b) (eK e xs.length c.length):=λX n q p s u v A I g f h=>by
 subst n;cases g;cases f;exact .of_refs o (wy I m l i h).1
theorem Fw{K:aw}{H:Hp}{d:Nat}{a b:af}{xs c:List V}{e:Nat->Bool}(m:b_ K H a xs)(l:b_ K H b c)(o:a≠b)(i:∀(j:Nat) x y,xs[j]?=aa x->c[j]?=aa y->gz K H d x y (e j)):gz K H (d+1) (.ref a) (.ref b) (eK e xs.length c.length):=λX n q p s u v A I g f h=>by
 subst n;cases g;cases f;exact .of_refs o (xM I m l i h).1
theorem zh{K:aw}{H:Hp}{d:Nat}{a:af}:gz K H d (.ref a) (.ref a) ai:=λX h i f s u v A I c b g=>by
 cases c;cases b;exact .same _
def qA(K:aw)(f:Bool):R2:=λx y H Q=>∃a b xs c d e,x=.ref a/\y=.ref b/\((b7 K H a xs/\b7 K H b c)\/(b_ K H a xs/\b_ K H b c))/\d<=8 /\
 (∀(j:Nat) x y,xs[j]?=aa x->c[j]?=aa y->gz K H d x y (e j))/\Q (.bl (if f then !eK e xs.length c.length else eK e xs.length c.length)) H
theorem Ea(m:X.A.units+64<cLine):bF X (c9 .Eq) (qA X.K aj):=by
 intro o s j H x y v u Q I g f h;obtain⟨a,b,xs,l,d,e,rfl,rfl,i,n,c,q⟩:=h;cases g;cases f;rcases i with⟨h1,h2⟩|⟨h1,h2⟩
 .exact(wy I h1 h2 c ∅).1 _ _ _ _ ⟨.bl _,H,I,rfl,q⟩
 .exact(xM I h1 h2 c ∅).1 _ _ _ _ ⟨.bl _,H,I,rfl,q⟩
theorem I_(m:X.A.units+64<cLine):bF X (c9 .NotEq) (qA X.K ai):=by
 intro o s j H x y v u Q I g f h;obtain⟨a,b,xs,l,d,e,rfl,rfl,i,n,c,q⟩:=h;cases g;cases f;rcases i with⟨h1,h2⟩|⟨h1,h2⟩
 .exact(wy I h1 h2 c ∅).2 _ _ _ _ ⟨.bl _,H,I,rfl,q⟩
 .exact(xM I h1 h2 c ∅).2 _ _ _ _ ⟨.bl _,H,I,rfl,q⟩
def Gk(K:aw):V->List V->Hp->VK->Prop:=λx a H Q=>∃(p:af) (xs:List V) (y:V),x=.ref p/\a=[y]/\H p=aa (.lst xs)/\dr y=ai/\xs.all dr=ai/\Q (.int ((xs.countP λz=>cb z y:Nat):Int)) H
theorem uE{y:V}:∀{xs:List V}{a:List ah},bq xs a->xs.all dr=ai->a.countP (f9 y)=xs.countP λz=>cb z y
 |_,_,.nil,_=>rfl
 |z::xs,u::a,.cons r t,f=>by rw[ml,eB]at f;rw[List.countP_cons,List.countP_cons,qy r f.1,uE t f.2]
theorem FN:nB X "list.count" (Gk X.K):=by
 intro A s l H x m v o Q I c d h;obtain⟨p,xs,y,rfl,rfl,i,j,b,q⟩:=h;cases c;obtain⟨u,rfl,f⟩:=d.one;obtain⟨z,a,n,r,t,e⟩:=I.lstM i;refine pN F.slot_list_count ⟨_,e,rfl⟩ F.entry_list_count (F.args_list_count_2 _ _) (SeqAt.list_countAt p a.toArray n ae #[] u (f9 y)) ⟨e,λw g=>lN f j r b w (by simpa using g),?_⟩;exact⟨.int _,H,I.tok _,⟨_,by rw[va,uE r b]⟩,q⟩
def Ge(K:aw):V->List V->Hp->VK->Prop:=λx a H Q=>∃(p:af) (xs:List V) (y:V),x=.ref p/\a=[y]/\b_ K H p xs/\dr y=ai/\xs.all dr=ai/\Q (.int ((xs.countP λz=>cb z y:Nat):Int)) H
theorem DK:nB X "tuple.count" (Ge X.K):=by
 intro G s B H x C v D Q I i j h;obtain⟨p,xs,y,rfl,rfl,o,t,d,q⟩:=h;cases i;obtain⟨u,rfl,l⟩:=j.one;obtain⟨a,r,⟨⟨A,z,f,g⟩,e,c,n,b⟩,E⟩:=I.tuple o;simp only at c b;subst c b;refine pN F.slot_tuple_count ⟨_,e,rfl⟩ F.entry_tuple_count (F.args_tuple_count_2 _ _) (SeqAt.tuple_countAt p a.toArray n z g u (f9 y)) ⟨e,λw m=>lN l t r d w (by simpa using m),?_⟩;exact⟨.int _,H,I.tok _,⟨_,by rw[va,uE r d]⟩,q⟩
def HV:V->List V->Hp->VK->Prop:=λx a H Q=>∃(p:af) (xs:List V) (y:V) (j:Nat),x=.ref p/\a=[y]/\H p=aa (.lst xs)/\dr y=ai/\xs.all dr=ai/\j<xs.length /\
 (∀z,xs[j]?=aa z->cb z y=ai)/\(∀(i:Nat) z,i<j->xs[i]?=aa z->cb z y=aj)/\Q (.int j) H
theorem IJ:nB X "list.index" HV:=by
 intro ag s P H x S v T Q I t A h;obtain⟨p,xs,y,j,rfl,rfl,J,M,l,Z,L,K,q⟩:=h;cases t;obtain⟨u,rfl,B⟩:=A.one;obtain⟨z,a,n,r,Y,e⟩:=I.lstM J;have W:=mY;have c:∀(i:Nat) (g:i<a.toArray.size),∃w,xs[i]?=aa w/\f9 y a.toArray[i]=cb w y:=λi g=>by
  have D:i<a.length:=by simpa using g
  have o:xs[i]?=aa xs[i]:=dR ∅;obtain⟨w,b,C⟩:=r.get o;have O:a[i]=w:=by rw[dR D]at b;exact dw b
  refine⟨_,o,?_⟩;have N:dr xs[i]=ai:=lj.mp l _ (yq _);rw[<-qy C N];simp[O]
 refine pN F.slot_list_index ⟨_,e,rfl⟩ F.entry_list_index (F.args_list_index_2 _ _) (SeqAt.list_indexAt p a.toArray n ae #[] u (f9 y) j (by simp;lia) ∅ ?_ ?_) ⟨e,λw E=>lN B M r l w (by simpa using E),?_⟩
 .obtain⟨w,b,d⟩:=c j (by simp;lia);rw[d];exact L w b
 .intro m G f;obtain⟨w,b,d⟩:=c m G;rw[d];exact K m w f b
 .exact⟨.int _,H,I.tok _,⟨_,rfl⟩,q⟩
end
abbrev Tx:=List Nat
def tS(l:Tx):Str:=⟨l.toArray⟩
def tV(l:Tx):V:=.str (tS l)
def cE(ls:List Tx):List V:=ls.map tV
theorem lX(l:Tx):(tS l).cps.toList=l:=by simp[tS]
theorem jZ(l:Tx):(tS l).length=l.length:=by simp[tS,mh]
theorem HB(z:Str):tS z.cps.toList=z:=by cases z;simp[tS]
theorem qE{a b:Tx}(h:tS a=tS b):a=b:=by rw[<-lX a,h,lX]
theorem xn(a:List Tx):(cE a).length=a.length:=fG _
def dQ(a b:Tx):Bool:=decide (a<=b)
def bx(ls:List Tx):List Tx:=ls.mergeSort dQ
theorem Aa(a b c:Tx)(f:dQ a b=ai)(d:dQ b c=ai):dQ a c=ai:=by simp only[dQ,decide_eq_true_eq]at *;exact List.le_trans f d
theorem FV(a b:Tx):(dQ a b||dQ b a)=ai:=by simp only[dQ,vd,decide_eq_true_eq];exact List.le_total a b
theorem Jf{a b:Tx}(d:dQ a b=ai)(c:dQ b a=ai):a=b:=by simp only[dQ,decide_eq_true_eq]at *;exact List.le_antisymm d c
theorem iL(ls:List Tx):(bx ls).Perm ls:=List.mergeSort_perm _ _
theorem xq(ls:List Tx):(bx ls).Pairwise (λa b=>dQ a b=ai):=List.pairwise_mergeSort Aa FV _
theorem w8(ls:List Tx):(bx ls).length=ls.length:=(iL ls).length_eq
theorem BB{c d:List Tx}(g:d.Perm c)(f:d.Pairwise (λa b=>dQ a b=ai)):d=bx c :=List.Perm.eq_of_pairwise (le:=λa b=>dQ a b=ai) (λ_ _ _ _ i h=>Jf i h) f (xq c) (g.trans (iL c).symm)
theorem BE{ls:List Tx}(c:ls.Pairwise (λa b=>dQ a b=ai)):bx ls=ls:=(BB (rW ls) c).symm
theorem z9:∀(p:Str) (l:List Str),risingS p l=ai->(p::l).Pairwise (λa b=>dQ a.cps.toList b.cps.toList=ai)
 |p,[],_=>List.pairwise_singleton _ _
 |p,x::r,h=>by
  have d:(!ltCps x.cps.toList p.cps.toList&&risingS x r)=ai:=h;rw[eB,ltCps_eq]at d;have q:=z9 x r d.2;have f:dQ p.cps.toList x.cps.toList=ai:=by simp only[dQ,decide_eq_true_eq];intro g;simp[g]at d
  refine List.pairwise_cons.mpr ⟨λy c=>?_,q⟩;rcases bT.mp c with rfl|c
  .exact f
  .exact Aa _ _ _ f (List.rel_of_pairwise_cons q c)
theorem K6{c:List Str}(h:sortedS c=ai):(c.map λz=>z.cps.toList).Pairwise (λa b=>dQ a b=ai):=by
 rw[List.pairwise_map];cases c with
 |nil=>exact List.Pairwise.nil
 |cons x r=>exact z9 x r h
theorem vF:∀{ls:List Tx}{a:List ah},bq (cE ls) a->dz a (ls.map tS)
 |[],_,.nil=>.nil
 |l::ls,_::_,.cons ⟨t,e⟩ r=>by subst e;exact .cons _ t (vF (ls:=ls) r)
theorem A9:∀{b:List Str}{a:List ah},dz a b->bq (cE (b.map λz=>z.cps.toList)) a
 |_,_,.nil=>.nil
 |_,_,.cons y t h=>.cons ⟨t,by rw[HB]⟩ (A9 h)
section
variable{X:Cx}
theorem G4(z:Tx)(n:Nat):Txt.mul (tS z) (n:Int)=tS (bW n z).flatten:=by
 unfold Txt.mul;cases n with
 |zero=>simp[tS,fA]
 |succ n=>
  rw[if_neg ∅];split
  .rename_i h;simp only[vd,beq_iff_eq]at h;rcases h with h|h
   .have:n=0:=∅
    subst this;simp
   .rw[jZ]at h;have:z=[]:=nV h;subst this;simp
  .unfold tS;congr 1;have b:∀(k:Nat) (a:Array Nat),(bW k z.toArray).foldl (·++·) a=a++(bW k z).flatten.toArray:=by
    intro k
    induction k with
    |zero=>intro a;simp
    |succ k c=>intro a;rw[u5,nW,c,u5,CV];simp[Array.append_assoc]
   have e:=b (n+1) #[];simp only[lf];simpa using e
theorem IB:bF X (gT .Mult) (λx y H Q=>∃(z:Tx) (n:Nat),x=tV z/\y=.int n/\n<=100/\z.length<=100/\Q (tV (bW n z).flatten) H):=by
 intro w s j H x y v u Q I c b h;obtain⟨z,n,rfl,rfl,f,d,q⟩:=h;obtain⟨t,rfl⟩:=c;obtain⟨m,rfl⟩:=b;refine SB.mul ?_ λl k=>?_
 .have o:z.length*n<=10000:=cA (yr d f) (by decide);refine⟨by rw[Bool.or_eq_false_iff];constructor <;> (apply decide_eq_false;lia),λi _=>?_,λi _=>?_⟩
  .rw[jZ];intro g;have r:(2^63-1:Int) / n ≥ (2^63-1) / 100:=by
    have a:(0:Int)<n:=∅
    apply (Int.le_ediv_iff_mul_le a).mpr;have:((2^63-1:Int) / 100)*n<=((2^63-1) / 100)*100:=Int.mul_le_mul_of_nonneg_left ∅ (by decide);refine Int.le_trans this (by decide)
   have p:((2^63-1:Int) / 100) > 1000:=by decide
   lia
  .rw[jZ,lf];unfold Builtin.Str.tooLong;apply decide_eq_false;have:10000<a_:=by rw[nG];decide
   lia
 .rw[G4];exact⟨tV _,H,I.tok _,⟨_,rfl⟩,q⟩
end
theorem Ha(t:iY)(j:Nat):(t.put j).1.led=t.led/\(t.put j).1.plain=t.plain:=⟨rfl,rfl⟩
theorem D1(t:iY)(n:Nat):(t.orStandIn n).led=t.led/\((t.orStandIn n).plain=t.plain\/(t.orStandIn n).plain=aj):=by
 unfold SetTable.orStandIn;split
 .exact⟨rfl,.inl rfl⟩
 .exact⟨rfl,.inr rfl⟩
theorem EI(t:iY)(c:Array (Int×ah))(h:Int)(x:ah):(layNew t c h x).2.1.led=t.led/\((layNew t c h x).2.1.plain=t.plain\/(layNew t c h x).2.1.plain=aj):=by
 unfold layNew;split
 .rename_i a b _;have f:=Ha t a;have d:=D1 (t.put a).1 (SetTable.insertAt c (t.put a).2 (h,x)).size;exact⟨d.1.trans f.1,by rw[<-f.2];exact d.2⟩
 .exact⟨rfl,.inr rfl⟩
theorem Il(t:iY)(c:Array (Int×ah))(a:Nat)(d:t.plain=aj):(pP t c a).2.1.led=t.led/\(pP t c a).2.1.plain=aj:=by
 unfold pP;split
 .rename_i t' b e;have q:t'.led=t.led/\t'.plain=t.plain:=by
   unfold SetTable.relaid SetTable.laid at e;cases q:SetTable.layClean (SetTable.sizeAbove a-1) (c.map (·.1))with
   |none=>rw[q]at e;cases e
   |some f=>rw[q]at e;cases e;exact⟨rfl,rfl⟩
  dsimp only;split
  .exact⟨q.1,q.2.trans d⟩
  .exact⟨rfl,rfl⟩
 .exact⟨rfl,rfl⟩
def cT(w:aD):Bool:=w.params.followText "set-order"
structure jg(P:aN)(w:aD)(h:az)(a:af)(ks:List Str):Prop where
 ex:∃(es:Array (Int×ah)) (ep:Nat) (t:iY) (ss:List Str),h.get? a=aa {cls:=.type "set",dict:=ae,data:=.set es ep t}/\dz (es.toList.map (·.2)) ss/\ss.Perm ks/\ElemsOf (iB P w) es.toList /\
  es.size<4090/\t.fits es.size=ai/\t.led=(!cT w)/\(ks≠[]->t.plain=aj)
theorem jg.at{P:aN}{w:aD}{h b:az}{a:af}{ks:List Str}(S:jg P w h a ks)(k:∀o,h.get? a=aa o->b.get? a=aa o):jg P w b a ks:=by obtain⟨es,c,t,ss,e,r⟩:=S.ex;exact⟨es,c,t,ss,k _ e,r⟩
theorem Bl:∀{a:List ah}{b:List Str},dz a b->∀x,x∈b↔∃t,Value.str x t∈a
 |_,_,.nil,x=>by simp
 |_,_,.cons y t h,x=>by
  rw[bT,Bl h x];constructor
  .rintro(rfl|⟨t',q⟩)
   .exact⟨t,jz ..⟩
   .exact⟨t',jh _ q⟩
  .rintro⟨t',q⟩;rcases bT.mp q with q|q
   .cases q;exact .inl rfl
   .exact .inr ⟨t',q⟩
theorem v9:∀{a b:List ah},a.Perm b->∀{c:List Str},dz b c->∃d,dz a d/\d.Perm c:=by intro a b p c h;refine⟨a.map strOf,strsAre_map a λv f=>h.all v (p.mem_iff.mp f),?_⟩;have:=p.map strOf;rwa[h.strs]at this
section
variable{P:aN}{w:aD}{A:aJ}{E:ah->am->Prop}{s:am}
def iV(ks:List Str)(x:Str):List Str:=if x∈ks then ks else ks++[x]
theorem jg.put{h:az}{a:af}{c es':Array (Int×ah)}{b:Nat}{t t':iY}(e:h.get? a=aa {cls:=.type "set",dict:=ae,data:=.set c b t}):(h.update a (Obj.putSet es' t')).get? a=aa {cls:=.type "set",dict:=ae,data:=.set es' (b+1) t'}:=by have:=mi (Obj.putSet es' t') e (by rw[putSet_of es' t' rfl];rfl);rw[putSet_of es' t' rfl]at this;exact this
theorem EW{a:af}{ks:List Str}{x:Str}{g:Tok}{Q:Bool->am->Prop}(S:jg P w s.heap a ks)(hn:ks.length<4000)(h:∀l b,jA a s.heap l->jg P w l a (iV ks x)->Q b {s with heap:=l}):aq (au P w) A (setAddHashed a (.str x g) ((iB P w).hash x)) Q E s:=by
 obtain⟨m,ep,t,ss,W,X,hp,C,hsz,hf,n9,cX⟩:=S.ex;have v:∀y t',(iB P w).is x (.str y t')=decide (y=x):=λy t'=>by
  show pF x (.str y t')=_;rw[me];simp[pF]
  try exact eq_comm
 have eD:(iB P w).is x (.str x g)=ai:=by rw[v];simp
 have hb:m.size<scanBound:=yf hsz (by decide);unfold setAddHashed setAddHashedIn;refine ig (ap (pQ W rfl hf ?_));dsimp only;rw[byScan_of (knd:=iB P w) (x:=.str x g) rfl hb C];simp only[if_true];unfold setAddByScan;refine ap (ap (lm (ap (wpAny_setScan_of eD W rfl hf C ?_))));have p:x∈ks↔∃e∈m.toList,(iB P w).is x e.2=ai:=by
  rw[<-hp.mem_iff,Bl X x];constructor
  .rintro⟨t',q⟩;obtain⟨e,H,ee⟩:=gW.mp q;exact⟨e,H,by rw[ee,v];simp⟩
  .rintro⟨e,H,q⟩;obtain⟨y,t',ey⟩:=X.all e.2 (gW.mpr ⟨e,H,rfl⟩);rw[ey,v]at q;have:y=x:=of_decide_eq_true q;subst this;exact⟨t',gW.mpr ⟨e,H,ey⟩⟩
 have klen:ks.length=m.size:=by
  have Z:=hp.length_eq;have Y:ss.length=m.size:=by rw[<-X.strs];simp
  lia
 cases hr:List.findIdx? (λe=>(iB P w).is x e.2) m.toList with
 |some j=>dsimp only;obtain⟨hj,hpj,_⟩:=C3.mp hr;have T:x∈ks:=p.mpr ⟨_,yq hj,hpj⟩;refine aE (aE ?_);exact h s.heap _ (Heap.SameBut.refl a s.heap) (by unfold iV;rw[if_pos T];exact S)
 |none=>
  dsimp only;have T:¬x∈ks:=λhm=>by obtain⟨e,H,q⟩:=p.mp hm;have:=List.findIdx?_eq_none_iff.mp hr e H;rw[q]at this;exact Bool.noConfusion this
  have J:∀(b:Bool) {i:am}{Q':Unit->am->Prop},Q' () i->aq (au P w) A (match b with|ai=>rule "set.scan.the-table-gave-way" |aj=>pure ()) Q' E i :=
   λb i Q' hq=>by cases b <;> first|exact aE hq|exact lm hq
  have F:=layNew_perm t m ((iB P w).hash x) (.str x g);have M:=layNew_fits t m ((iB P w).hash x) (.str x g);have z:=EI t m ((iB P w).hash x) (.str x g);generalize hL:layNew t m ((iB P w).hash x) (.str x g)=L at F M z ⊢;obtain⟨c,t1,f,gave⟩:=L;dsimp only at F M z ⊢;rw[rX]at F;have u:ElemsOf (iB P w) c.toList:=(C.push eD rfl).perm F;have hsz1:c.size=m.size+1:=by have:=F.length_eq;simpa using this
  have hS1:∃G,dz (c.toList.map (·.2)) G/\G.Perm (iV ks x):=by
   have p1:=F.map (λe:Int×ah=>e.2);rw[yn]at p1;have q1:dz (m.toList.map (·.2)++[Value.str x g]) (ss++[x]):=by
    have gen:∀{vs:List ah}{zs:List Str},dz vs zs->dz (vs++[Value.str x g]) (zs++[x]):=by
     intro vs zs hh
     induction hh with
     |nil=>exact .cons x g .nil
     |cons y t _ ih=>exact .cons y t ih
    exact gen X
   obtain⟨G,O,N⟩:=v9 p1 q1;refine⟨G,O,N.trans ?_⟩;unfold iV;rw[if_neg T];exact hp.append_right _
  obtain⟨G,O,N⟩:=hS1;have cK:iV ks x≠[]:=by unfold iV;rw[if_neg T];simp
  have o:∀d:iY,d.fits c.size=ai->d.led=(!cT w)->d.plain=aj->aq (au P w) A (do
    storeSet a c d
    if(!f&&d.tooFull)=ai then do
      (match (pP d c (pR c.size)).2.2 with|ai=>rule "set.scan.the-table-gave-way" |aj=>pure ())
      storeSet a (pP d c (pR c.size)).1 (pP d c (pR c.size)).2.1
      pure (aa ai)
     else pure (aa ai)) (λr s'=>∃l,r=aa ai/\s'={s with heap:=l}/\jA a s.heap l/\jg P w l a (iV ks x)) E s:=by
   intro d hf2 kt gZ;refine ap (wpAny_storeSet_of W rfl ?_ (fits_of_scanBound (yf (show c.size<4090 by lia) (by decide))));have o1:=jg.put (es':=c) (t':=d) W;have ip:=nX s.heap a (Obj.putSet c d);split
   .have K:=relayAll_perm d c (pR c.size);have B:=relayAll_fits d c (pR c.size);have n:=Il d c (pR c.size) gZ;generalize hRl:pP d c (pR c.size)=Rl at K B n ⊢;obtain⟨D,t3,gave2⟩:=Rl;dsimp only at K B n ⊢;have hsz2:D.size=c.size:=by have:=K.length_eq;simpa using this
    refine ap (J _ ?_);refine ap (wpAny_storeSet_of o1 rfl ?_ (fits_of_scanBound (yf (show D.size<4090 by lia) (by decide))));obtain⟨ss2,u1,u2⟩:=v9 (K.map (λe:Int×ah=>e.2)) O;refine aE ⟨_,rfl,rfl,ip.trans (nX _ a _),⟨D,_,t3,ss2,jg.put o1,u1,u2.trans N,u.perm K,∅,B,n.1.trans kt,λ_=>n.2⟩⟩
   .exact aE ⟨_,rfl,rfl,ip,⟨c,_,d,G,o1,O,N,u,∅,hf2,kt,λ_=>gZ⟩⟩
  have Dp:t1.led=(!cT w):=z.1.trans n9;refine ap (J _ ?_);split
  .refine ap ?_;rw[hashByValue_scannable 8 (x:=.str x g) rfl];refine aE ?_;have hk:plainKind (.str x g)=aj:=rfl;rw[hk];simp only[kg,if_false];refine aQ (o {t1 with plain:=aj} (SetTable.fits_plain_off M) Dp rfl) λr s' ⟨l,Z,Y,e3,e4⟩=>?_;subst Z Y;exact aE (h l _ e3 e4)
  .rename_i I;refine ap (aE ?_);simp only[if_true];refine aQ (o t1 M Dp (by simpa using I)) λr s' ⟨l,Z,Y,e3,e4⟩=>?_;subst Z Y;exact aE (h l _ e3 e4)
end
def met(val:Nat->Str)(i:Nat):List Str:=((cz i).map val).foldl iV []
theorem Bk(val:Nat->Str)(i:Nat):met val (i+1)=iV (met val i) (val i):=by unfold met;rw[rV,yn,List.foldl_append];rfl
theorem Ao(val:Nat->Str){i:Nat}:∀{j:Nat},i<=j->(met val i).length<=(met val j).length
 |0,h=>by rw[show i=0 by lia];exact a8 _
 |j+1,h=>by
  by_cases e:i=j+1
  .subst e;exact a8 _
  .refine cA (Ao val (j:=j) ∅) ?_;rw[Bk];unfold iV;split
   .exact a8 _
   .simp
section
variable{P:aN}{w:aD}{A:aJ}{R:Result->am->Prop}{I:af}{c a:List af}{G:Array GenState->Array GenState->Prop}{n:Nat}{d:Nat->ah->Prop}{St:Nat->am->Prop}
theorem Gc(W:WalksS P w A.in1 I c a G n d St)(S:af)(q:S∉c){J:Nat->az->Prop}(H:∀i h j,J i h->(∀b o,b∉a->h.get? b=aa o->j.get? b=aa o)->J i j)(X:∀(i:Nat) (v:ah) (s:am) (E:ah->am->Prop) (Q:Bool->am->Prop),i<n->d i v->J i s.heap->(∀j t b,s.toks<=t->jA S s.heap j->J (i+1) j->Q b {s with heap:=j,toks:=t})->aq (au P w) A.in1 (setAdd S v) Q E s):∀(k i:Nat) (s:am),n-i=k->i<=n->St i s->J i s.heap -> (∀f,Moved (S::a) G s f->J n f.heap->R (.ok (.ret .none)) f)->jC (au P w) A (.builtin "set.update.loop" ⟨[.ref S,.ref I],[]⟩) R s:=by
 have O:S∉a:=λh=>q (W.sub _ h);have D:∀b∈a,b∈S::a:=λb g=>jh _ g;intro k
 induction k with
 |zero=>
  intro i s M N z x y;obtain rfl:i=n:=∅
  refine mo LG ?_;rw[nY C4 _];show aq _ A.in1 (pyNext (.ref I) >>= _) _ _ s;refine ap (W.done s _ _ z λf p=>?_);show aq _ A.in1 (ret Value.none) _ _ f;exact aE (y f (p.mono D) (H _ _ _ x λb o g e=>p.heap b o g e))
 |succ k L=>
  intro i s M N z x y;have B:i<n:=∅
  refine mo LG ?_;rw[nY C4 _];show aq _ A.in1 (pyNext (.ref I) >>= _) _ _ s;refine ap (W.item i s _ _ B z λv f T l p=>?_);show aq _ A.in1 (k8 [v] (setAdd S v) >>= _) _ _ f;refine ap (ig (X i v f _ _ B T (H _ _ _ x λb o g e=>p.heap b o g e) λj t b C F K=>?_));refine aE ⟨nZ C4 _,L (i+1) _ ∅ B (W.frame _ f _ _ l C λb g o e=>?_) K λu m r=>?_⟩
  .rw[F.2 b (λh:b=S=>q (by rw[<-h];exact g))];exact e
  .refine y u (Moved.trans W.gtrans ((p.mono D).then_heap C λb o g e=>?_) m) r;rw[F.2 b (λh:b=S=>g (by rw[h];exact jz))];exact e
end
section
variable{P:aN}{w:aD}{A:aJ}{E:ah->am->Prop}{s:am}
theorem GL(a:ah){Q:ah->am->Prop} (h:jg P w (s.heap.push {cls:=.type "set",dict:=ae,data:=.set #[] 0 (.fresh 0 0 (!cT w))}) s.heap.objs.size [] -> Q (.ref s.heap.objs.size) {s with heap:=s.heap.push {cls:=.type "set",dict:=ae,data:=.set #[] 0 (.fresh 0 0 (!cT w))}}):jC (au P w) A (.call (.builtin "set.__new__") ⟨[.type "set",a],[]⟩) (wants Q E) s:=by
 refine codeAny_of_tree ?_;show aq _ A.in1 (do C5 "set.__new__" ⟨[.type "set",a],[]⟩;again (.builtin "set.__new__" ⟨[.type "set",a],[]⟩)) _ _ s;refine ap (ve (PySem.F.newCall_set_1 a) (aE ⟨nZ F.plain_set_new _,mo F.entry_set_new ?_⟩));rw[nY F.plain_set_new _];unfold Builtin.«set.__new__» Builtin.Frozenset.newClass;have i:=sub_set_self;obtain⟨j,g,d,c,f⟩:=s;dsimp only
 wp_walk
 refine pT (aE ?_);dsimp only;simp only[newObj];refine ap (wpAny_alloc (aE ?_));refine aE (h ⟨#[],0,_,[],cu _ rfl,.nil,rW _,λe b=>by simp at b,by decide,rfl,rfl,λh=>absurd rfl h⟩)
end
end L2
set_option maxHeartbeats 8000000
namespace L2
theorem DZ:entryFor table "set.__iter__"=aa Builtin.«frozenset.__iter__»:=entryFor_alias (id':="frozenset.__iter__") (by kernel_rfl) rfl (by decide +kernel) (by kernel_rfl)
theorem zN:Slot "set_iterator" "__next__" "set_iterator.__next__" :=
 .of (owner:="set_iterator") (n:="__next__") (by rw[typeLookup_type,builtinLookup_eq_fast];kernel_rfl) (by decide +kernel) (by decide +kernel) (by decide +kernel) (by first|exact .inl (by decide +kernel)|exact .inr (by decide +kernel)) (by rw[isSubtype_type];kernel_rfl)
theorem GX:entryFor table "set_iterator.__next__"=aa Builtin.«set_iterator.__next__»:=entryFor_of_fast (by kernel_rfl)
theorem HQ(a:ah):argsOk "set_iterator.__next__" ⟨[a],[]⟩:=by unfold argsOk;kernel_rfl
theorem yT:Slot "set_iterator" "__iter__" "set_iterator.__iter__" :=
 .of (owner:="set_iterator") (n:="__iter__") (by rw[typeLookup_type,builtinLookup_eq_fast];kernel_rfl) (by decide +kernel) (by decide +kernel) (by decide +kernel) (by first|exact .inl (by decide +kernel)|exact .inr (by decide +kernel)) (by rw[isSubtype_type];kernel_rfl)
theorem HN:entryFor table "set_iterator.__iter__"=aa Builtin.«dict_keyiterator.__iter__»:=entryFor_alias (id':="dict_keyiterator.__iter__") (by kernel_rfl) rfl (by decide +kernel) (by kernel_rfl)
theorem Dz(a:ah):argsOk "set_iterator.__iter__" ⟨[a],[]⟩:=by unfold argsOk;kernel_rfl
def hG(first:ah)(i:Nat)(a:af)(n b:Nat):Obj:={cls:=.type "set_iterator",data:=.fields #[first,.int i 0,.ref a,.int n 0,.int b 0]}
section
variable{P:aN}{w:aD}{A:aJ}{E:ah->am->Prop}{s:am}
theorem tf{I a:af}{first:ah}{i n d:Nat}{Q:ah->am->Prop}(h:s.heap.get? I=aa (hG first i a n d))(c:Q (.ref I) s):aq (au P w) A (k_ (.ref I)) Q E s:=by
 have b:s.TypeIs (.ref I) "set_iterator":=⟨_,h,rfl⟩
 refine wpAny_pyIter_slot b yT (rP yT b HN ?_ (Dz _));show aq _ _ (ret (.ref I)) _ _ s;exact aE ⟨_,rfl,"set_iterator",_,b,zN.lookup,c⟩
theorem mZ{I a:af}{first:ah}{i:Nat}{f:Array (Int×ah)}{g:Nat}{t:iY}{Q:Option ah->am->Prop}(n:s.heap.get? a=aa {cls:=.type "set",dict:=ae,data:=.set f g t})(m:t.fits f.size=ai)(l:s.heap.get? I=aa (hG first i a f.size g))(h:aq (au P w) A.in1 (if let .int slot _:=first then do
    match <-ln a slot.toNat (i:Int).toNat (g:Int).toNat with
    |some (x,next)=>do
     lp (.ref I) 0 (cO next)
     lp (.ref I) 1 (cO ((i:Int)+1))
     ret x
    |none=>do lp (.ref I) 2 .none;raiseNew (<-newExc (.type "StopIteration") [])
   else do
    let aa places <-seqItems? first|unsupported "internal:set_iterator"
    match places[(i:Int).toNat]? with
    |some (.int d _)=>do
     let x <-setNextDrawn a d.toNat (g:Int).toNat
     lp (.ref I) 1 (cO ((i:Int)+1))
     ret x
    |some _=>unsupported "internal:set_iterator"
    |none=>do lp (.ref I) 0 (cO 0);lp (.ref I) 2 .none;raiseNew (<-newExc (.type "StopIteration") []))
   (λc b=>∃r,c=.done (.ret r)/\Q (aa r) b) (λe b=>aq (au P w) A (do if <-vf e (.type "StopIteration")then pure ae else throw e) Q E b) s) :
  aq (au P w) A (pyNext (.ref I)) Q E s:=by
 have j:s.TypeIs (.ref I) "set_iterator":=⟨_,l,rfl⟩
 unfold pyNext;refine ap (wpAny_attempt (wpAny_callSpecial?_slot (name:=rO "__next__") j zN (rP zN j GX ?_ (HQ _))));unfold Builtin.«set_iterator.__next__» slotArgs;refine ap (aE ?_);refine ap (wpAny_fieldsOf l rfl ?_);show aq _ _ (setEntries a >>= _) _ _ s;refine ap (wpAny_setEntries_of n rfl m ?_);have u:(((f.size:Nat):Int) != ((f.size:Nat):Int))=aj:=by simp
 rw[u];simp only[kg,if_false];refine cW ?_ (λc b q=>?_) (λe b q=>q) (Q:=λc b=>∃r,c=.done (.ret r)/\Q (aa r) b) (E:=λe b=>aq (au P w) A (do if <-vf e (.type "StopIteration")then pure ae else throw e) Q E b)
 .exact h
 .obtain⟨r,p,o⟩:=q;exact⟨r,p,aE o⟩
end
theorem xG{a:Type}:∀{l:List a}{i:Nat} (h:i<l.length),(l[i]::l.eraseIdx i).Perm l
 |[],i,h=>by simp at h
 |x::r,0,h=>by simp
 |x::r,i+1,h=>by have q:=xG (l:=r) (i:=i) (by simpa using h);simp only[List.getElem_cons_succ,List.eraseIdx_cons_succ];exact(List.Perm.swap x _ _).trans (List.Perm.cons x q)
theorem Ab{f:Type}(next:Nat->Nat):∀(c k:Nat) (a:List f) (b:Array f),c=a.length->(pickOrder.go next c k a b).toList.Perm (b.toList++a)
 |0,k,a,b,h=>by have:a=[]:=nV h.symm;subst this;simp[pickOrder.go]
 |c+1,k,a,b,h=>by
  have d:next k % a.length<a.length:=Nat.mod_lt _ ∅
  unfold pickOrder.go;rw[dR d];dsimp only;have g:=Ab next c (k+1) (a.eraseIdx (next k % a.length)) (b.push a[next k % a.length]) (by rw[List.length_eraseIdx,if_pos d];lia)
  refine g.trans ?_;rw[rX,kh];exact C6 _ (xG d)
theorem zV{a:Type}(next:Nat->Nat)(xs:Array a):(rY next xs).toList.Perm xs.toList:=by
 have:=Ab next xs.size 0 xs.toList #[] (by simp)
 simpa[rY]using this
section
variable{P:aN}{w:aD}{A:aJ}{E:ah->am->Prop}{s:am}
theorem IW{a:Source}{n:Nat}{Q:Nat->am->Prop}(b:n≠0)(h:∀k d,k<n->Q k {s with drawn:=d}):aq (au P w) A (choose a n) Q E s:=λc p hΓ=>by unfold choose;rw[Sem.wp_choose];refine⟨b,?_⟩;exact h _ _ (Nat.mod_lt _ (Nat.pos_of_ne_zero b))
theorem zZ{c:Type}:∀(n:Nat) (xs:List c) (s:am) (Q:List c->am->Prop),n=xs.length->(∀a d,a.Perm xs->Q a {s with drawn:=d})->aq (au P w) A (drawOrder n xs) Q E s
 |0,[],s,Q,_,h=>by unfold drawOrder;exact aE (h [] s.drawn (rW _))
 |0,x::xs,s,Q,hn,h=>by simp at hn
 |n+1,[],s,Q,hn,h=>by simp at hn
 |n+1,x::xs,s,Q,hn,h=>by unfold drawOrder;refine ap (IW (by simp) λk d b=>?_);rw[dR b];dsimp only;refine ap (zZ n ((x::xs).eraseIdx k) _ _ (by rw[List.length_eraseIdx,if_pos b];lia) λa g f=>?_);refine aE (h _ g ?_);exact(List.Perm.cons _ f).trans (xG b)
theorem tD{Q:Option ah->am->Prop}{R:Fin->am->Prop}(f:A.handled=ae)(g:∀c,(∀b o,s.heap.get? b=aa o->c.get? b=aa o)->Q ae {s with heap:=c}):aq (au P w) A.in1 (do raiseNew (<-newExc (.type "StopIteration") [])) R (λe d=>aq (au P w) A (do if <-vf e (.type "StopIteration")then pure ae else throw e) Q E d) s:=by
 refine ap ?_;simp only[newExc,newTuple];refine ap (lh ?_ (by size_fits));refine ap (m:=firstArgMember _ _) (ve (a:=Value.none) (by first|rfl | (simp only[firstArgMember];rfl)) ?_);refine lh ?_ (by size_fits);simp only[raiseNew];refine ap (wpAny_handled ?_);rw[show A.in1.handled=ae from f];refine ap (aE (wpAny_throw ?_));refine ap (C7 (T:="StopIteration") (b:=ai) ⟨_,cu _ rfl,rfl⟩ isSubtype_stop ?_);exact aE (g _ λb o e=>bd _ (bd _ e))
theorem wW{I a:af}{first d:ah}{i n f:Nat}{Q:Unit->am->Prop}(c:s.heap.get? I=aa (hG first i a n f))(h:∀b,jA I s.heap b->b.get? I=aa (hG d i a n f)->Q () {s with heap:=b}):aq (au P w) A (lp (.ref I) 0 d) Q E s:=by refine pU c rfl (by simp[hG]) (h _ (nX ..) ?_);rw[mi _ c (by rfl)];rfl
theorem v_{I a:af}{first:ah}{i n d:Nat}{Q:Unit->am->Prop}(c:s.heap.get? I=aa (hG first i a n d))(h:∀b,jA I s.heap b->b.get? I=aa (hG first (i+1) a n d)->Q () {s with heap:=b}):aq (au P w) A (lp (.ref I) 1 (cO ((i:Int)+1))) Q E s:=by refine pU c rfl (by simp[hG]) (h _ (nX ..) ?_);rw[mi _ c (by rfl)];rfl
theorem t5{I a:af}{first:ah}{i n d:Nat}{Q:Unit->am->Prop}(c:s.heap.get? I=aa (hG first i a n d))(h:∀b,jA I s.heap b->(∃o,b.get? I=aa o)->Q () {s with heap:=b}):aq (au P w) A (lp (.ref I) 2 .none) Q E s:=by refine pU c rfl (by simp[hG]) (h _ (nX ..) ⟨_,mi _ c (by rfl)⟩)
abbrev nu(a:Array (Int×ah))(b:Nat)(t:iY):Obj:={cls:=.type "set",dict:=ae,data:=.set a b t}
theorem IG{I a:af}{d:Array (Int×ah)}{g:Nat}{t:iY}(x:a≠I)(n:t.fits d.size=ai)(f:cT w=ai)(C:A.handled=ae):Walks P w A I [I,a] [I] d.size (λi v=>((rY (w.params.setOrder a g) d).toList.map (·.2))[i]?=aa v) (λi h=>h.get? I=aa (hG (cO 0) i a d.size g)/\h.get? a=aa (nu d g t)):=by
 have hsz:(rY (w.params.setOrder a g) d).size=d.size:=by have:=(zV (w.params.setOrder a g) d).length_eq;simpa using this
 have j:∀(s:am) (i:Nat) (Q:Option (ah×Nat)->am->Prop) (E:ah->am->Prop),s.heap.get? a=aa (nu d g t) ->
   Q (((rY (w.params.setOrder a g) d)[i]?).map λe=>(e.2,0)) s->aq (au P w) A.in1 (ln a (0:Int).toNat (i:Int).toNat (g:Int).toNat) Q E s:=λs i Q E u B=>by
  unfold ln;refine ap (pQ u rfl n ?_);unfold vg;refine ap (ap (pT (aE ?_)));show aq _ _ (if cT w=ai then _ else _) _ _ s;rw[if_pos f];simp only[lf,bne_self_eq_false,kg,if_false];unfold setWalk;refine ap (ap (pQ u rfl n ?_));unfold vg;refine ap (ap (pT (aE ?_)));show aq _ _ (if cT w=ai then _ else _) _ _ s;rw[if_pos f];refine ap (pT (aE (aE ?_)));exact B
 refine⟨λb f=>by simp at f;simp[f],λi h H c k=>⟨k I (by simp) _ c.1,k a (by simp) _ c.2⟩,λi s Q E G c l=>?_,λs Q E c l=>?_,λi s Q E c l=>tf c.1 l⟩
 .refine mZ c.2 n c.1 ?_;refine ap (j s i _ _ c.2 ?_);have y:i<(rY (w.params.setOrder a g) d).size:=∅
  rw[vh y];dsimp only[Option.map_some];refine ap (wW c.1 λq m F=>?_);refine ap (v_ (s:={s with heap:=q}) F λp r D=>?_);refine aE ⟨_,rfl,l _ p s.toks ?_ ⟨D,?_⟩ λb o f e=>?_⟩
  .rw[jE];simp[vh y]
  .exact(r.2 a x).trans ((m.2 a x).trans c.2)
  .exact(r.2 b (by simpa using f)).trans ((m.2 b (by simpa using f)).trans e)
 .refine mZ c.2 n c.1 ?_;refine ap (j s d.size _ _ c.2 ?_);rw[Array.getElem?_eq_none ∅];dsimp only[Option.map_none];refine ap (t5 c.1 λq m _=>?_);exact tD (s:={s with heap:=q}) C λp z=>l p s.toks λb o f e=>z b o ((m.2 b (by simpa using f)).trans e)
theorem Lo{I a T:af}{f:Array (Int×ah)}{K:Nat}{t:iY}{c:List Nat}(cK:a≠I)(Z:T≠I)(D:t.fits f.size=ai)(H:c.Perm (cz f.size))(Y:A.handled=ae):Walks P w A I [I,a,T] [I] f.size (λi v=>(c.filterMap λj=>(f[j]?).map (·.2))[i]?=aa v) (λi h=>h.get? I=aa (hG (.ref T) i a f.size K)/\h.get? a=aa (nu f K t)/\h.get? T=aa {cls:=.type "tuple",data:=.seq (c.map λ(k:Nat)=>cO k).toArray}):=by
 have B:c.length=f.size:=by simpa using H.length_eq
 have p:∀j∈c,j<f.size:=λj C=>by simpa using H.mem_iff.mp C
 have fm:∀(l:List Nat),(∀j∈l,j<f.size)->∀(i j:Nat),l[i]?=aa j->∃e:Int×ah,f[j]?=aa e/\(l.filterMap λj=>(f[j]?).map (·.2))[i]?=aa e.2:=by
  intro l
  induction l with
  |nil=>intro _ i j h;simp at h
  |cons x r O=>
   intro J i j h;have S:x<f.size:=J x (jz ..);have G:f[x]?=aa f[x]:=vh S;cases i with
   |zero=>simp at h;subst h;exact⟨_,G,by rw[rH,G];rfl⟩
   |succ i=>obtain⟨e,z,y⟩:=O (λj C=>J j (jh _ C)) i j (by simpa using h);exact⟨e,z,by rw[rH,G];simpa using y⟩
 have g:∀(s:am) (Q:Option (Array ah)->am->Prop) (E:ah->am->Prop),s.heap.get? T=aa {cls:=.type "tuple",data:=.seq (c.map λ(k:Nat)=>cO k).toArray}->Q (aa (c.map λ(k:Nat)=>cO k).toArray) s->aq (au P w) A.in1 (seqItems? (.ref T)) Q E s:=λs Q E W X=>by exact vi W rfl X
 refine⟨λb m=>by simp at m;simp[m],λi h h' d k=>⟨k I (by simp) _ d.1,k a (by simp) _ d.2.1,k T (by simp) _ d.2.2⟩,λi s Q E hi d q=>?_,λs Q E d q=>?_,λi s Q E d q=>tf d.1 q⟩
 .refine mZ d.2.1 D d.1 ?_;refine ap (g s _ _ d.2.2 ?_);have L:i<c.length:=∅
  have u:((c.map λ(k:Nat)=>cO k).toArray)[(i:Int).toNat]?=aa (cO (c[i]:Nat)):=by simp[L]
  dsimp only;rw[u];obtain⟨e,z,y⟩:=fm c p i c[i] (dR L);show aq _ _ (setNextDrawn a _ _ >>= _) _ _ s;refine ap ?_;unfold setNextDrawn;refine ap (pQ d.2.1 rfl D ?_);simp only[lf,bne_self_eq_false,kg,if_false];rw[z];refine aE ?_;refine ap (v_ d.1 λF n e2=>?_);refine aE ⟨_,rfl,q _ F s.toks y ⟨e2,(n.2 a cK).trans d.2.1,(n.2 T Z).trans d.2.2⟩ λb o m e=>(n.2 b (by simpa using m)).trans e⟩
 .refine mZ d.2.1 D d.1 ?_;refine ap (g s _ _ d.2.2 ?_);have u:((c.map λ(k:Nat)=>cO k).toArray)[(f.size:Int).toNat]?=ae:=by simp[B]
  dsimp only;rw[u];refine ap (wW d.1 λh1 N u=>?_);refine ap (t5 (s:={s with heap:=h1}) u λF n _=>?_);exact tD (s:={s with heap:=F}) Y λh3 M=>q h3 s.toks λb o m e=>M b o ((n.2 b (by simpa using m)).trans ((N.2 b (by simpa using m)).trans e))
theorem Ex(j k:Nat):LH #[j] k=if j<k then 1 else 0:=by
 unfold LH;simp only[bY,gf,nQ];unfold C8;simp;split
 .rename_i h;unfold C8;simp
 .unfold C8;simp
theorem EK{I a:af}{g:Array (Int×ah)}{n:Nat}{t:iY}(L:a≠I)(u:t.fits g.size=ai)(f:cT w=aj)(N:t.led=ai)(m:g.size=1)(S:A.handled=ae):Walks P w A I [I,a] [I] 1 (λi v=>(g.toList.map (·.2))[i]?=aa v) (λi h=>h.get? I=aa (hG (cO (if i=0 then 0 else((t.place.getD 0 0:Nat):Int)+1)) i a g.size n)/\h.get? a=aa (nu g n t)):=by
 have z:t.place.size=1:=by simp only[SetTable.fits,eB,beq_iff_eq]at u;lia
 obtain⟨j,H⟩:=Array.size_eq_one_iff.mp z;have K:((t.place.getD 0 0:Nat):Int)=(j:Int):=by rw[H];rfl
 obtain⟨e,J⟩:=Array.size_eq_one_iff.mp m;have l:∀(s:am) (d:Nat) (i:Nat) (Q:Option (ah×Nat)->am->Prop) (E:ah->am->Prop),s.heap.get? a=aa (nu g n t) ->
   Q (if j<d then ae else aa (e.2,j+1)) s->aq (au P w) A.in1 (ln a d i n) Q E s:=λs d i Q E T r=>by
  unfold ln;refine ap (pQ T rfl u ?_);unfold vg;refine ap (ap (pT (aE ?_)));show aq _ _ (if cT w=ai then _ else _) _ _ s;rw[if_neg (by rw[f];decide)];refine vj (λB=>absurd (show(!t.plain&&decide (g.size > 1))=ai from B) (by rw[m];simp)) (λ_=>?_);refine ap ?_;refine cW (Q:=λ_ F=>F=s) (E:=E) ?_ (λ_ F y=>?_) (λ_ _ x=>x)
  .refine vj (λB=>absurd (show(!t.led&&!g.isEmpty)=ai from B) (by rw[N];simp)) (λ_=>aE rfl)
  .subst y;rw[H,Ex,J];by_cases M:j<d
   .rw[if_pos M]at r ⊢;exact aE r
   .rw[if_neg M]at r ⊢;exact aE r
 refine⟨λb f=>by simp at f;simp[f],λi h Y c k=>⟨k I (by simp) _ c.1,k a (by simp) _ c.2⟩,λi s Q E X c p=>?_,λs Q E c p=>?_,λi s Q E c p=>tf c.1 p⟩
 .obtain rfl:i=0:=∅
  refine mZ c.2 u c.1 ?_;show aq _ _ (ln a (0:Int).toNat ((0:Nat):Int).toNat (n:Int).toNat >>= _) _ _ s;simp only[lf,Int.toNat_zero];refine ap (l s 0 0 _ _ c.2 ?_);rw[if_neg (Nat.not_lt_zero j)];dsimp only;refine ap (wW c.1 λm q D=>?_);refine ap (v_ (s:={s with heap:=m}) D λC G W=>?_);refine aE ⟨_,rfl,p _ C s.toks ?_ ⟨?_,?_⟩ λb o f e=>?_⟩
  .rw[J];rfl
  .rw[W,if_neg (by decide),K];rfl
  .exact(G.2 a L).trans ((q.2 a L).trans c.2)
  .exact(G.2 b (by simpa using f)).trans ((q.2 b (by simpa using f)).trans e)
 .refine mZ c.2 u c.1 ?_;rw[if_neg (by decide),K];show aq _ _ (ln a ((j:Int)+1).toNat ((1:Nat):Int).toNat (n:Int).toNat >>= _) _ _ s;have D:((j:Int)+1).toNat=j+1:=∅
  rw[D,lf,lf];refine ap (l s (j+1) 1 _ _ c.2 ?_);rw[if_pos (mq j)];dsimp only;refine ap (t5 c.1 λm q _=>?_);exact tD (s:={s with heap:=m}) S λC O=>p C s.toks λb o f e=>O b o ((q.2 b (by simpa using f)).trans e)
theorem uk:∀{a:List ah}{b:List Str} (i:Nat) (v:ah),dz a b->a[i]?=aa v->∃t,v=.str (b.getD i fA) t
 |_,_,i,v,.nil,h=>by simp at h
 |_,_,0,v,.cons y t _,h=>by simp at h;exact⟨t,by rw[<-h];rfl⟩
 |_,_,i+1,v,.cons y t hr,h=>by simp only[List.getElem?_cons_succ]at h;obtain⟨c,e⟩:=uk i v hr h;exact⟨c,by rw[e];rfl⟩
end
theorem BY{n:Nat}(h:n<=4096):n<a_:=yh h (by decide)
theorem Js:typeLookup (.type "set") "__len__"=pure (aa (.builtin "set.__len__")):=F.slot_set_len.lookup
section
variable{P:aN}{w:aD}{A:aJ}{E:ah->am->Prop}{s:am}
def qD(w:aD)(h:az)(a:af)(b:Array (Int×ah)):Prop:=∃(c:Nat) (t:iY),h.get? a=aa {cls:=.type "set",dict:=ae,data:=.set b c t}/\b.size<4090/\t.fits b.size=ai/\t.led=(!cT w)/\(b.size≠0->t.plain=aj)
theorem qD.at{w:aD}{h b:az}{a:af}{es:Array (Int×ah)}(S:qD w h a es)(k:∀o,h.get? a=aa o->b.get? a=aa o):qD w b a es:=by obtain⟨c,t,e,r⟩:=S;exact⟨c,t,k _ e,r⟩
theorem jg.e{h:az}{a:af}{ks:List Str}(S:jg P w h a ks):∃es ss,qD w h a es/\dz (es.toList.map (·.2)) ss/\ss.Perm ks:=by
 obtain⟨es,l,t,ss,f,c,b,i,hsz,g,d,n⟩:=S.ex;refine⟨es,ss,⟨l,t,f,hsz,g,d,λj=>n λz=>j ?_⟩,c,b⟩;have m:=b.length_eq;have o:ss.length=es.size:=by rw[<-c.strs];simp
 rw[z,nQ]at m;lia
structure A7(P:aN)(w:aD)(s s':am)(a I:af)(es:Array (Int×ah))(fp:List af)(n:Nat)(Pv:Nat->ah->Prop)(St:Nat->az->Prop):Prop where
 wk:∀A:aJ,A.handled=ae->Walks P w A I fp [I] n Pv St
 st:St 0 s'.heap
 old:∀b o,s.heap.get? b=aa o->s'.heap.get? b=aa o
 new:s.heap.objs.size<=I
 lt:∀b∈fp,b<s'.heap.objs.size
 rest:s'={s with heap:=s'.heap,drawn:=s'.drawn}
 ord:∀a9:Array ah,ItemsOf Pv a9 n->a9.toList.Perm (es.toList.map (·.2))
 len:n<4090
 fps:∀b∈fp,b=a\/s.heap.objs.size<=b
theorem uj{l:List ah}{a:Array ah}{n:Nat}(c:l.length=n)(h:ItemsOf (λi v=>l[i]?=aa v) a n):a.toList=l:=by
 refine yt λi=>?_;by_cases b:i<n
 .have:i<a.size:=by rw[h.1];exact b
  have q:=h.2 i a[i] (vh this);rw[q];simp[this]
 .rw[rZ (by rw[k9,h.1];lia),rZ ∅]
theorem Fa{I a:af}{d:Array (Int×ah)}{j:Nat}{t:iY}(L:a≠I)(u:t.fits d.size=ai)(g:cT w=aj)(n:d.size=0)(F:A.handled=ae):Walks P w A I [I,a] [I] 0 (λi v=>(d.toList.map (·.2))[i]?=aa v) (λi h=>h.get? I=aa (hG (cO 0) 0 a d.size j)/\h.get? a=aa (nu d j t)):=by
 have y:d=#[]:=Array.eq_empty_of_size_eq_zero n;have l:∀(s:am) (f:Nat) (i:Nat) (Q:Option (ah×Nat)->am->Prop) (E:ah->am->Prop),s.heap.get? a=aa (nu d j t) ->
   Q ae s->aq (au P w) A.in1 (ln a f i j) Q E s:=λs f i Q E G C=>by
  unfold ln;refine ap (pQ G rfl u ?_);unfold vg;refine ap (ap (pT (aE ?_)));show aq _ _ (if cT w=ai then _ else _) _ _ s;rw[if_neg (by rw[g];decide)];refine vj (λq=>absurd (show(!t.plain&&decide (d.size > 1))=ai from q) (by rw[n];simp)) (λ_=>?_);refine ap ?_;refine cW (Q:=λ_ r=>r=s) (E:=E) ?_ (λ_ r p=>?_) (λ_ _ x=>x)
  .refine vj (λq=>absurd (show(!t.led&&!d.isEmpty)=ai from q) (by rw[y];simp)) (λ_=>aE rfl)
  .subst p;rw[y];have J:∀k:Nat,(#[]:Array (Int×ah))[k]?=ae:=λk=>by simp
   dsimp only;rw[J];exact aE C
 refine⟨λb g=>by simp at g;simp[g],λi h K c k=>⟨k I (by simp) _ c.1,k a (by simp) _ c.2⟩,λi s Q E D c m=>absurd D (Nat.not_lt_zero i),λs Q E c m=>?_,λi s Q E c m=>tf c.1 m⟩;refine mZ c.2 u c.1 ?_;show aq _ _ (ln a (0:Int).toNat ((0:Nat):Int).toNat (j:Int).toNat >>= _) _ _ s;simp only[lf,Int.toNat_zero];refine ap (l s 0 0 _ _ c.2 ?_);dsimp only;refine ap (t5 c.1 λn B _=>?_);exact tD (s:={s with heap:=n}) F λH z=>m H s.toks λb o g e=>z b o ((B.2 b (by simpa using g)).trans e)
theorem Hc{a:af}{g:Array (Int×ah)}{Q:ah->am->Prop}(S:qD w s.heap a g)(h:∀x I C n D St,A7 P w s x a I g C n D St->Q (.ref I) x):aq (au P w) A (k_ (.ref a)) Q E s:=by
 obtain⟨M,t,l,hsz,p,n9,cX⟩:=S;have Y:s.TypeIs (.ref a) "set":=⟨_,l,rfl⟩
 have i9:=bE l;refine wpAny_pyIter_slot Y F.slot_set_iter (rP F.slot_set_iter Y DZ ?_ (F.args_set_iter_1 _));unfold Builtin.«frozenset.__iter__» Builtin.Frozenset.slot0 slotArgs Builtin.Frozenset.addrOf Builtin.Frozenset.sizeOf;refine ap (aE ?_);refine ap (ap (wpAny_setEntries_of l rfl p (aE ?_)));unfold setDrawn;refine ap (ap (pQ l rfl p ?_));unfold vg;refine ap (ap (pT (aE ?_)));refine aE ?_;have i:∀(first:ah) (u:am) (C:List af) (n:Nat) (D:Nat->ah->Prop) (St:Nat->az->Prop),u.heap.get? a=aa {cls:=.type "set",dict:=ae,data:=.set g M t} ->
   A7 P w s {u with heap:=u.heap.push (hG first 0 a g.size M)} a u.heap.objs.size g C n D St ->
   aq (au P w) A.in1 (do
    let e <-setEpoch a
    let f <-newFields "set_iterator" [first,cO 0,Value.ref a,cO (g.size:Nat),cO (e:Nat)]
    ret f) (λi x=>∃v,i=Fin.done (Flow.ret v)/\∃Z r,x.TypeIs v Z/\typeLookup (Value.type Z) (rO "__next__")=pure (aa r)/\Q v x) E u:=λfirst u C n D St ha W=>by
  refine ap (wpAny_setEpoch_of ha rfl p ?_);refine ap (lh ?_);exact aE ⟨_,rfl,"set_iterator",_,⟨_,cu _ rfl,rfl⟩,zN.lookup,h _ _ C n D St W⟩
 refine vj (λJ=>?_) (λJ=>?_)
 .have L:(!cT w&&(!t.plain&&decide (g.size > 1)))=ai:=J;refine ap (zZ g.size (cz g.size) s _ (by simp) λG d H=>?_);refine ap (wpAny_newTuple ?_ (hsz:=by rw[fG,H.length_eq,C0];exact kZ (BY ∅)));refine i _ _ _ _ _ _ (bd _ l) ⟨λO q=>Lo (T:=s.heap.objs.size) (cM (by rw[iC];exact ki i9)) (cM (by rw[iC];exact mq _)) p H q,⟨cu _ rfl,?_,?_⟩,?_,?_,?_,rfl,?_,hsz,?_⟩
  .exact bd _ (bd _ l)
  .exact bd _ (cu _ rfl)
  .exact λb o e=>bd _ (bd _ e)
  .rw[iC];exact u9 _
  .intro b c;simp only[bT,iD,or_false]at c;rw[iC,iC];rcases c with rfl|rfl|rfl
   .rw[iC];exact mq _
   .exact ki (ki i9)
   .exact ki (mq _)
  .intro N m;have e0:(G.filterMap λj=>(g[j]?).map (·.2))=(G.filterMap λj=>g[j]?).map (·.2):=by rw[List.map_filterMap]
   have y:(G.filterMap λj=>g[j]?).Perm g.toList:=by have:=H.filterMap λj=>g[j]?;rwa[filterMap_getElem?_range]at this
   rw[e0]at m;rw[uj (by rw[fG,y.length_eq];simp) m];exact y.map _
  .intro b c;simp only[bT,iD,or_false]at c;rcases c with rfl|rfl|rfl
   .rw[iC];exact .inr (u9 _)
   .exact .inl rfl
   .exact .inr (a8 _)
 .have L:¬(!cT w&&(!t.plain&&decide (g.size > 1)))=ai:=J;refine ap (aE ?_);cases c:cT w with
  |true=>
   refine i _ _ _ _ _ _ l ⟨λO q=>IG (cM i9) p c q,⟨cu _ rfl,bd _ l⟩,λb o e=>bd _ e,a8 _,?_,rfl,?_,hsz,λb c=>?_⟩
   .intro b c;simp only[bT,iD,or_false]at c;rw[iC];rcases c with rfl|rfl
    .exact mq _
    .exact ki i9
   .intro N m;have y:=zV (w.params.setOrder a M) g;rw[uj (by rw[fG,y.length_eq];simp) m];exact y.map _
   .simp only[bT,iD,or_false]at c;exact c.elim (λz=>.inr (ke z.symm)) .inl
  |false=>
   have K:g.size=1\/g.size=0:=by
    by_cases X:g.size=0
    .exact .inr X
    .rw[c,cX X]at L;simp at L;lia
   rcases K with B|B
   .refine i _ _ _ _ _ _ l ⟨λO q=>EK (cM i9) p c (by rw[n9,c];rfl) B q,⟨cu _ rfl,bd _ l⟩,λb o e=>bd _ e,a8 _,?_,rfl,?_,by decide,λb c=>?_⟩
    .intro b c;simp only[bT,iD,or_false]at c;rw[iC];rcases c with rfl|rfl
     .exact mq _
     .exact ki i9
    .intro N m;rw[uj (by simp[B]) m]
    .simp only[bT,iD,or_false]at c;exact c.elim (λz=>.inr (ke z.symm)) .inl
   .refine i _ _ _ _ _ _ l ⟨λO q=>Fa (cM i9) p c B q,⟨cu _ rfl,bd _ l⟩,λb o e=>bd _ e,a8 _,?_,rfl,?_,by decide,λb c=>?_⟩
    .intro b c;simp only[bT,iD,or_false]at c;rw[iC];rcases c with rfl|rfl
     .exact mq _
     .exact ki i9
    .intro N m;rw[uj (by simp[B]) m]
    .simp only[bT,iD,or_false]at c;exact c.elim (λz=>.inr (ke z.symm)) .inl
theorem Ef{a:af}{m:Array (Int×ah)}{Q:List ah->am->Prop}(J:A.handled=ae)(S:qD w s.heap a m)(h:∀(d:am) (C:List ah),C.Perm (m.toList.map (·.2))->(∀b o,s.heap.get? b=aa o->d.heap.get? b=aa o)->d.gens=s.gens->d.os=s.os->Q C d):aq (au P w) A (collect (.ref a)) Q E s:=by
 obtain⟨K,t,H,N,_⟩:=id S;have i9:=bE H;unfold collect;refine ap (wpAny_runValue (mo F.entry_proto_collect ?_));rw[nY F.plain_proto_collect _];show aq _ A.in1 (newList [] >>= λl=>again (.builtin "list.__iadd__" ⟨[l,.ref a],[]⟩)) _ _ s;refine ap (lh ?_);refine aE ⟨nZ F.plain_list_iadd _,mo F.entry_list_iadd ?_⟩;rw[nY F.plain_list_iadd _];show aq _ A.in1 (Builtin.List.listExtendWith (.ref s.heap.objs.size) (.ref a) (.ref s.heap.objs.size)) _ _ _;unfold Builtin.List.listExtendWith;have j:∀u:am,u.heap.get? a=aa {cls:=.type "set",dict:=ae,data:=.set m K t}->u.TypeIs (.ref a) "set":=λu e=>⟨_,e,rfl⟩
 have D:(s.heap.push {cls:=.type "list",data:=.seq ([]:List ah).toArray}).get? a=aa {cls:=.type "set",dict:=ae,data:=.set m K t}:=bd _ H;refine ap (wpAny_typeOf (j _ D) ?_);have X:Builtin.List.listSameRef (.ref s.heap.objs.size) (.ref a)=aj:=by have:¬(s.heap.objs.size=a):=ma i9;simp[Builtin.List.listSameRef,this]
 rw[if_neg (by rw[X];decide)];refine ap (Hc (S.at λo e=>bd _ e) λr I Y n Pv St W=>?_);have v:=W.old a _ D;refine ap (ig ?_);unfold Builtin.List.listLengthHint;refine ap (u6 (j _ v) Js ?_)
 wp_delta
 refine ap (C7 (T:="set") (b:=ai) (j _ v) (by rw[isSubtype_type];kernel_rfl) ?_);show aq _ A.in1 (typeOf (Value.ref a) >>= _) _ _ _;refine ap (wpAny_typeOf (T:="set") (j _ v) ?_);refine aE ?_;rw[if_pos (by decide)];refine ap (lm ?_);have O:(s.heap.push {cls:=.type "list",data:=.seq ([]:List ah).toArray}).get? s.heap.objs.size=aa {cls:=.type "list",data:=.seq ([]:List ah).toArray}:=cu _ rfl;have i:=W.old _ _ O;unfold Builtin.List.listTouch;refine ap (ap (yu i rfl ?_ (by decide) (by show 1<=a_+1;decide)));have g:=vk i (λa:Array ah=>a.push Value.none);refine yu g rfl ?_ (by show 1<=a_;decide) (by show 0<=a_+1;decide);have B:=vk g (λa:Array ah=>a.pop);have L:s.heap.objs.size∉Y:=λz=>by
  rcases W.fps _ z with q|q
  .exact absurd i9 (by rw[<-q];exact gR _)
  .rw[iC]at q;exact absurd (mq _) (Nat.not_lt.mpr q)
 have G:∀b o,b≠s.heap.objs.size->r.heap.get? b=aa o->(((r.heap.update s.heap.objs.size (fH λa=>a.push Value.none)).update s.heap.objs.size (fH λa=>a.pop))).get? b=aa o:=λb o f e=>by rw[C9 _ _ _ _ f,C9 _ _ _ _ f];exact e
 have Z:St 0 (((r.heap.update s.heap.objs.size (fH λa=>a.push Value.none)).update s.heap.objs.size (fH λa=>a.pop))):=(W.wk A.in1 J).frame 0 _ _ W.st λb f o e=>G b o (λz=>L (z ▸ f)) e;refine aE ⟨nZ F.plain_extend_loop _,codeAny_extend_loopS (W.wk A.in1 J).toS (kZ (BY (by have:=W.len;lia))) _ L _ n 0 _ _ _ rfl (li _) Z B (ItemsOf.nil _) λd c c' x y M=>?_⟩;show aq _ A (load s.heap.objs.size >>= _) _ _ d;refine ap (wpAny_load y ?_);refine aE (h d c.toList (W.ord c M) (λb o e=>?_) ?_ ?_)
 .have p:=bE e;refine x.heap b o (λf=>?_) (G b o (cM p) (W.old b o (bd _ e)));rcases bT.mp f with z|z
  .exact absurd p (by rw[z];exact gR _)
  .rw[fJ.mp z]at p;have:=W.new;rw[iC]at this;exact absurd p (Nat.not_lt.mpr (Nat.le_of_succ_le this))
 .rw[x.gens,W.rest]
 .rw[x.os,W.rest]
theorem Hr{a:af}{ks:List Str}{Q:List ah->am->Prop}(p:A.handled=ae)(S:jg P w s.heap a ks)(h:∀(c:am) (d:List ah) (ss:List Str),dz d ss->ss.Perm ks->d.length<4090->(∀b o,s.heap.get? b=aa o->c.heap.get? b=aa o)->c.gens=s.gens->c.os=s.os->Q d c):aq (au P w) A (collect (.ref a)) Q E s:=by
 obtain⟨r,ss,S,q,n⟩:=S.e;have m:r.size<4090:=by obtain⟨_,_,_,z,_⟩:=S;exact z
 refine Ef p S λc d pv l j i=>?_;obtain⟨t,g,f⟩:=v9 pv q;exact h c d t g (f.trans n) (by have:=pv.length_eq;simp at this;lia) l j i
end
def cC(a:List Tx):List Tx:=a.foldl (λks x=>if x∈ks then ks else ks++[x]) []
theorem zq(b:List Tx):met (λi=>(b.map tS).getD i fA) b.length=(cC b).map tS:=by
 have d:∀(l:List Tx) (a:List Tx),(l.map tS).foldl iV (a.map tS)=(l.foldl (λks x=>if x∈ks then ks else ks++[x]) a).map tS:=by
  intro l
  induction l with
  |nil=>intro a;rfl
  |cons x r g=>
   intro a;rw[mn,nW,nW];have:iV (a.map tS) (tS x)=(if x∈a then a else a++[x]).map tS:=by
    unfold iV;have f:tS x∈a.map tS↔x∈a:=by rw[gW];exact⟨λ⟨y,j,e⟩=>by rw[<-qE e];exact j,λh=>⟨x,h,rfl⟩⟩
    by_cases h:x∈a
    .rw[if_pos h,if_pos (f.mpr h)]
    .rw[if_neg h,if_neg (λz=>h (f.mp z)),yn];rfl
   rw[this,g]
 have e:(cz b.length).map (λi=>(b.map tS).getD i fA)=b.map tS:=by
  refine yt λi=>?_;rw[jE];by_cases c:i<b.length
  .rw[CY c];simp[c]
  .rw[rZ (by simpa using c),rZ (by simpa using c)];rfl
 unfold met;rw[e];exact d b []
theorem H_(l c:List Tx):(c.Nodup->(l.foldl (λks x=>if x∈ks then ks else ks++[x]) c).Nodup)/\∀x,x∈l.foldl (λks x=>if x∈ks then ks else ks++[x]) c↔x∈c\/x∈l:=by
 induction l generalizing c with
 |nil=>exact⟨λh=>h,λx=>by simp⟩
 |cons y r g=>
  rw[nW];obtain⟨m,j⟩:=g (if y∈c then c else c++[y]);refine⟨λh=>m ?_,λx=>?_⟩
  .split
   .exact h
   .rename_i d;rw[List.nodup_append];exact⟨h,by simp,λa i b f=>by simp at f;subst f;exact λe=>d (e ▸ i)⟩
  .rw[j x,bT];split
   .rename_i d;constructor
    .rintro(h|h)
     .exact .inl h
     .exact .inr (.inr h)
    .rintro(h|rfl|h)
     .exact .inl h
     .exact .inl d
     .exact .inr h
   .rw[ie,fJ,or_assoc]
theorem oW(l:List Tx)(x:Tx):x∈cC l↔x∈l:=by rw[cC,(H_ l []).2 x];simp
theorem Bq(l:List Tx):(cC l).length<=l.length:=by
 have b:∀(l a:List Tx),(l.foldl (λks x=>if x∈ks then ks else ks++[x]) a).length<=a.length+l.length:=by
  intro l
  induction l with
  |nil=>intro a;simp
  |cons x r c=>intro a;rw[nW];refine cA (c _) ?_;split <;> simp <;> lia
 simpa[cC]using b l []
section
variable{X:Cx}
def mO(X:Cx)(a:af)(b:List Tx):HO:=.ext λh=>jg X.prog X.w h a (b.map tS)
end
structure cq(K:aw)(mg:Str->Option ah)(x:Str)(st:aU):Prop where
 ex:∃f fd,mg x=aa (.ref f)/\mW K x x st f fd
theorem Bg{H:Hp}{p:af}{o:HO}(h:H p=ae):Same H (upd H p o):=λb u q=>by rw[bM (jX q h)];exact q
theorem Bh{a:Type}{xs:List a}{k:Int}(b:0<=k)(h:k.toNat<xs.length):fi xs k=aa xs[k.toNat]:=by
 have e:((k.toNat:Nat):Int)=k:=∅
 have q:=Jx (xs:=xs) (j:=k.toNat) (v:=xs[k.toNat]) (by simp[h]);rwa[e]at q
def zP(N:List Str)(d a:cN)(x:Str)(c:List Str)(b:List Nat):Bool :=
 decide (a.kind=.function)&&a.names.all (λy=>(decide (y.2≠.cell)||decide (a.names.lookup y.1=aa .cell))&&(decide (y.2≠.local)||decide (a.names.lookup y.1=aa .local))&&(decide (y.2≠.free)||decide (d.names.lookup y.1=aa .cell)||decide (d.names.lookup y.1=aa .free)))
 && (decide (a.names.lookup x=aa .local)||decide (a.names.lookup x=aa .cell))&&decide c.Nodup&&decide (c.head?=aa x)&&decide (c.length=b.length+1)&&(b.zip c.tail).all λp=>(decide (N[p.1]?=aa p.2)&&decide (a.names.lookup p.2=aa .free))||(decide (N.length<=p.1)&&decide (a.names.lookup p.2=aa .local))
theorem jY.of{X:Cx}{a:cN}{x:Str}{N':List Str}{cap:List Nat}(N:List Str)(d:cN)(l:X.N=N)(f:X.env.scope=d)(h:zP N d a x N' cap=ai):jY X a x N' cap:=by
 subst l f;simp only[zP,eB,decide_eq_true_eq,lj,vd]at h;obtain⟨⟨⟨⟨⟨⟨r,c⟩,q⟩,p⟩,o⟩,n⟩,m⟩:=h;refine⟨r,λy b e=>(c y b).1.1.elim (λz=>absurd e z) λz=>z,λy b e=>?_,q,λy b e=>?_,p,o,n,λi j y t s=>?_⟩
 .rcases(c y b).1.2 with z|z
  .exact absurd e z
  .exact z
 .rcases(c y b).2 with(z|z)|z
  .exact absurd e z
  .exact .inl z
  .exact .inr z
 .have g:(j,y)∈cap.zip N'.tail:=by
   refine List.mem_iff_getElem?.mpr ⟨i,?_⟩;rw[List.getElem?_zip_eq_some];refine⟨s,?_⟩;rw[<-List.drop_one,List.getElem?_drop,Nat.add_comm];exact t
  exact m _ g
theorem Cc(a b:Tx):cb (tV a) (tV b)=decide (a=b):=by show(tS a == tS b)=_;rw[me];simp only[beq_iff_eq,decide_eq_true_eq];exact⟨qE,λh=>by rw[h]⟩
theorem Fb(a:List Tx)(x:Tx):((cE a).countP λz=>cb z (tV x))=a.count x:=by unfold cE List.count;rw[List.countP_map];refine List.countP_congr λy _=>?_;simp only[Function.comp_apply,Cc,decide_eq_true_eq,beq_iff_eq]
end L2
namespace Pu
open L2
abbrev St:=L2.St
inductive PV where
 |non|bl (b:Bool)|int (i:Int)|str (x:Tx)|tup (xs:List PV)|lst (xs:List PV)|raw (v:V)|exc (c:ah)
def kI(a:af)(c:ah):HO:=.ext λh=>∃o b,h.get? a=aa o/\o.cls=c/\o.data=.fields b/\o.dict=ae
def cU:Nat:=1000000
theorem j0:cU<=a_:=by rw[nG];decide
def c7:HO->Prop
 |.lst _=>True
 |.dK _=>True
 |.dT _=>True
 |.dN _=>True
 |.ins _ _ _=>True
 |.own _=>True
 |_=>False
mutual
def aR(K:aw)(H:Hp)(F:af->Prop):PV->V->Prop
 |.non,v=>v=.non
 |.bl b,v=>v=.bl b
 |.int i,v=>v=.int i
 |.str x,v=>v=tV x/\x.length<=cU
 |.tup xs,v=>∃a d,v=.ref a/\H a=aa (.tup d)/\aZ K H F xs d
 |.lst xs,v=>∃a d,v=.ref a/\Rd H a (.lst d)/\F a/\aZ K H F xs d
 |.raw u,v=>v=u
 |.exc c,v=>∃a,v=.ref a/\H a=aa (kI a c)
def aZ(K:aw)(H:Hp)(F:af->Prop):List PV->List V->Prop
 |[],a=>a=[]
 |x::xs,a=>∃v r,a=v::r/\aR K H F x v/\aZ K H F xs r
end
section
variable{K:aw}{H b:Hp}{F c:af->Prop}
mutual
theorem aR.mono(i:∀a,F a->c a)(g:∀a xs,F a->Rd H a (.lst xs)->Rd b a (.lst xs))(f:∀a o,H a=aa o->¬c7 o->b a=aa o):∀(x:PV) (v:V),aR K H F x v->aR K b c x v
 |.non,_,h=>h
 |.bl _,_,h=>h
 |.int _,_,h=>h
 |.str _,_,h=>h
 |.raw _,_,h=>h
 |.exc _,_,⟨a,e,h⟩=>⟨a,e,f a _ h id⟩
 |.tup xs,_,⟨a,d,e,l,j⟩=>⟨a,d,e,f a _ l id,aZ.mono i g f xs d j⟩
 |.lst xs,_,⟨a,d,e,l,m,j⟩=>⟨a,d,e,g a d m l,i a m,aZ.mono i g f xs d j⟩
theorem aZ.mono(i:∀a,F a->c a)(g:∀a xs,F a->Rd H a (.lst xs)->Rd b a (.lst xs))(f:∀a o,H a=aa o->¬c7 o->b a=aa o):∀(xs:List PV) (d:List V),aZ K H F xs d->aZ K b c xs d
 |[],_,h=>h
 |x::xs,_,⟨v,r,e,l,j⟩=>⟨v,r,e,aR.mono i g f x v l,aZ.mono i g f xs r j⟩
end
theorem aZ.len:∀{xs:List PV}{vs:List V},aZ K H F xs vs->vs.length=xs.length
 |[],_,h=>by rw[show _=[] from h];rfl
 |_::_,_,⟨_,_,e,_,a⟩=>by rw[e,gf,gf,aZ.len a]
theorem aZ.get:∀{xs:List PV}{c:List V}{i:Nat}{x:PV},aZ K H F xs c->xs[i]?=aa x->∃v,c[i]?=aa v/\aR K H F x v
 |[],_,_,_,_,e=>by simp at e
 |x::xs,_,0,y,⟨v,r,e,h1,_⟩,q=>by simp at q;subst q;subst e;exact⟨v,rfl,h1⟩
 |x::xs,_,i+1,y,⟨v,r,e,_,h2⟩,q=>by obtain⟨w,a,b⟩:=aZ.get (i:=i) (x:=y) h2 (by simpa using q);subst e;exact⟨w,by simpa using a,b⟩
theorem aZ.back:∀{xs:List PV}{c:List V}{i:Nat}{v:V},aZ K H F xs c->c[i]?=aa v->∃x,xs[i]?=aa x/\aR K H F x v
 |[],_,_,_,h,e=>by rw[show _=[] from h]at e;simp at e
 |x::xs,_,0,y,⟨v,r,e,h1,_⟩,q=>by subst e;simp at q;subst q;exact⟨x,rfl,h1⟩
 |x::xs,_,i+1,y,⟨v,r,e,_,h2⟩,q=>by subst e;obtain⟨w,a,b⟩:=aZ.back (i:=i) (v:=y) h2 (by simpa using q);exact⟨w,by simpa using a,b⟩
theorem aZ.app:∀{xs a:List PV}{c b:List V},aZ K H F xs c->aZ K H F a b->aZ K H F (xs++a) (c++b)
 |[],_,_,_,h,g=>by rw[show _=[] from h];exact g
 |x::xs,_,_,_,⟨v,r,e,f,d⟩,g=>by subst e;exact⟨v,_,rfl,f,aZ.app d g⟩
theorem aZ.one{x:PV}{v:V}(h:aR K H F x v):aZ K H F [x] [v]:=⟨v,[],rfl,h,rfl⟩
theorem aZ.drop:∀(n:Nat) {xs:List PV}{a:List V},aZ K H F xs a->aZ K H F (xs.drop n) (a.drop n)
 |0,_,_,h=>h
 |_+1,[],_,h=>by rw[show _=[] from h];rfl
 |n+1,_::_,_,⟨_,_,e,_,h2⟩=>by subst e;exact aZ.drop n h2
theorem aZ.take:∀(n:Nat) {xs:List PV}{a:List V},aZ K H F xs a->aZ K H F (xs.take n) (a.take n)
 |0,_,_,_=>by rw[yv,yv];rfl
 |_+1,[],_,h=>by rw[show _=[] from h];rfl
 |n+1,_::_,_,⟨v,_,e,h1,h2⟩=>by subst e;exact⟨v,_,rfl,h1,aZ.take n h2⟩
theorem aZ.set{x:PV}{v:V}(b:aR K H F x v):∀(n:Nat) {xs:List PV}{a:List V},aZ K H F xs a->aZ K H F (xs.set n x) (a.set n v)
 |_,[],_,h=>by rw[show _=[] from h];rfl
 |0,_::_,_,⟨_,r,e,_,h2⟩=>by subst e;exact⟨v,r,rfl,b,h2⟩
 |n+1,_::_,_,⟨w,_,e,h1,h2⟩=>by subst e;exact⟨w,_,rfl,h1,aZ.set b n h2⟩
end
structure bf(O O' F F':af->Prop)(H H':Hp):Prop where
 fro:∀a,F a->F' a
 keep:∀b o,H b=aa o->¬O b->H' b=aa o
 there:∀b o,H b=aa o->∃o',H' b=aa o'
 fnew:∀a,F' a->F a\/H a=ae\/O a
 onew:∀a,O' a->O a\/H a=ae
theorem bf.refl(O F:af->Prop)(H:Hp):bf O O F F H H:=⟨λ_ h=>h,λ_ _ h _=>h,λ_ o h=>⟨o,h⟩,λ_ h=>.inl h,λ_ h=>.inl h⟩
theorem bf.trans{O i f F m l:af->Prop}{H d j:Hp}(g:bf O i F m H d)(k:bf i f m l d j):bf O f F l H j where
 fro:=λa h=>k.fro a (g.fro a h)
 keep:=λb o h n=>k.keep b o (g.keep b o h n) λz=>(g.onew b z).elim n λq=>by rw[q]at h;cases h
 there:=λb o h=>let ⟨o',c⟩:=g.there b o h;k.there b o' c
 fnew:=λa h=>by
  have back:d a=ae->H a=ae\/O a:=λz=>by
   cases q:H a with
   |none=>exact .inl rfl
   |some o=>obtain⟨o',c⟩:=g.there a o q;rw[z]at c;cases c
  rcases k.fnew a h with z|z|z
  .exact g.fnew a z
  .exact .inr (back z)
  .exact .inr ((g.onew a z).symm)
 onew:=λa h=>by
  rcases k.onew a h with z|z
  .exact g.onew a z
  .cases q:H a with
   |none=>exact .inr rfl
   |some o=>obtain⟨o',c⟩:=g.there a o q;rw[z]at c;cases c
def Fit(O F:af->Prop)(H:Hp):Prop:=∀b,O b->¬F b/\∃o,H b=aa o/\c7 o
section
variable{K:aw}{O d F c:af->Prop}{H b:Hp}
theorem bf.imm(g:bf O d F c H b)(f:Fit O F H){a:af}{o:HO}(h:H a=aa o)(n:¬c7 o):b a=aa o :=
 g.keep _ _ h λz=>by
  obtain⟨_,l,i,j⟩:=f a z;rw[h]at i;cases i;exact n j
theorem bf.lst(g:bf O d F c H b)(f:Fit O F H){a:af}{xs:List V}(i:F a)(h:Rd H a (.lst xs)):Rd b a (.lst xs):=by
 have no:¬O a:=λz=>(f a z).1 i;rcases h with h|⟨o,h⟩
 .exact .inl (g.keep _ _ h no)
 .exact .inr ⟨o,g.keep _ _ h no⟩
theorem aR.grow(g:bf O d F c H b)(f:Fit O F H){x:PV}{v:V}(h:aR K H F x v):aR K b c x v:=aR.mono g.fro (λ_ _ a q=>g.lst f a q) (λ_ _ q n=>g.imm f q n) x v h
theorem aZ.grow(g:bf O d F c H b)(f:Fit O F H){x:List PV}{v:List V}(h:aZ K H F x v):aZ K b c x v:=aZ.mono g.fro (λ_ _ a q=>g.lst f a q) (λ_ _ q n=>g.imm f q n) x v h
end
theorem _root_.L2.Same.rd{H b:Hp}{a:af}{u:HO}(e:Same H b)(h:Rd H a u):Rd b a u:=h.elim (λz=>.inl (e _ _ z)) λ⟨o,z⟩=>.inr ⟨o,e _ _ z⟩
structure Al(F F':af->Prop)(H H':Hp):Prop where
 fro:∀a,F a->F' a
 same:Same H H'
 fnew:∀a,F' a->F a\/(H a=ae/\∃o,H' a=aa o)
theorem Al.refl(F:af->Prop)(H:Hp):Al F F H H:=⟨λ_ h=>h,Same.refl H,λ_ h=>.inl h⟩
theorem Al.grow{F d O:af->Prop}{H c:Hp}(a:Al F d H c):bf O O F d H c :=⟨a.fro,λb o h _=>a.same b o h,λb o h=>⟨o,a.same b o h⟩,λb h=>(a.fnew b h).imp id λz=>.inl z.1,λ_ h=>.inl h⟩
theorem Al.rep{K:aw}{F c:af->Prop}{H b:Hp}(a:Al F c H b){x:PV}{v:V}(h:aR K H F x v):aR K b c x v:=aR.mono a.fro (λ_ _ _ q=>a.same.rd q) (λ_ _ q _=>a.same _ _ q) x v h
theorem Al.reps{K:aw}{F c:af->Prop}{H b:Hp}(a:Al F c H b){x:List PV}{v:List V}(h:aZ K H F x v):aZ K b c x v:=aZ.mono a.fro (λ_ _ _ q=>a.same.rd q) (λ_ _ q _=>a.same _ _ q) x v h
theorem Al.trans{F i g:af->Prop}{H f d:Hp}(a:Al F i H f)(b:Al i g f d):Al F g H d :=
 ⟨λc h=>b.fro c (a.fro c h),a.same.trans b.same,λc h=>by
  rcases b.fnew c h with z|⟨z,w⟩
  .rcases a.fnew c z with y|⟨y,o,q⟩
   .exact .inl y
   .exact .inr ⟨y,o,b.same _ _ q⟩
  .exact .inr ⟨a.same.free z,w⟩⟩
theorem Al.new{F:af->Prop}{H:Hp}{l:af}{o:HO}(h:H l=ae):Al F (λa=>F a\/a=l) H (upd H l o) :=⟨λ_ h=>.inl h,Bg h,λa z=>z.imp id λe=>by subst e;exact⟨h,o,cI⟩⟩
theorem Al.new0{F:af->Prop}{H:Hp}{l:af}{o:HO}(h:H l=ae):Al F F H (upd H l o):=⟨λ_ h=>h,Bg h,λa z=>.inl z⟩
inductive PO where
 |lst (xs:List PV)|dK (kvs:List (bR×PV))|lls (i5:List (List PV))|ins (C:af) (fs:List (Str×PV))|dT (kvs:List (List bR×PV))|dN (kvs:List ((Tx×List Tx)×PV))|inl (C:af) (fs:List (Str×PV)) (y:Str) (xs:List PV)
def fW:PO->Bool
 |.lls _=>aj
 |.inl ..=>aj
 |_=>ai
inductive Slot where
 |none|val (v:PV)|own (o:PO)
abbrev ak:=List Slot
def uO(K:aw)(H:Hp)(F:af->Prop)(a:List (bR×PV))(b:List (bR×V)):Prop:=jx (λ(p:bR×PV) (q:bR×V)=>p.1=q.1/\aR K H F p.2 q.2) a b
def qK(K:aw)(H:Hp)(F:af->Prop)(fs:List (Str×PV))(a:List (Str×V)):Prop:=jx (λ(p:Str×PV) (q:Str×V)=>p.1=q.1/\aR K H F p.2 q.2) fs a
def uD(K:aw)(H:Hp)(F:af->Prop)(a:List (List bR×PV))(b:List (List bR×V)):Prop:=jx (λ(p:List bR×PV) (q:List bR×V)=>p.1=q.1/\aR K H F p.2 q.2) a b
def nS(k:Tx×List Tx):Str×List Str:=(tS k.1,k.2.map tS)
def j6(K:aw)(H:Hp)(F:af->Prop)(a:List ((Tx×List Tx)×PV))(b:List ((Str×List Str)×V)):Prop:=jx (λ(p:(Tx×List Tx)×PV) (q:(Str×List Str)×V)=>nS p.1=q.1/\aR K H F p.2 q.2) a b
def uL(K:aw)(H:Hp)(F:af->Prop)(c:List (List PV))(d:List af):Prop:=jx (λ(xs:List PV) (b:af)=>∃a,H b=aa (.lst a)/\aZ K H F xs a) c d
def ef(K:aw)(H:Hp)(F:af->Prop)(j:PO)(a:af)(S:af->Prop):Prop :=
 match j with
 |.lst xs=>(∃g,H a=aa (.lst g)/\aZ K H F xs g)/\∀b,S b↔b=a
 |.dK f=>(∃d,H a=aa (.dK d)/\uO K H F f d)/\∀b,S b↔b=a
 |.lls l=>∃h,H a=aa (.lst (h.map .ref))/\uL K H F l h/\h.Nodup/\a∉h/\∀b,S b↔b=a\/b∈h
 |.ins C fs=>(∃i d,H a=aa (.ins C i d)/\qK K H F fs d)/\∀b,S b↔b=a
 |.dT f=>(∃d,H a=aa (.dT d)/\uD K H F f d)/\∀b,S b↔b=a
 |.dN f=>(∃d,H a=aa (.dN d)/\j6 K H F f d)/\∀b,S b↔b=a
 |.inl C fs y xs=>∃i d b g,H a=aa (.ins C i (d++[(y,.ref b)]))/\qK K H F fs d/\fs.lookup y=ae/\H b=aa (.lst g)/\aZ K H F xs g/\a≠b/\∀c,S c↔c=a\/c=b
structure aO(K:aw)(F:af->Prop)(S:Nat->af->Prop)(ε:ak)(σ:St)(H:Hp):Prop where
 len:ε.length=σ.length
 ex:∀a,F a->∃o,H a=aa o
 val:∀(i:Nat) (pv:PV),ε[i]?=aa (.val pv)->∃v,σ[i]?=aa (aa v)/\aR K H F pv v
 own:∀(i:Nat) (po:PO),ε[i]?=aa (.own po)->∃a,σ[i]?=aa (aa (.ref a))/\ef K H F po a (S i)
 foot:∀(i:Nat) (b:af),S i b->(∃po,ε[i]?=aa (.own po))/\¬F b/\∃o,H b=aa o/\c7 o
 dist:∀(i j:Nat) (b:af),S i b->S j b->i=j
def U(S:Nat->af->Prop)(b:af):Prop:=∃i,S i b
section
variable{K:aw}{F f:af->Prop}{S:Nat->af->Prop}{j:ak}{g:St}{H d:Hp}
theorem aO.fit(r:aO K F S j g H):Fit (U S) F H:=λb ⟨i,h⟩=>(r.foot i b h).2
theorem uO.mono{a:List (bR×PV)}{b:List (bR×V)}(i:∀x v,aR K H F x v->aR K d f x v)(h:uO K H F a b):uO K d f a b:=by
 unfold uO at h ⊢
 induction h with
 |nil=>exact .nil
 |cons r _ c=>exact .cons ⟨r.1,i _ _ r.2⟩ c
theorem qK.mono{fs:List (Str×PV)}{a:List (Str×V)}(c:∀x v,aR K H F x v->aR K d f x v)(h:qK K H F fs a):qK K d f fs a:=by
 unfold qK at h ⊢
 induction h with
 |nil=>exact .nil
 |cons r _ b=>exact .cons ⟨r.1,c _ _ r.2⟩ b
theorem uD.mono{a:List (List bR×PV)}{b:List (List bR×V)}(i:∀x v,aR K H F x v->aR K d f x v)(h:uD K H F a b):uD K d f a b:=by
 unfold uD at h ⊢
 induction h with
 |nil=>exact .nil
 |cons r _ c=>exact .cons ⟨r.1,i _ _ r.2⟩ c
theorem j6.mono{a:List ((Tx×List Tx)×PV)}{b:List ((Str×List Str)×V)}(i:∀x v,aR K H F x v->aR K d f x v)(h:j6 K H F a b):j6 K d f a b:=by
 unfold j6 at h ⊢
 induction h with
 |nil=>exact .nil
 |cons r _ c=>exact .cons ⟨r.1,i _ _ r.2⟩ c
theorem uL.mono{c:List (List PV)}{a:List af}(m:∀x v,aZ K H F x v->aZ K d f x v)(i:∀b o,b∈a->H b=aa o->d b=aa o)(h:uL K H F c a):uL K d f c a:=by
 unfold uL at h ⊢
 induction h with
 |nil=>exact .nil
 |cons r _ n=>obtain⟨l,s,q⟩:=r;exact .cons ⟨l,i _ _ (by simp) s,m _ _ q⟩ (n λb o p=>i b o (by simp[p]))
theorem ef.mono{s:PO}{a:af}{u:af->Prop}(m:∀x v,aR K H F x v->aR K d f x v)(r:∀x v,aZ K H F x v->aZ K d f x v)(i:∀b o,u b->H b=aa o->d b=aa o)(h:ef K H F s a u):ef K d f s a u:=by
 cases s with
 |lst xs=>obtain⟨⟨p,e,q⟩,w⟩:=h;exact⟨⟨p,i a _ ((w a).mpr rfl) e,r _ _ q⟩,w⟩
 |dK l=>obtain⟨⟨c,e,q⟩,w⟩:=h;exact⟨⟨c,i a _ ((w a).mpr rfl) e,q.mono m⟩,w⟩
 |lls J=>obtain⟨I,e,q,D,B,w⟩:=h;exact⟨I,i a _ ((w a).mpr (.inl rfl)) e,q.mono r λb o E=>i b o ((w b).mpr (.inr E)),D,B,w⟩
 |ins C fs=>obtain⟨⟨t,c,e,q⟩,w⟩:=h;exact⟨⟨t,c,i a _ ((w a).mpr rfl) e,q.mono m⟩,w⟩
 |dT l=>obtain⟨⟨c,e,q⟩,w⟩:=h;exact⟨⟨c,i a _ ((w a).mpr rfl) e,q.mono m⟩,w⟩
 |dN l=>obtain⟨⟨c,e,q⟩,w⟩:=h;exact⟨⟨c,i a _ ((w a).mpr rfl) e,q.mono m⟩,w⟩
 |inl C fs y xs=>obtain⟨t,c,b,p,e,q,n,G,z,A,w⟩:=h;exact⟨t,c,b,p,i a _ ((w a).mpr (.inl rfl)) e,q.mono m,n,i b _ ((w b).mpr (.inr rfl)) G,r _ _ z,A,w⟩
theorem aO.al(r:aO K F S j g H)(a:Al F f H d):aO K f S j g d where
 len:=r.len
 ex:=λb h=>(a.fnew b h).elim (λz=>let ⟨o,q⟩:=r.ex b z;⟨o,a.same _ _ q⟩) λz=>z.2
 val:=λi pv e=>let ⟨v,m,l⟩:=r.val i pv e;⟨v,m,a.rep l⟩
 own:=λi p e=>let ⟨b,m,l⟩:=r.own i p e;⟨b,m,l.mono (λ_ _ q=>a.rep q) (λ_ _ q=>a.reps q) λc o _ q=>a.same _ _ q⟩
 foot:=λi b h=>by
  obtain⟨m,l,o,n,s⟩:=r.foot i b h;refine⟨m,λz=>?_,o,a.same _ _ n,s⟩;rcases a.fnew b z with y|⟨y,_⟩
  .exact l y
  .rw[n]at y;cases y
 dist:=r.dist
end
inductive R(α:Type) where
 |ok (a:α) (ε:ak)|er (c:ah) (ε:ak)|no
def R.bind{f d:Type}(r:R f)(k:f->ak->R d):R d:=match r with
 |.ok a b=>k a b
 |.er c b=>.er c b
 |.no=>.no
def aW{b:Type}(o:Option b)(c:ak):R b:=match o with
 |some a=>.ok a c
 |none=>.no
@[simp] theorem R.bind_ok{c d:Type}(a:c)(b:ak)(k:c->ak->R d):(R.ok a b).bind k=k a b:=rfl
@[simp] theorem R.bind_er{b d:Type}(c:ah)(a:ak)(k:b->ak->R d):(R.er c a:R b).bind k=.er c a:=rfl
@[simp] theorem R.bind_no{a b:Type}(k:a->ak->R b):(R.no:R a).bind k=.no:=rfl
@[simp] theorem dP{c:Type}(a:c)(b:ak):aW (aa a) b=.ok a b:=rfl
@[simp] theorem Mh{b:Type}(a:ak):aW (ae:Option b) a=.no:=rfl
def Ok(K:aw)(E:XK)(h:St)(F:af->Prop)(S:Nat->af->Prop)(H:Hp){i:Type}(r:R i)(C:i->ak->(af->Prop)->(Nat->af->Prop)->Hp->Prop):Prop:=match r with
 |.ok a b=>∀g f d,aO K g f b h d->bf (U S) (U f) F g H d->C a b g f d
 |.er c b=>∀x g f d,aO K g f b h d->bf (U S) (U f) F g H d->E c x d
 |.no=>False
section
variable{K:aw}{E:XK}{b:St}{F:af->Prop}{S:Nat->af->Prop}{H:Hp}{d i:Type}{C C':d->ak->(af->Prop)->(Nat->af->Prop)->Hp->Prop}{D:i->ak->(af->Prop)->(Nat->af->Prop)->Hp->Prop}
theorem Ok.imp{r:R d}(h:Ok K E b F S H r C)(f:∀a j n l m,aO K n l j b m->bf (U S) (U l) F n H m->C a j n l m->C' a j n l m):Ok K E b F S H r C':=by
 cases r with
 |ok a j=>exact λn l m r g=>f a j n l m r g (h n l m r g)
 |er c j=>exact h
 |no=>exact h
theorem Ok.from{r:R i}{q:af->Prop}{o:Nat->af->Prop}{p:Hp}(h:Ok K E b F S H r D)(g:bf (U S) (U o) F q H p):Ok K E b q o p r D:=by
 cases r with
 |ok a f=>exact λn l m j g'=>h n l m j (g.trans g')
 |er c f=>exact λx n l m j g'=>h x n l m j (g.trans g')
 |no=>exact h
theorem Ok.bind{r:R d}{k:d->ak->R i}(h:Ok K E b F S H (r.bind k) D):Ok K E b F S H r (λa ε1 m j l=>Ok K E b m j l (k a ε1) D):=by
 cases r with
 |ok a f=>exact λp n o r g=>Ok.from h g
 |er c f=>exact h
 |no=>exact h
end
structure Bx(p:Prop):Prop where
 run:p
def iO(X:Cx)(e:aA):TE:=λa H Q=>Bx (∀b s,Inv X b a H s->aq (au X.prog X.w) X.A (aM e X.env) (EP X b a Q) X.xe s)
def vK(X:Cx)(e:aA):TT:=λa H Q=>Bx (∀b s,Inv X b a H s->aq (au X.prog X.w) X.A (k6 e X.env (aM e X.env)) (TP X b a Q) X.xe s)
def wpS(X:Cx)(c:aU):TS:=λD b H=>Bx (∀a s,Inv X a b H s->aq (au X.prog X.w) X.A (exec c X.env) (SP X a D) X.xe s)
def ng(X:Cx)(c:List aU):TS:=λD b H=>Bx (∀a s,Inv X a b H s->aq (au X.prog X.w) X.A (execs c X.env) (SP X a D) X.xe s)
section
variable{X:Cx}{e:aA}{b:aU}{a:List aU}
theorem bp:PE X e (iO X e):=λc s _ _ _ I h=>h.run c s I
theorem lS:PT X e (vK X e):=λc s _ _ _ I h=>h.run c s I
theorem zR:PS X b (wpS X b):=λc s _ _ _ I h=>h.run c s I
theorem qW:j7 X a (ng X a):=λc s _ _ _ I h=>h.run c s I
theorem bO{t:TE}(h:PE X e t){c:St}{H:Hp}{Q:VK}(q:t c H Q):iO X e c H Q:=⟨λd s I=>h d s c H Q I q⟩
theorem rk{t:TT}(h:PT X e t){c:St}{H:Hp}{Q:Bool->Hp->Prop}(q:t c H Q):vK X e c H Q:=⟨λd s I=>h d s c H Q I q⟩
theorem jc{t:TS}(h:PS X b t){c:St}{H:Hp}{D:j4}(q:t D c H):wpS X b D c H:=⟨λd s I=>h d s c H D I q⟩
theorem xh{t:TS}(h:j7 X a t){c:St}{H:Hp}{D:j4}(q:t D c H):ng X a D c H:=⟨λd s I=>h d s c H D I q⟩
end
def DE(X:Cx)(E:XK)(e:aA)(d:ak->R PV):Prop :=
 ∀F S b a H Q,aO X.K F S b a H->Ok X.K E a F S H (d b) (λpv _ f _ c=>∀v,aR X.K c f pv v->Q v c)->iO X e a H Q
def DN(X:Cx)(E:XK)(e:aA)(d:ak->R PO):Prop :=
 ∀F S g c H Q,aO X.K F S g c H->Ok X.K E c F S H (d g) (λj _ i l f=>∀a h,ef X.K f i j a h->(∀b,h b->H b=ae/\¬i b/\¬U l b/\∃o,f b=aa o/\c7 o)->Q (.ref a) f)->iO X e c H Q
def DT(X:Cx)(E:XK)(e:aA)(d:ak->R Bool):Prop :=
 ∀F S c a H Q,aO X.K F S c a H->Ok X.K E a F S H (d c) (λb _ _ _ f=>Q b f)->vK X e a H Q
end Pu
namespace Pu
open L2
section
variable{X:Cx}{E:XK}{a b c:aA}{m db o:ak->R PV}{pos:Pos}
def dC(pv:PV):ak->R PV:=λε=>.ok pv ε
theorem aY{i j pos}:DE X E (.Constant (.int i) j pos) (dC (.int i)):=λF S f d H Q r h=>bO KR (h F S H r (bf.refl ..) _ rfl)
theorem j3{i j pos}:DE X E (.Constant (.bool i) j pos) (dC (.bl i)):=λF S f d H Q r h=>bO Iv (h F S H r (bf.refl ..) _ rfl)
theorem yY{j pos}:DE X E (.Constant .none j pos) (dC .non):=λF S f d H Q r h=>bO II (h F S H r (bf.refl ..) _ rfl)
theorem dG(l:Tx){x:Str}{j pos}(d:x=tS l:=by decide +kernel)(f:l.length<=cU:=by decide):DE X E (.Constant (.str x) j pos) (dC (.str l)):=λF S i g H Q r h=>bO Hq (h F S H r (bf.refl ..) _ (by rw[d];exact⟨rfl,f⟩))
def dV(i:Nat):ak->R PV:=λε=>match ε[i]? with
 |some (.val pv)=>.ok pv ε
 |_=>.no
theorem ar(i:Nat){x:Str}{pos:Pos}(g:X.N[i]?=aa x:=by rfl)(d:fN X.env.scope x:=by eq_refl)(f:(x==("__debug__":Str))=aj:=by decide)(n:(x==("__classdict__":Str))=aj:=by decide):DE X E (.Name x pos) (dV i):=λF S s q H Q r h=>by
 unfold dV at h;split at h
 .rename_i p e;obtain⟨v,l,j⟩:=r.val i p e;exact bO (ix g d f n) ⟨v,l,h F S H r (bf.refl ..) v j⟩
 .exact h.elim
theorem xz{x:Str}{i:Int}{pos:Pos}(h:∃t,X.mg x=aa (.int i t))(d:Gl X x:=by rfl)(f:(x==("__debug__":Str))=aj:=by decide):DE X E (.Name x pos) (dC (.int i)):=λF S j g H Q r q=>by obtain⟨t,e⟩:=h;exact bO (wN (v:=.int i) d e ⟨t,rfl⟩ f) (q F S H r (bf.refl ..) _ rfl)
theorem B3{x:Str}{l:Tx}{pos:Pos}(h:∃t,X.mg x=aa (.str (tS l) t))(f:Gl X x:=by rfl)(d:l.length<=cU:=by decide)(g:(x==("__debug__":Str))=aj:=by decide):DE X E (.Name x pos) (dC (.str l)):=λF S j i H Q r q=>by obtain⟨t,e⟩:=h;exact bO (wN (v:=tV l) f e ⟨t,rfl⟩ g) (q F S H r (bf.refl ..) _ ⟨rfl,d⟩)
def P2(K:aw)(r:R2)(f:PV->PV->Option PV):Prop:=∀(F:af->Prop) (H:Hp) (x y:PV) (v u:V) (Q:VK) (pv:PV),aR K H F x v->aR K H F y u->f x y=aa pv->(∀w g d,Al F g H d->aR K d g pv w->Q w d)->r v u H Q
def d2(f:PV->PV->Option PV)(m db:ak->R PV):ak->R PV:=λε=>(m ε).bind λx ε1=>(db ε1).bind λy d=>aW (f x y) d
theorem uF{r:R2}{f:PV->PV->Option PV}(G:P2 X.K r f)(J:DE X E a m)(I:DE X E b db){F:af->Prop}{S:Nat->af->Prop}{l:ak}{d:St}{H:Hp}{Q:VK}(C:aO X.K F S l d H)(h:Ok X.K E d F S H (d2 f m db l) (λpv _ s _ i=>∀v,aR X.K i s pv v->Q v i)):iO X a d H λx q=>iO X b d q λy p=>r x y p Q:=by
 refine J F S l d H _ C ((Ok.bind h).imp λx j P N q t T K v A=>?_);refine I P N j d q _ t ((Ok.bind K).imp λy z O M p D L g u B=>?_);cases e:f x y with
 |none=>rw[e]at g;exact g.elim
 |some pv=>rw[e]at g;exact G O p x y v u Q pv (A.grow L t.fit) B e λw s i al n=>g s M i (D.al al) al.grow w n
theorem b8{d:Operator}{r:R2}{f:PV->PV->Option PV}(j:bF X (gT d) r)(i:P2 X.K r f)(n:DE X E a m)(l:DE X E b db):DE X E (.BinOp a d b pos) (d2 f m db):=λF S q p H Q g h=>bO (DH j bp bp) (uF i n l g h)
theorem q_{d:CmpOp}{r:R2}{f:PV->PV->Option PV}(j:bF X (c9 d) r)(i:P2 X.K r f)(p:DE X E a m)(n:DE X E b db)(l:nE d b=aj):DE X E (.Compare a [d] [b] pos) (d2 f m db):=λF S s q H Q g h=>bO (JA j bp bp l) (uF i p n g h)
def lJ:PV->Option Bool
 |.bl b=>aa b
 |_=>ae
def dB(d:ak->R PV):ak->R Bool:=λε=>(d ε).bind λx ε1=>aW (lJ x) ε1
theorem B7{K:aw}{H:Hp}{F:af->Prop}{x:PV}{v:V}{k:Bool}(h:aR K H F x v)(e:lJ x=aa k):v=.bl k:=by
 cases x <;> simp[lJ]at e;subst e;exact h
theorem qk{F:af->Prop}{S:Nat->af->Prop}{j:ak}{i:St}{H:Hp}{Q:Bool->Hp->Prop}{d:ak->R PV}(h:Ok X.K E i F S H (dB d j) (λk _ _ _ g=>Q k g)):Ok X.K E i F S H (d j) (λpv _ t _ g=>∀v,aR X.K g t pv v->∃k,v=.bl k/\Q k g):=by
 refine(Ok.bind h).imp λx l s q r p u f v n=>?_;cases e:lJ x with
 |none=>rw[e]at f;exact f.elim
 |some k=>rw[e]at f;exact⟨k,B7 n e,f s q r p (bf.refl ..)⟩
theorem g9{d:CmpOp}{r:R2}{f:PV->PV->Option PV}(j:bF X (c9 d) r)(i:P2 X.K r f)(p:DE X E a m)(n:DE X E b db)(l:nE d b=aj):DT X E (.Compare a [d] [b] pos) (dB (d2 f m db)):=λF S t s H Q g h=>rk (Gp j bp bp l) (uF (Q:=λx q=>∃k,x=.bl k/\Q k q) i p n g (qk h))
theorem l8{e:aA}{d:ak->R PV}(n:DE X E e d)(l:∀f,k6 e X.env f=(do let v <-f;standAt e.pos;k8 [v] (truthy v)):=by intro _;rfl):DT X E e (dB d):=λF S i g H Q j h=>rk (JH bp l) (n F S i g H _ j (qk h))
def m_(f g:PV->PV->Option PV)(m db o:ak->R PV):ak->R PV:=λj=>(m j).bind λx i=>(db i).bind λy d=>(aW ((f x y).bind lJ) d).bind λk d=>
 match k with
 |true=>(o d).bind λz h=>aW (g y z) h
 |false=>.ok (.bl aj) d
theorem BU{r N:R2}{f g:PV->PV->Option PV}(hp:P2 X.K r f)(eE:P2 X.K N g)(ha:DE X E a m)(hb:DE X E b db)(hc:DE X E c o){F:af->Prop}{S:Nat->af->Prop}{A:ak}{j:St}{H:Hp}{Q:VK}(rl:aO X.K F S A j H)(h:Ok X.K E j F S H (m_ f g m db o A) (λpv _ l _ i=>∀v,aR X.K i l pv v->Q v i)):vV r N (iO X a) (iO X b) (iO X c) j H Q:=by
 refine ha F S A j H _ rl ((Ok.bind h).imp λx t F1 S1 H1 M g1 h1 v Z=>?_);refine hb F1 S1 t j H1 _ M ((Ok.bind h1).imp λy n P K O r2 g2 d u L=>?_);cases e:f x y with
 |none=>rw[e]at d;exact d.elim
 |some pv=>
  rw[e]at d;refine hp P O x y v u _ pv (Z.grow g2 M.fit) L e λw l i al C=>?_;cases J:lJ pv with
  |none=>rw[gh,J]at d;exact d.elim
  |some k=>
   rw[gh,J]at d;refine⟨k,B7 C J,?_⟩;have G:=r2.al al;cases k with
   |false=>exact mT (Ok.from d al.grow l K i G (bf.refl ..) _ rfl)
   |true=>
    have h3:Ok X.K E j P K O ((o n).bind λz s=>aW (g y z) s) (λpv _ l _ i=>∀v,aR X.K i l pv v->Q v i):=d;refine nr (hc l K n j i _ G ((Ok.bind (Ok.from h3 al.grow)).imp λz T F4 S4 H4 r4 g4 q Y D=>?_));cases I:g y z with
    |none=>rw[I]at q;exact q.elim
    |some pz=>rw[I]at q;exact eE F4 H4 y z u Y Q pz ((al.rep L).grow g4 G.fit) D I λW F5 H5 p B=>q F5 S4 H5 (r4.al p) p.grow W B
theorem Cb{i d:CmpOp}{r j:R2}{f g:PV->PV->Option PV}(q:bF X (c9 i) r)(n:bF X (c9 d) j)(p:P2 X.K r f)(w:P2 X.K j g)(v:DE X E a m)(u:DE X E b db)(t:DE X E c o)(s:lastMarks [i,d] [b,c]=aj:=by with_unfolding_all rfl):DE X E (.Compare a [i,d] [b,c] pos) (m_ f g m db o):=λF S y x H Q l h=>bO (IE q n bp bp bp s) (BU p w v u t l h)
theorem E2{i d:CmpOp}{r j:R2}{f g:PV->PV->Option PV}(q:bF X (c9 i) r)(n:bF X (c9 d) j)(p:P2 X.K r f)(w:P2 X.K j g)(v:DE X E a m)(u:DE X E b db)(t:DE X E c o)(s:lastMarks [i,d] [b,c]=aj:=by with_unfolding_all rfl):DT X E (.Compare a [i,d] [b,c] pos) (dB (m_ f g m db o)):=λF S A z H Q l h=>rk (Ja q n bp bp bp s) (BU (Q:=λx y=>∃k,x=.bl k/\Q k y) p w v u t l (qk h))
variable{n A:ak->R Bool}{rest:List aA}
def DW(X:Cx)(E:XK)(e:aA)(d:ak->R Bool):Prop:=∀F S g f H Q,aO X.K F S g f H->Ok X.K E f F S H (d g) (λb _ _ _ i=>Q b i)->∀(h:Sem ah) ag s,Inv X ag f H s->aq (au X.prog X.w) X.A (k6 e X.env h) (TP X ag f Q) X.xe s
def FA(X:Cx)(e:aA):TT:=λd H Q=>∀(f:Sem ah) ag s,Inv X ag d H s->aq (au X.prog X.w) X.A (k6 e X.env f) (TP X ag d Q) X.xe s
theorem BX{e:aA}:PW X e (FA X e):=λd f s _ _ _ I h=>h d f s I
theorem DW.dt{e:aA}{d:ak->R Bool}(h:DW X E e d):DT X E e d:=λF S ε f H Q g q=>⟨λi s I=>h F S ε f H Q g q _ i s I⟩
def qr(n A:ak->R Bool):ak->R Bool:=λf=>(n f).bind λk d=>match k with
 |true=>A d
 |false=>.ok aj d
def mI(n A:ak->R Bool):ak->R Bool:=λf=>(n f).bind λk d=>match k with
 |true=>.ok ai d
 |false=>A d
def jT(n:ak->R Bool):ak->R Bool:=λf=>(n f).bind λk d=>.ok (!k) d
theorem D8(h:DT X E a n):DW X E (.BoolOp .And [a] pos) n:=λF S f d H Q g q i j s I=>Iu lS i j s d H Q I (h F S f d H Q g q)
theorem qp(h:DT X E a n):DW X E (.BoolOp .Or [a] pos) n:=λF S f d H Q g q i j s I=>Hd lS i j s d H Q I (h F S f d H Q g q)
theorem GO(u:DT X E a n)(t:DW X E (.BoolOp .And (b::rest) pos) A):DW X E (.BoolOp .And (a::b::rest) pos) (qr n A):=λF S p d H Q r q v w s I=>by
 refine G0 lS BX v w s d H Q I (u F S p d H _ r ((Ok.bind q).imp λk f l i j g x h=>?_));cases k with
 |true=>exact nr (t l i f d j Q g h)
 |false=>exact mT (h l i j g (bf.refl ..))
theorem qu(u:DT X E a n)(t:DW X E (.BoolOp .Or (b::rest) pos) A):DW X E (.BoolOp .Or (a::b::rest) pos) (mI n A):=λF S p d H Q r q v w s I=>by
 refine ID lS BX v w s d H Q I (u F S p d H _ r ((Ok.bind q).imp λk f l i j g x h=>?_));cases k with
 |true=>exact nr (h l i j g (bf.refl ..))
 |false=>exact mT (t l i f d j Q g h)
theorem lP(j:DT X E a n):DT X E (.UnaryOp .Not a pos) (jT n):=λF S g d H Q h q=>rk (Fj lS) (j F S g d H _ h ((Ok.bind q).imp λk f s p r i t l=>l s p r i (bf.refl ..)))
def kF(m db:ak->R PV):ak->R PV:=λf=>(dB m f).bind λk d=>match k with
 |true=>db d
 |false=>.ok (.bl aj) d
def Iw(m db:ak->R PV):ak->R PV:=λf=>(dB m f).bind λk d=>match k with
 |true=>.ok (.bl ai) d
 |false=>db d
def xA(m:ak->R PV):ak->R PV:=λf=>(dB m f).bind λk d=>.ok (.bl (!k)) d
theorem BW{d:ak->R PV}{r:Type}{D:r->ak->(af->Prop)->(Nat->af->Prop)->Hp->Prop}{k:Bool->ak->R r}{F:af->Prop}{S:Nat->af->Prop}{q:ak}{p:St}{H:Hp}{P:Bool->Hp->Prop}(h:Ok X.K E p F S H ((dB d q).bind k) D) (f:∀c g l j i,aO X.K l j g p i->bf (U S) (U j) F l H i->Ok X.K E p l j i (k c g) D->P c i):Ok X.K E p F S H (d q) (λpv _ y _ s=>∀v,aR X.K s y pv v->∃c,v=.bl c/\P c s):=by have u:=(Ok.bind h).imp (C':=λc g l j i=>P c i) λc g l j i t x w=>f c g l j i t x w;exact qk u
theorem qf{op}{d:ak->R PV}(h:DE X E a d):DE X E (.BoolOp op [a] pos) d:=λF S g f H Q i q=>bO (Gf bp) (h F S g f H Q i q)
theorem nv(t:DE X E a m)(s:DE X E (.BoolOp .And (b::rest) pos) db):DE X E (.BoolOp .And (a::b::rest) pos) (kF m db):=λF S p f H Q r q=>by
 refine bO (DY bp bp) (t F S p f H _ r (BW q λk d l i j g u h=>?_));cases k with
 |true=>exact nr (s l i d f j Q g h)
 |false=>exact mT (h l i j g (bf.refl ..) _ rfl)
theorem JE(j:DE X E a m):DE X E (.UnaryOp .Not a pos) (xA m):=λF S g d H Q h q=>bO (J2 bp) (j F S g d H _ h (BW q λk f s p r i t l=>l s p r i (bf.refl ..) _ rfl))
def cH{d:Type}(t:ak->R Bool)(m db:ak->R d):ak->R d:=λf=>(t f).bind λk ε1=>match k with
 |true=>m ε1
 |false=>db ε1
theorem Ip(s:DT X E c n)(u:DE X E a m)(t:DE X E b db):DE X E (.IfExp c a b pos) (cH n m db):=λF S p f H Q r q=>by
 refine bO (G5 lS bp bp) (s F S p f H _ r ((Ok.bind q).imp λk d l i j g v h=>?_));cases k with
 |true=>exact nr (u l i d f j Q g h)
 |false=>exact mT (t l i d f j Q g h)
def P1(K:aw)(r:V->Hp->VK->Prop)(f:PV->Option PV):Prop:=∀(F:af->Prop) (H:Hp) (x:PV) (v:V) (Q:VK) (pv:PV),aR K H F x v->f x=aa pv->(∀w g d,Al F g H d->aR K d g pv w->Q w d)->r v H Q
def d1(f:PV->Option PV)(m:ak->R PV):ak->R PV:=λg=>(m g).bind λx d=>aW (f x) d
theorem IN{r:V->Hp->VK->Prop}{f:PV->Option PV}(z:P1 X.K r f)(B:DE X E a m){F:af->Prop}{S:Nat->af->Prop}{j:ak}{d:St}{H:Hp}{Q:VK}(u:aO X.K F S j d H)(h:Ok X.K E d F S H (d1 f m j) (λpv _ q _ i=>∀v,aR X.K i q pv v->Q v i)):iO X a d H λx p=>r x p Q:=by
 refine B F S j d H _ u ((Ok.bind h).imp λx s D C p y G g v t=>?_);cases e:f x with
 |none=>rw[e]at g;exact g.elim
 |some pv=>rw[e]at g;exact z D p x v Q pv t e λw q i al l=>g q C i (y.al al) al.grow w l
theorem AW{d:UnaryOp}{r:V->Hp->VK->Prop}{f:PV->Option PV}(j:uP X (unaryOp d) r)(i:P1 X.K r f)(l:DE X E a m):DE X E (.UnaryOp d a pos) (d1 f m):=λF S q p H Q g h=>bO (JS j bp) (IN i l g h)
end
def mJ(X:Cx)(d:List aA):TA:=λb H Q=>Bx (∀a c s,Inv X c b H s->aq (au X.prog X.w) X.A (spliced (cg a (aI d X.env))) (AP X c b Q) X.xe s)
def DA(X:Cx)(E:XK)(h:List aA)(d:ak->R (List PV)):Prop :=
 ∀F S c a H Q,aO X.K F S c a H->Ok X.K E a F S H (d c) (λb _ i _ g=>∀f,aZ X.K g i b f->Q f g)->mJ X h a H Q
section
variable{X:Cx}{E:XK}{a b c e:aA}{es:List aA}{B db D d:ak->R PV}{j:ak->R (List PV)}{pos:Pos}
theorem fv{es:List aA}:PA X es (mJ X es):=λpos f s _ _ _ I h=>h.run pos f s I
theorem mV{t:TA}(h:PA X es t){f:St}{H:Hp}{Q:List V->Hp->Prop}(q:t f H Q):mJ X es f H Q:=⟨λpos g s I=>h pos g s f H Q I q⟩
def aK:ak->R (List PV):=λε=>.ok [] ε
def ay(d:ak->R PV)(j:ak->R (List PV)):ak->R (List PV):=λε=>(d ε).bind λx ε1=>(j ε1).bind λxs f=>.ok (x::xs) f
theorem aV:DA X E [] aK:=λF S i g H Q f h=>mV iR (h F S H f (bf.refl ..) _ rfl)
theorem Hn(u:DE X E e d)(t:DA X E es j)(s:aI (e::es) X.env=(aj,aM e X.env)::aI es X.env:=by rfl):DA X E (e::es) (ay d j):=λF S m g H Q p h=>by refine mV (gE bp fv s) (u F S m g H _ p ((Ok.bind h).imp λx f K C I i L y v o=>?_));refine t K C f g I _ i ((Ok.bind y).imp λxs l J A G q z w n r=>?_);exact w J A G q (bf.refl ..) _ ⟨v,n,rfl,o.grow z i.fit,r⟩
theorem aO.more{K:aw}{F N:af->Prop}{S:Nat->af->Prop}{n:ak}{m:St}{H:Hp}(r:aO K F S n m H)(p:∀b,N b->¬U S b/\∃o,H b=aa o):aO K (λb=>F b\/N b) S n m H:=by
 have mono:∀x v,aR K H F x v->aR K H (λb=>F b\/N b) x v:=aR.mono (λ_ h=>.inl h) (λ_ _ _ q=>q) (λ_ _ q _=>q);have f:∀x v,aZ K H F x v->aZ K H (λb=>F b\/N b) x v:=aZ.mono (λ_ h=>.inl h) (λ_ _ _ q=>q) (λ_ _ q _=>q);refine⟨r.len,λb h=>h.elim (r.ex b) λz=>(p b z).2,λi pv e=>?_,λi s e=>?_,λi b h=>?_,r.dist⟩
 .obtain⟨v,l,g⟩:=r.val i pv e;exact⟨v,l,mono _ _ g⟩
 .obtain⟨v,l,g⟩:=r.own i s e;exact⟨v,l,g.mono mono f λ_ _ _ z=>z⟩
 .obtain⟨l,g,t⟩:=r.foot i b h;exact⟨l,λz=>z.elim g λw=>(p b w).1 ⟨i,h⟩,t⟩
def zA:PO->Option PV
 |.lst xs=>aa (.lst xs)
 |_=>ae
def dF(d:ak->R PO):ak->R PV:=λf=>(d f).bind λg ε1=>aW (zA g) ε1
theorem DN.de{d:ak->R PO}(h:DN X E e d):DE X E e (dF d):=λF S ε r H Q v q=>by
 unfold dF at q;refine h F S ε r H Q v ?_;cases i:d ε with
 |no=>rw[i]at q;exact q.elim
 |er c t=>rw[i]at q;exact q
 |ok A s=>
  rw[i]at q;intro N l m x g a p G n;cases A with
  |dK f=>exact q.elim
  |lls O=>exact q.elim
  |ins C fs=>exact q.elim
  |dT f=>exact q.elim
  |dN f=>exact q.elim
  |inl C fs y xs=>exact q.elim
  |lst xs=>
   have L:∀b,p b->¬U l b/\∃o,m b=aa o:=λb z=>let ⟨_,_,x3,o,x4,_⟩:=n b z;⟨x3,o,x4⟩
   obtain⟨⟨u,J,I⟩,K⟩:=G;have M:bf (U S) (U l) F (λb=>N b\/p b) H m:=⟨λb z=>.inl (g.fro b z),g.keep,g.there,λb z=>z.elim (g.fnew b) λw=>.inr (.inl (n b w).1),g.onew⟩
   exact q _ l m (x.more L) M _ ⟨a,u,rfl,.inl J,.inr ((K a).mpr rfl),aZ.mono (λ_ z=>.inl z) (λ_ _ _ z=>z) (λ_ _ z _=>z) _ _ I⟩
def dO(xs:List PV):Option PV:=if xs.length<=1000 then aa (.tup xs)else ae
def fQ(xs:List PV):Option PO:=if xs.length<=1000 then aa (.lst xs)else ae
def dL{g:Type}(f:List PV->Option g)(j:ak->R (List PV)):ak->R g:=λε=>(j ε).bind λxs ε1=>aW (f xs) ε1
def PL(K:aw)(r:List V->Hp->VK->Prop)(f:List PV->Option PV):Prop:=∀(F:af->Prop) (H:Hp) (xs:List PV) (h:List V) (Q:VK) (pv:PV),aZ K H F xs h->f xs=aa pv->(∀w i g,Al F i H g->aR K g i pv w->Q w g)->r h H Q
def kH(K:aw)(r:List V->Hp->VK->Prop)(f:List PV->Option PO):Prop:=∀(F:af->Prop) (H:Hp) (xs:List PV) (i:List V) (Q:VK) (l:PO),(∀a,F a->∃o,H a=aa o)->aZ K H F xs i->f xs=aa l ->
 (∀a h g m,Al F h H g->ef K g h l a m->(∀b,m b->H b=ae/\¬h b/\∃o,g b=aa o/\c7 o)->Q (.ref a) g)->r i H Q
theorem wT{r:List V->Hp->VK->Prop}{f:List PV->Option PV}(y:PL X.K r f)(z:DA X E es j){F:af->Prop}{S:Nat->af->Prop}{m:ak}{g:St}{H:Hp}{Q:VK}(t:aO X.K F S m g H)(h:Ok X.K E g F S H (dL f j m) (λpv _ p _ l=>∀v,aR X.K l p pv v->Q v l)):mJ X es g H λxs o=>r xs o Q:=by
 refine z F S m g H _ t ((Ok.bind h).imp λxs q C A o u G i s x=>?_);cases e:f xs with
 |none=>rw[e]at i;exact i.elim
 |some pv=>rw[e]at i;exact y C o xs s Q pv x e λw p l al n=>i p A l (u.al al) al.grow w n
theorem lR{O i F l:af->Prop}{H f:Hp}(g:bf O i F l H f){b:af}(h:f b=ae):H b=ae:=by
 cases q:H b with
 |none=>rfl
 |some o=>obtain⟨o',e⟩:=g.there b o q;rw[h]at e;cases e
theorem ud{r:List V->Hp->VK->Prop}{f:List PV->Option PO}(M:kH X.K r f)(N:DA X E es j){F:af->Prop}{S:Nat->af->Prop}{q:ak}{l:St}{H:Hp}{Q:VK}(J:aO X.K F S q l H)(h:Ok X.K E l F S H (dL f j q) (λt _ p W g=>∀a n,ef X.K g p t a n->(∀b,n b->H b=ae/\¬p b/\¬U W b/\∃o,g b=aa o/\c7 o)->Q (.ref a) g)):mJ X es l H λxs u=>r xs u Q:=by
 refine N F S q l H _ J ((Ok.bind h).imp λxs y Y T u s O m I L=>?_);cases e:f xs with
 |none=>rw[e]at m;exact m.elim
 |some t=>
  rw[e]at m;refine M Y u xs I Q t s.ex L e λa p g n al K P=>m p T g (s.al al) al.grow a n K λb z=>?_;obtain⟨v,G,o,C,A⟩:=P b z;refine⟨lR O v,G,λ⟨i,w⟩=>?_,o,C,A⟩;obtain⟨_,_,Z,x,_⟩:=s.foot i b w;rw[v]at x;cases x
theorem wo{n:Nat}(h:n<=1000):n<=a_:=kZ (Jr h)
theorem GA{K:aw}:PL K (λxs H Q=>xs.length<=a_/\∀p,H p=ae->Q (.ref p) (upd H p (.tup xs))) dO:=λF H xs h Q pv f e q=>by
 unfold dO at e;split at e
 .cases e;refine⟨by rw[f.len];exact wo (by assumption),λp g=>q _ F _ (Al.new0 g) ⟨p,h,rfl,cI,(Al.new0 g).reps f⟩⟩
 .cases e
theorem tX{K:aw}{F:af->Prop}{H:Hp}{l:af}{xs:List PV}{f:List V}(h:H l=ae)(g:aZ K H F xs f):ef K (upd H l (.lst f)) F (.lst xs) l (λb=>b=l):=⟨⟨f,cI,(Al.new0 h).reps g⟩,λb=>Iff.rfl⟩
theorem ub{F:af->Prop}{H:Hp}{l:af}{o:HO}(g:H l=ae)(i:∀a,F a->∃o,H a=aa o)(h:c7 o):∀b,b=l->H b=ae/\¬F b/\∃f,(upd H l o) b=aa f/\c7 f:=λb z=>by
 subst z;exact⟨g,(λw=>by obtain⟨o,q⟩:=i b w;rw[g]at q;cases q),o,cI,h⟩
theorem Ki{K:aw}:kH K (λxs H Q=>xs.length<=a_/\∀p,H p=ae->Q (.ref p) (upd H p (.lst xs))) fQ:=λF H xs i Q l h g e q=>by
 unfold fQ at e;split at e
 .cases e;exact⟨by rw[g.len];exact wo (by assumption),λp f=>q p F _ _ (Al.new0 f) (tX f g) (ub f h trivial)⟩
 .cases e
theorem i7{x1}(h:DA X E es j):DE X E (.Tuple es x1 pos) (dL dO j):=λF S i g H Q f q=>bO (Fc fv) (wT GA h f q)
theorem tO(h:DA X E es j):DN X E (.List es pos) (dL fQ j):=λF S i g H Q f q=>bO (KA fv) (ud Ki h f q)
theorem pe(h:DA X E es j):DE X E (.List es pos) (dF (dL fQ j)):=(tO h).de
variable{x:Str}{p:Pos}{m T:String}{r:List V->Hp->VK->Prop}{f:List PV->Option PV}{A:List PV->Option PO}
theorem cf(t:d8 X (.builtin m) r)(i:PL X.K r f)(n:X.mg x=ae)(h:dy x=aa (.builtin m))(u:DA X E (e::es) j)(o:Gl X x:=by rfl)(l:x≠"__name__":=by decide)(v:(x==("__debug__":Str))=aj:=by decide)(s:aI (e::es) X.env=(aj,aM e X.env)::aI es X.env:=by rfl) (w:(cg pos (aI es X.env)).any (·.1)=aj:=by rfl):DE X E (.Call (.Name x p) (e::es) [] pos) (dL f j):=λF S z y H Q g q=>bO (rm t o n h fv l v s w) (wT i u g q)
theorem zu(t:d8 X (.builtin m) r)(i:kH X.K r A)(n:X.mg x=ae)(h:dy x=aa (.builtin m))(u:DA X E (e::es) j)(o:Gl X x:=by rfl)(l:x≠"__name__":=by decide)(v:(x==("__debug__":Str))=aj:=by decide)(s:aI (e::es) X.env=(aj,aM e X.env)::aI es X.env:=by rfl) (w:(cg pos (aI es X.env)).any (·.1)=aj:=by rfl):DN X E (.Call (.Name x p) (e::es) [] pos) (dL A j):=λF S z y H Q g q=>bO (rm t o n h fv l v s w) (ud i u g q)
theorem Cp(t:d8 X (.type T) r)(i:PL X.K r f)(n:X.mg x=ae)(h:dy x=aa (.type T))(u:DA X E (e::es) j)(o:Gl X x:=by rfl)(l:x≠"__name__":=by decide)(v:(x==("__debug__":Str))=aj:=by decide)(s:aI (e::es) X.env=(aj,aM e X.env)::aI es X.env:=by rfl) (w:(cg pos (aI es X.env)).any (·.1)=aj:=by rfl):DE X E (.Call (.Name x p) (e::es) [] pos) (dL f j):=λF S z y H Q g q=>bO (xk t o n h fv l v s w) (wT i u g q)
theorem Av(t:d8 X (.type T) r)(i:kH X.K r A)(n:X.mg x=ae)(h:dy x=aa (.type T))(u:DA X E (e::es) j)(o:Gl X x:=by rfl)(l:x≠"__name__":=by decide)(v:(x==("__debug__":Str))=aj:=by decide)(s:aI (e::es) X.env=(aj,aM e X.env)::aI es X.env:=by rfl) (w:(cg pos (aI es X.env)).any (·.1)=aj:=by rfl):DN X E (.Call (.Name x p) (e::es) [] pos) (dL A j):=λF S z y H Q g q=>bO (xk t o n h fv l v s w) (ud i u g q)
theorem gw{r:R2}{f:PV->PV->Option PV}(l:kA X r)(n:P2 X.K r f)(q:DE X E a B)(o:DE X E b db)(i:A3 b:=by exact λ_ _=>rfl):DE X E (.Subscript a b pos) (d2 f B db):=λF S t s H Q g h=>bO (GW l bp bp i) (uF n q o g h)
def wP(X:Cx)(e:Option aA):TO:=λg H Q=>Bx (∀h s,Inv X h g H s->aq (au X.prog X.w) X.A (evalPart e X.env) (λu l=>∃o i,Inv X h g i l/\lg u o/\Q o i) X.xe s)
theorem y8{o:Option aA}:L2.PO X o (wP X o):=λg s _ _ _ I h=>h.run g s I
theorem Cd{o:Option aA}{t:TO}(h:L2.PO X o t){g:St}{H:Hp}{Q:Option Int->Hp->Prop}(q:t g H Q):wP X o g H Q:=⟨λi s I=>h i s g H Q I q⟩
def DO(X:Cx)(E:XK)(e:Option aA)(d:ak->R (Option Int)):Prop:=∀F S h g H Q,aO X.K F S h g H->Ok X.K E g F S H (d h) (λo _ _ _ i=>Q o i)->wP X e g H Q
def g_:ak->R (Option Int):=λg=>.ok ae g
def BI:PV->Option Int
 |.int i=>aa i
 |_=>ae
def dq(d:ak->R PV):ak->R (Option Int):=λε=>(d ε).bind λx g=>aW ((BI x).map aa) g
theorem oZ:DO X E ae g_:=λF S l i H Q g h=>Cd GM (h F S H g (bf.refl ..))
theorem jS(u:DE X E e d):DO X E (aa e) (dq d):=λF S o l H Q s h=>by
 refine Cd (Io bp) (u F S o l H _ s ((Ok.bind h).imp λx n z w y t C g v q=>?_));cases x <;> first|exact(show False from g).elim|skip
 rename_i i;exact⟨i,q,g z w y t (bf.refl ..)⟩
def d9{n:Type}(f:PV->Option Int->Option Int->Option n)(d:ak->R PV)(q o:ak->R (Option Int)):ak->R n:=λε=>(d ε).bind λx i=>(q i).bind λl h=>(o h).bind λu g=>aW (f x l u) g
def AS(K:aw)(r:V->Option Int->Option Int->Hp->VK->Prop)(f:PV->Option Int->Option Int->Option PV):Prop:=∀(F:af->Prop) (H:Hp) (x:PV) (h i:Option Int) (v:V) (Q:VK) (pv:PV),aR K H F x v->f x h i=aa pv->(∀w l g,Al F l H g->aR K g l pv w->Q w g)->r v h i H Q
theorem lZ{r:V->Option Int->Option Int->Hp->VK->Prop}{f:PV->Option Int->Option Int->Option PV}{z C:Option aA}{I G:ak->R (Option Int)}{O:Pos}(W:kK X r)(Y:AS X.K r f)(he:DE X E e d)(Z:DO X E z I)(P:DO X E C G):DE X E (.Subscript e (.Slice z C ae O) pos) (d9 f d I G):=λF S K i H Q M h=>by
 refine bO (Hv W bp y8 y8) (he F S K i H _ M ((Ok.bind h).imp λx o F1 S1 H1 y g1 h1 v L=>?_));refine Z F1 S1 o i H1 _ y ((Ok.bind h1).imp λl n F2 S2 H2 t g2 h2=>?_);refine P F2 S2 n i H2 _ t ((Ok.bind h2).imp λu J F3 S3 H3 N g3 g=>?_);cases s:f x l u with
 |none=>rw[s]at g;exact g.elim
 |some pv=>rw[s]at g;exact Y F3 H3 x l u v Q pv ((L.grow g2 y.fit).grow g3 t.fit) s λw F' H' al q=>g F' S3 H' (N.al al) al.grow w q
end
inductive aP where
 |next|ret (s:Slot)|brk|cont
def kQ(K:aw)(H:Hp)(F:af->Prop)(s:Slot)(v:V)(c:af->Prop):Prop:=match s with
 |.val pv=>aR K H F pv v/\∀b,¬c b
 |.own d=>∃a,v=.ref a/\ef K H F d a c
 |.none=>False
def g8(b:List Nat)(c a:St):Prop:=∀i∈b,a[i]?=c[i]?
theorem g8.refl(a:List Nat)(b:St):g8 a b b:=λ_ _=>rfl
theorem g8.trans{c:List Nat}{g f d:St}(a:g8 c g f)(b:g8 c f d):g8 c g d:=λi h=>(b i h).trans (a i h)
theorem g8.set{a:List Nat}{b:St}{i:Nat}{x:Option V}(h:i∉a):g8 a b (b.set i x):=λj c=>by rw[dH (by rintro rfl;exact h c)]
def uG(f:af->Prop)(c:Nat->af->Prop)(d:Hp)(a:af->Prop):Prop:=∀b,a b->¬f b/\¬U c b/\∃o,d b=aa o/\c7 o
def iz(K:aw)(E:XK)(i:List Nat)(j:St)(F:af->Prop)(S:Nat->af->Prop)(H:Hp)(r:R aP)(D:j4):Prop:=match r with
 |.ok .next f=>∀g h a d,aO K g h f a d->bf (U S) (U h) F g H d->g8 i j a->D.nx a d
 |.ok .brk f=>∀g h a d,aO K g h f a d->bf (U S) (U h) F g H d->g8 i j a->D.bk a d
 |.ok .cont f=>∀g h a d,aO K g h f a d->bf (U S) (U h) F g H d->g8 i j a->D.ct a d
 |.ok (.ret s) f=>∀v g h a d l,aO K g h f a d->bf (U S) (λb=>U h b\/l b) F g H d->g8 i j a->kQ K d g s v l->uG g h d l->D.rt v d
 |.er c f=>∀x g h a d,aO K g h f a d->bf (U S) (U h) F g H d->g8 i j a->E c x d
 |.no=>False
def DS(X:Cx)(E:XK)(b:List Nat)(f:aU)(d:ak->R aP):Prop:=∀F S c a H D,aO X.K F S c a H->iz X.K E b a F S H (d c) D->wpS X f D a H
def eO(X:Cx)(E:XK)(b:List Nat)(f:List aU)(d:ak->R aP):Prop:=∀F S c a H D,aO X.K F S c a H->iz X.K E b a F S H (d c) D->ng X f D a H
section
variable{K:aw}{E:XK}{b:List Nat}{d i:St}{F m:af->Prop}{S j:Nat->af->Prop}{H l:Hp}{D:j4}
theorem iz.from{r:R aP}(h:iz K E b d F S H r D)(g:bf (U S) (U j) F m H l)(p:g8 b d i):iz K E b i m j l r D:=by
 cases r with
 |no=>exact h
 |er c w=>exact λx u q a t n g' o=>h x u q a t n (g.trans g') (p.trans o)
 |ok f w=>
  cases f with
  |next=>exact λu q a t n g' o=>h u q a t n (g.trans g') (p.trans o)
  |brk=>exact λu q a t n g' o=>h u q a t n (g.trans g') (p.trans o)
  |cont=>exact λu q a t n g' o=>h u q a t n (g.trans g') (p.trans o)
  |ret s=>exact λv u q a t y n g' o=>h v u q a t y n (g.trans g') (p.trans o)
theorem iz.bindE{o:Type}{r:R o}{k:o->ak->R aP}(h:iz K E b d F S H (r.bind k) D):Ok K E d F S H r (λa f m j l=>iz K E b d m j l (k a f) D):=by
 cases r with
 |no=>exact h
 |er c g=>exact λx t q s p n=>h x t q d s p n (g8.refl _ _)
 |ok a g=>exact λt q s p n=>h.from n (g8.refl _ _)
end
section
variable{X:Cx}{E:XK}{pin:List Nat}{l:aU}{rest:List aU}{d d1 d2:ak->R aP}{e:aA}{de:ak->R PV}{pos:Pos}
def c8:ak->R aP:=λa=>.ok .next a
theorem fP:eO X E pin [] c8:=λF S c a H D b h=>xh E1 (h F S a H b (bf.refl ..) (g8.refl _ _))
def bh(d1 d2:ak->R aP):ak->R aP:=λa=>match d1 a with
 |.ok .next ε1=>d2 ε1
 |r=>r
theorem bS(t:DS X E pin l d1)(q:eO X E pin rest d2):eO X E pin (l::rest) (bh d1 d2):=λF S i m H D n h=>by
 refine xh (D5 zR qW) (t F S i m H {D with nx:=ng X rest D} n ?_);unfold bh at h;split at h
 .rename_i g v;rw[v];exact λy w b x o u p=>q y w g b x D o (h.from u p)
 .rename_i r j;generalize d1 i=r1 at h j;cases r1 with
  |no=>exact h
  |er c a=>exact h
  |ok f a=>
   cases f with
   |next=>exact absurd rfl (j a)
   |brk=>exact h
   |cont=>exact h
   |ret s=>exact h
theorem bv(f:DS X E pin l d1):eO X E pin [l] d1:=λF S b a H D c h=>xh (EV zR) (f F S b a H D c h)
def K4(f:aP):ak->R aP:=λa=>.ok f a
def Kq(d:ak->R PV):ak->R aP:=λb=>(d b).bind λ_ a=>.ok .next a
def bV(d:ak->R PV):ak->R aP:=λa=>(d a).bind λx ε1=>.ok (.ret (.val x)) ε1
theorem bf.cup{O c F i:af->Prop}{H f:Hp}(g:bf O c F i H f):bf O (λb=>c b\/False) F i H f:=⟨g.fro,g.keep,g.there,g.fnew,λa h=>h.elim (g.onew a) fF⟩
theorem cy(j:DE X E e de):DS X E pin (.Return (aa e) pos) (bV de):=λF S c a H D g h=>jc (vY bp) (j F S c a H _ g (h.bindE.imp λx b p n o i q m v f=>m v p n a o (λ_=>False) i (bf.refl ..).cup (g8.refl _ _) ⟨f,λ_ z=>z⟩ λ_ z=>z.elim))
def qe(d:ak->R PO):ak->R aP:=λε=>(d ε).bind λx a=>.ok (.ret (.own x)) a
theorem Hb{dn:ak->R PO}(t:DN X E e dn):DS X E pin (.Return (aa e) pos) (qe dn):=λF S j g H D p h=>by
 refine jc (vY bp) (t F S j g H _ p ?_);unfold qe at h;cases i:dn j with
 |no=>rw[i]at h;exact h.elim
 |er c o=>rw[i]at h;exact λx I A C r u=>h x I A g C r u (g8.refl _ _)
 |ok J n=>rw[i]at h;intro G y B q f a v s m;exact h _ G y g B v q ⟨f.fro,f.keep,f.there,f.fnew,λb z=>z.elim (f.onew b) λw=>.inr (m b w).1⟩ (g8.refl _ _) ⟨a,rfl,s⟩ λb z=>let ⟨_,x2,x3,x4⟩:=m b z;⟨x2,x3,x4⟩
theorem aO.drop{K:aw}{F:af->Prop}{S:Nat->af->Prop}{c:ak}{o:St}{H:Hp}(r:aO K F S c o H)(i:Nat):aO K F (λj b=>S j b/\j≠i) (c.set i .none) o H:=by
 have no:∀{j s},(c.set i .none)[j]?=aa s->s≠.none->j≠i/\c[j]?=aa s:=λ{j s} e t=>by
  by_cases f:i=j
  .subst f;by_cases u:i<c.length
   .rw[eX u]at e;exact absurd (dw e).symm t
   .rw[rZ (by rw[e_];lia)]at e;cases e
  .rw[dH f]at e;exact⟨ez f,e⟩
 refine⟨by rw[e_];exact r.len,r.ex,λj pv e=>r.val j pv (no e (by intro z;cases z)).2,λj g e=>?_,λj b h=>?_,λj k b n m=>r.dist j k b n.1 m.1⟩
 .obtain⟨f,e⟩:=no e (by intro z;cases z);obtain⟨a,n,m⟩:=r.own j g e;have v:(λb=>S j b/\j≠i)=S j:=by funext b;simp[f]
  exact⟨a,n,by rw[v];exact m⟩
 .obtain⟨⟨g,q⟩,p⟩:=r.foot j b h.1;exact⟨⟨g,by rw[dH (ez h.2)];exact q⟩,p⟩
theorem aO.set{K:aw}{F:af->Prop}{S:Nat->af->Prop}{f:ak}{m:St}{H:Hp}{i:Nat}{pv:PV}{v:V}(r:aO K F S f m H)(h:aR K H F pv v):aO K F (λj b=>S j b/\j≠i) (f.set i (.val pv)) (m.set i (aa v)) H:=by
 have s:=r.drop i;have len:(f.set i (.val pv)).length=(m.set i (aa v)).length:=by rw[e_,e_];exact r.len
 refine⟨len,r.ex,λj p e=>?_,λj n e=>?_,λj b h=>?_,s.dist⟩
 .by_cases c:i=j
  .subst c;have g:i<f.length:=by have:=(cJ.mp e).1;rw[e_]at this;exact this
   rw[eX g]at e;cases e;exact⟨v,eX (by rw[<-r.len];exact g),h⟩
  .rw[dH c]at e;obtain⟨w,q,o⟩:=r.val j p e;exact⟨w,by rw[dH c];exact q,o⟩
 .have c:i≠j:=by
   rintro rfl;have g:i<f.length:=by have:=(cJ.mp e).1;rw[e_]at this;exact this
   rw[eX g]at e;cases e
  rw[dH c]at e;obtain⟨a,q,o⟩:=r.own j n e;have x:(λb=>S j b/\j≠i)=S j:=by funext b;simp[ez c]
  exact⟨a,by rw[dH c];exact q,by rw[x];exact o⟩
 .obtain⟨⟨n,t⟩,u⟩:=s.foot j b h;refine⟨⟨n,?_⟩,u⟩;rw[dH (ez h.2)]at t ⊢;exact t
theorem bf.less{S:Nat->af->Prop}{F:af->Prop}{H:Hp}(i:Nat):bf (U S) (U λj b=>S j b/\j≠i) F F H H:=⟨λ_ z=>z,λ_ _ z _=>z,λ_ o z=>⟨o,z⟩,λ_ z=>.inl z,λb ⟨j,z⟩=>.inl ⟨j,z.1⟩⟩
theorem aO.setOwn{K:aw}{F:af->Prop}{S:Nat->af->Prop}{q:ak}{v:St}{H:Hp}{i:Nat}{s:PO}{a:af}{n:af->Prop}(r:aO K F S q v H)(o:i<q.length)(h:ef K H F s a n)(t:uG F S H n):aO K F (λj b=>(S j b/\j≠i)\/(j=i/\n b)) (q.set i (.own s)) (v.set i (aa (.ref a))) H:=by
 have A:=r.drop i;refine⟨by rw[e_,e_];exact r.len,r.ex,λj p e=>?_,λj g e=>?_,λj b h=>?_,λj k b f c=>?_⟩
 .have m:i≠j:=by rintro rfl;rw[eX o]at e;cases e
  rw[dH m]at e;obtain⟨w,f,c⟩:=r.val j p e;exact⟨w,by rw[dH m];exact f,c⟩
 .by_cases m:i=j
  .subst m;rw[eX o]at e;cases e;have u:(λb=>(S i b/\i≠i)\/(i=i/\n b))=n:=by funext b;simp
   exact⟨a,eX (by rw[<-r.len];exact o),by rw[u];exact h⟩
  .rw[dH m]at e;obtain⟨C,f,c⟩:=r.own j g e;have u:(λb=>(S j b/\j≠i)\/(j=i/\n b))=S j:=by funext b;simp[ez m]
   exact⟨C,by rw[dH m];exact f,by rw[u];exact c⟩
 .rcases h with h|⟨rfl,h⟩
  .obtain⟨⟨g,x⟩,B⟩:=A.foot j b h;refine⟨⟨g,?_⟩,B⟩;rw[dH (ez h.2)]at x ⊢;exact x
  .obtain⟨z,D,y⟩:=t b h;exact⟨⟨s,eX o⟩,z,y⟩
 .rcases f with f|⟨rfl,f⟩ <;> rcases c with c|⟨rfl,c⟩
  .exact r.dist j k b f.1 c.1
  .exact absurd ⟨j,f.1⟩ (t b c).2.1
  .exact absurd ⟨k,c.1⟩ (t b f).2.1
  .rfl
def dm(i:Nat)(d:ak->R PV):ak->R aP:=λb=>(d b).bind λx a=>.ok .next (a.set i (.val x))
theorem gy(i:Nat){x:Str}{p:Pos}(t:X.N.Nodup)(s:DE X E e de)(o:i∉pin:=by decide)(q:X.N[i]?=aa x:=by rfl)(m:Loc X.env.scope x:=by first|exact Or.inl rfl|exact Or.inr rfl)(n:l_ e (aa (.Name x p)) pos.line X.env=pure aj:=by rfl)(r:X.fn x=ai\/X.env.scope.names.lookup x=aa .local:=by first|exact .inl rfl|exact .inr rfl):DS X E pin (.Assign [.Name x p] e pos) (dm i de):=λF S c a H D g h=>jc (B9 t q m bp n r) (s F S c a H _ g (h.bindE.imp λx b y A w j z u v f=>u y _ _ w (j.set f) (bf.less i) (g8.set o)))
def kT(i:Nat)(d:ak->R PO):ak->R aP:=λa=>(d a).bind λx ε1=>if i<ε1.length then .ok .next (ε1.set i (.own x))else .no
theorem uu(i:Nat){x:Str}{p:Pos}{dn:ak->R PO}(J:X.N.Nodup)(I:DN X E e dn)(B:i∉pin:=by decide)(C:X.N[i]?=aa x:=by rfl)(y:Loc X.env.scope x:=by first|exact Or.inl rfl|exact Or.inr rfl)(A:l_ e (aa (.Name x p)) pos.line X.env=pure aj:=by rfl)(G:X.fn x=ai\/X.env.scope.names.lookup x=aa .local:=by first|exact .inl rfl|exact .inr rfl):DS X E pin (.Assign [.Name x p] e pos) (kT i dn):=λF S q o H D t h=>by
 refine jc (B9 J C y bp A G) (I F S q o H _ t ?_);unfold kT at h;cases n:dn q with
 |no=>rw[n]at h;exact h.elim
 |er c s=>rw[n]at h;exact λx P L N v K=>h x P L o N v K (g8.refl _ _)
 |ok Q g=>
  rw[n]at h;simp only[R.bind_ok]at h;intro O W M u f a T w r;by_cases m:i<g.length
  .rw[if_pos m]at h;refine h O _ _ M (u.setOwn m w λb z=>(r b z).2) ⟨f.fro,f.keep,f.there,f.fnew,λb ⟨j,z⟩=>?_⟩ (g8.set B);rcases z with z|⟨_,z⟩
   .exact f.onew b ⟨j,z.1⟩
   .exact .inr (r b z).1
  .rw[if_neg m]at h;exact h.elim
theorem fY{c:aA}{a b:List aU}{t:ak->R Bool}(r:DT X E c t)(u:eO X E pin a d1)(s:eO X E pin b d2):DS X E pin (.If c a b pos) (cH t d1 d2):=λF S p g H D q h=>by
 refine jc (KM lS qW qW) (r F S p g H _ q (h.bindE.imp λk f o m n i v j=>?_));cases k with
 |true=>exact nr (u o m f g n D i j)
 |false=>exact mT (s o m f g n D i j)
def Am:ak->R aP:=λ_=>.no
theorem KD{a:List aU}:eO X E pin a Am:=λ_ _ _ _ _ _ _ h=>h.elim
def fj(r:R aP):R aP:=match r with
 |.er _ _=>.no
 |r=>r
theorem qz(h:DS X.nox E0 pin l d):DS X E pin l (λa=>fj (d a)):=λF S a b H D i q=>Bx.mk λm s I=>by
 have q:iz X.K E pin b F S H (fj (d a)) D:=q;have j:iz X.K E0 pin b F S H (d a) D:=by
  cases e:d a with
  |no=>rw[e]at q;exact q
  |er c g=>rw[e]at q;exact q.elim
  |ok f g=>rw[e]at q;cases f <;> exact q
 exact cW ((h F S a b H D i j).run m s (I.wish _)) (λ_ _ z=>z.unwish) λ_ _ z=>z.elim
def rz(X:Cx)(f a:aA):TI:=λb H h=>Bx (∀c s,Inv X c b H s->aq (au X.prog X.w) X.A (aM a X.env) (λv g=>aq (au X.prog X.w) X.A (k_ v) (ql X c b f h) X.xe g) X.xe s)
theorem Cw{b a:aA}:PI X b a (rz X b a):=λc s _ _ _ I h=>h.run c s I
theorem zS{f a:aA}{t:TI}(h:PI X f a t){b:St}{H:Hp}{c:It->Hp->Prop}(q:t b H c):rz X f a b H c:=⟨λg s I=>h g s b H c I q⟩
def DI(X:Cx)(E:XK)(q a:aA)(d:ak->R (List PV)):Prop:=∀F S m c H n,aO X.K F S m c H ->
 Ok X.K E c F S H (d m) (λg _ p r i=>∀J f o,aZ X.K i p g f->f.length<=a_->Walk J f o->(∀h j b,bf (U r) (U h) p j i b->o b)->n J i)->rz X q a c H n
def eV(i:Nat)(c:ak->R aP):List PV->ak->R aP
 |[],b=>.ok .next b
 |x::xs,b=>match c (b.set i (.val x))with
  |.ok .next a=>eV i c xs a
  |.ok .cont a=>eV i c xs a
  |.ok .brk a=>.ok .next a
  |r=>r
def fR(i:Nat)(b:ak->R (List PV))(db:ak->R aP):ak->R aP:=λa=>(b a).bind λxs ε1=>eV i db xs ε1
theorem qH(i:Nat){x:Str}{p:Pos}{o:aA}{r:List aU}{Z:ak->R (List PV)}{B:ak->R aP}(N:PassesOwn (au X.prog X.w) X.A X.env X.xe)(hc:X.calm=ai)(hN:X.N.Nodup)(hi:DI X E (.Name x p) o Z)(hb:eO X E pin r B)(hp:i∉pin:=by decide) (z:X.N[i]?=aa x:=by rfl) (O:Loc X.env.scope x:=by first|exact Or.inl rfl|exact Or.inr rfl) (hs:∀x,uU o X.env x=pure x:=by intro _;rfl)(hf:X.fn x=ai\/X.env.scope.names.lookup x=aa .local:=by first|exact .inl rfl|exact .inr rfl):DS X E pin (.For (.Name x p) o r [] pos) (fR i Z B):=λF S ε σ H D rl h=>by
 refine jc (Hz N hc Cw (Cz hN z O hf) qW hs) (hi F S ε σ H _ rl (h.bindE.imp λxs G F1 S1 H1 Y g1 h1 J vs RR W hz hw keep=>?_));refine Jk hw (λk a n=>∃t u m,aO X.K t u m a n/\bf (U S1) (U u) F1 t H1 n/\iz X.K E pin a t u n (eV i B (xs.drop k) m) D) ⟨F1,S1,G,Y,bf.refl ..,h1⟩ (λk a n _ ⟨t,u,m,_,g,_⟩=>keep u t n g) ?_ ?_
 .rintro k v a n hv ⟨t,u,m,L,A,q⟩;obtain⟨x,z,rx⟩:=W.back hv;have hk:k<xs.length:=(cJ.mp z).1;have ed:xs.drop k=x::xs.drop (k+1):=by rw[vm hk];congr 1;exact(cJ.mp z).2
  rw[ed]at q;have I:=rx.grow A Y.fit;have r2:=L.set (i:=i) I;have P:bf (U u) (U λj b=>u j b/\j≠i) t t n n:=bf.less i;show ng X r _ (a.set i (aa v)) n;refine hb t _ _ _ n _ r2 ?_;unfold eV at q;have q:=q.from P (g8.set (x:=aa v) hp);cases e:B (m.set i (.val x))with
  |no=>rw[e]at q;exact q
  |er c w=>rw[e]at q;exact q
  |ok f w=>
   rw[e]at q;cases f with
   |next=>exact λT Q C H3 K y M=>⟨T,Q,w,K,(A.trans P).trans y,q.from y M⟩
   |cont=>exact λT Q C H3 K y M=>⟨T,Q,w,K,(A.trans P).trans y,q.from y M⟩
   |brk=>exact q
   |ret s=>exact q
 .rintro a n ⟨t,u,m,L,A,q⟩;have O:vs.length=xs.length:=W.len;rw[O,List.drop_length]at q;exact q t u a n L (bf.refl ..) (g8.refl _ _)
end
def uC(K:aw)(E:XK)(i:List V)(F:af->Prop)(S:Nat->af->Prop)(H:Hp)(r:R Slot)(Q:VK):Prop:=match r with
 |.ok s h=>∀v d f a g,aO K d f h (i.map aa) a->bf (U S) (λb=>U f b\/g b) F d H a->kQ K a d s v g->uG d f a g->(∀b,g b->H b=ae)->Q v a
 |.er c h=>∀x d f a,aO K d f h (i.map aa) a->bf (U S) (U f) F d H a->E c x a
 |.no=>False
def bH(K:aw)(g:ak->R Slot):Sp:=λa H Q E=>∃F S b,aO K F S b (a.map aa) H/\uC K E a F S H (g b) Q
structure cD(CX:eJ)(P:aN)(w:aD)(K:aw)(mg:Str->Option ah)(base:az)(x:Str)(k:Nat)(ps:List Str)(sp:Sp):Prop where
 ex:∃f fd,mg x=aa (.ref f)/\jn P w K mg base CX k f fd ps sp/\Binds K fd ps []/\nJ K (.ref f)=ai
def back:ak->ak->Option ak
 |[],_=>aa []
 |.own _::a,.own c::b=>(back a b).map (.own c::·)
 |.own _::_,_=>ae
 |s::a,_::b=>(back a b).map (s::·)
 |_::_,[]=>ae
theorem ua:∀{a c b:ak},back a c=aa b->b.length=a.length/\∀(i:Nat) (s:Slot),b[i]?=aa s->(∃g f,a[i]?=aa (.own g)/\c[i]?=aa (.own f)/\s=.own f)\/(a[i]?=aa s/\∀g,s≠.own g)
 |[],_,b,h=>by cases h;exact⟨rfl,λi s e=>by simp at e⟩
 |.own g::a,.own f::c,b,h=>by
  unfold back at h;cases e:back a c with
  |none=>rw[e]at h;cases h
  |some r=>
   rw[e]at h;cases h;obtain⟨l,q⟩:=ua e;refine⟨by simp[l],λi s d=>?_⟩;cases i with
   |zero=>simp at d;subst d;exact .inl ⟨g,f,rfl,rfl,rfl⟩
   |succ i=>simpa using q i s (by simpa using d)
 |.own g::a,.none::c,b,h=>by cases h
 |.own g::a,.val _::c,b,h=>by cases h
 |.own g::a,[],b,h=>by cases h
 |.none::a,[],b,h=>by cases h
 |.val _::a,[],b,h=>by cases h
 |.none::a,x::c,b,h=>by
  have h:(back a c).map (Slot.none::·)=aa b:=by unfold back at h;cases x <;> exact h
  cases e:back a c with
  |none=>rw[e]at h;cases h
  |some r=>
   rw[e]at h;cases h;obtain⟨l,q⟩:=ua e;refine⟨by simp[l],λi s d=>?_⟩;cases i with
   |zero=>simp at d;subst d;exact .inr ⟨rfl,λ_ z=>by cases z⟩
   |succ i=>simpa using q i s (by simpa using d)
 |.val pv::a,x::c,b,h=>by
  have h:(back a c).map (Slot.val pv::·)=aa b:=by unfold back at h;cases x <;> exact h
  cases e:back a c with
  |none=>rw[e]at h;cases h
  |some r=>
   rw[e]at h;cases h;obtain⟨l,q⟩:=ua e;refine⟨by simp[l],λi s d=>?_⟩;cases i with
   |zero=>simp at d;subst d;exact .inr ⟨rfl,λ_ z=>by cases z⟩
   |succ i=>simpa using q i s (by simpa using d)
def bC(n:Nat)(d:ak->R aP):ak->R Slot:=λf=>match d (f++bW n .none)with
 |.ok (.ret r) a=>(aW (back f a) []).bind λb _=>.ok r b
 |.ok .next a=>(aW (back f a) []).bind λb _=>.ok (.val .non) b
 |.er c a=>(aW (back f a) []).bind λb _=>.er c b
 |_=>.no
section
variable{K:aw}{F u:af->Prop}{S o:Nat->af->Prop}{c l m:ak}{f:St}{H t:Hp}{d:List V}
theorem aO.start(r:aO K F S c (d.map aa) H)(n:Nat):aO K F S (c++bW n .none) (d.map aa++bW n ae) H:=by
 have y:c.length=(d.map aa).length:=r.len;have no:∀{j:Nat}{s:Slot},(c++bW n Slot.none)[j]?=aa s->s≠.none->c[j]?=aa s:=λ{j s} e x=>by
  by_cases A:j<c.length
  .rw[ii A]at e;exact e
  .rw[nK ∅,List.getElem?_replicate]at e;split at e
   .exact absurd (dw e).symm x
   .cases e
 have p:∀{j:Nat}{v:Option V},(d.map aa)[j]?=aa v->(d.map aa++bW n ae)[j]?=aa v:=λ{j v} e=>by rw[ii (cJ.mp e).1];exact e
 refine⟨by simp[y],r.ex,λj pv e=>?_,λj a e=>?_,λj b h=>?_,r.dist⟩
 .obtain⟨v,i,g⟩:=r.val j pv (no e (by intro z;cases z));exact⟨v,p i,g⟩
 .obtain⟨v,i,g⟩:=r.own j a (no e (by intro z;cases z));exact⟨v,p i,g⟩
 .obtain⟨⟨a,q⟩,w⟩:=r.foot j b h;exact⟨⟨a,by rw[ii (cJ.mp q).1];exact q⟩,w⟩
theorem zT{i:PO}{a:af}{n:af->Prop}(h:ef K H F i a n)(j:fW i=ai):∀b,n b↔b=a:=by
 cases i with
 |lst xs=>exact h.2
 |dK g=>exact h.2
 |lls p=>cases j
 |ins C fs=>exact h.2
 |dT g=>exact h.2
 |dN g=>exact h.2
 |inl C fs y xs=>cases j
theorem GP{g:PO}{a:af}{i:af->Prop}(h:ef K H F g a i):i a:=by
 cases g with
 |lst xs=>exact(h.2 a).mpr rfl
 |dK b=>exact(h.2 a).mpr rfl
 |lls j=>obtain⟨n,_,_,_,_,w⟩:=h;exact(w a).mpr (.inl rfl)
 |ins C fs=>exact(h.2 a).mpr rfl
 |dT b=>exact(h.2 a).mpr rfl
 |dN b=>exact(h.2 a).mpr rfl
 |inl C fs y xs=>obtain⟨_,_,_,_,_,_,_,_,_,_,w⟩:=h;exact(w a).mpr (.inl rfl)
theorem aO.back{X:af->Prop}{C:List Nat}{n:Nat}(B:aO K F S c (d.map aa) H)(r:aO K u o l f t)(g:bf (U S) X F u H t)(p:g8 C (d.map aa++bW n ae) f)(P:∀(i:Nat) (s:PO),c[i]?=aa (.own s)->i∈C)(Q:back c l=aa m):∃A,aO K u A m (d.map aa) t/\(∀b,U A b->U o b)/\((∀(i:Nat) (s:PO),c[i]?=aa (.own s)->fW s=ai)->∀b,U S b->U A b):=by
 obtain⟨L,E⟩:=ua Q;have inj:∀(i:Nat) (s:PO),c[i]?=aa (.own s)->∃a,(d.map aa)[i]?=aa (aa (.ref a))/\f[i]?=aa (aa (.ref a))/\ef K H F s a (S i):=λi s e=>by obtain⟨a,x,y⟩:=B.own i s e;refine⟨a,x,?_,y⟩;rw[p i (P i s e),ii (cJ.mp x).1];exact x
 have bk:∀(i:Nat) (s:PO),c[i]?=aa (.own s)->∃w,m[i]?=aa (.own w)/\l[i]?=aa (.own w):=λi s e=>by
  have M:i<m.length:=by rw[L];exact(cJ.mp e).1
  rcases E i m[i] (by simp[M])with⟨p1,p2,q1,q2,q3⟩|⟨q1,q2⟩
  .exact⟨p2,by rw[dR M,q3],q2⟩
  .rw[e]at q1;exact absurd (dw q1).symm (q2 s)
 refine⟨λi b=>o i b/\∃s,c[i]?=aa (.own s),⟨by rw[L];exact B.len,r.ex,λi pv e=>?_,λi s e=>?_,λi b h=>?_,λi j b x y=>r.dist i j b x.1 y.1⟩,λb ⟨i,h⟩=>⟨i,h.1⟩,λO b ⟨i,h⟩=>?_⟩
 .rcases E i _ e with⟨_,_,_,_,z⟩|⟨q1,_⟩
  .cases z
  .obtain⟨v,x,y⟩:=B.val i pv q1;exact⟨v,x,y.grow g B.fit⟩
 .rcases E i _ e with⟨p1,p2,q1,q2,q3⟩|⟨_,q2⟩
  .cases q3;obtain⟨a,x,y,N⟩:=inj i p1 q1;obtain⟨W,D,G⟩:=r.own i s q2;rw[y]at D;cases D;refine⟨a,x,?_⟩;have T:(λb=>o i b/\∃s,c[i]?=aa (.own s))=o i:=by funext b;exact propext ⟨λz=>z.1,λz=>⟨z,p1,q1⟩⟩
   rw[T];exact G
  .exact absurd rfl (q2 s)
 .obtain⟨s,q⟩:=h.2;obtain⟨w,J,I⟩:=bk i s q;exact⟨⟨w,J⟩,(r.foot i b h.1).2⟩
 .obtain⟨⟨s,q⟩,_⟩:=B.foot i b h;obtain⟨a,x,y,N⟩:=inj i s q;obtain⟨w,J,I⟩:=bk i s q;obtain⟨W,D,G⟩:=r.own i w I;rw[y]at D;cases D;have e:b=a:=(zT N (O i s q) b).mp h;exact⟨i,e ▸ GP G,s,q⟩
end
theorem uB{K:aw}{E:XK}{a:List V}{F:af->Prop}{S:Nat->af->Prop}{H:Hp}{r:R Slot}{Q:VK}(h:uC K E a F S H r Q):r≠.no:=λz=>by rw[z]at h;exact h
theorem zi{K:aw}{g:ak->R Slot}{m:Nat}(f:∀a,g a≠.no->a.length=m):∀b H Q E,bH K g b H Q E->b.length=m:=λb H Q E ⟨F,S,a,c,ok⟩=>by have:=f a (uB ok);have d:=c.len;rw[fG]at d;lia
theorem Ce{X:Cx}{E:XK}{t:List aU}{N O:List Str}{s:List V}{H:Hp}{Q:VK}{n:Nat}{g:ak->R Slot}{d:ak->R aP}{y:List Nat}(hn:N.length=O.length+n)(bn:∀a,g a≠.no->a.length=O.length) (il:∀a,g a≠.no->∀(i:Nat) po,a[i]?=aa (.own po)->i∈y) (Y:∀a p m,g a=.ok p m->(∃pv,p=.val pv)\/∀(i:Nat) po,a[i]?=aa (.own po)->fW po=ai) (hg:∀a,g a≠.no->bC n d a=g a)(hb:eO X E y t d) (fK:bH X.K g s H Q E):ng X t {nx:=λ_ l=>Q .non l,rt:=Q} (L2.start N s) H:=by
 obtain⟨F,S,a,K,ok⟩:=fK;have hl:=bn a (uB ok);have h2:=K.len;rw[fG]at h2;have es:L2.start N s=s.map aa++bW n ae:=by unfold L2.start;rw[show N.length-s.length=n by lia]
 rw[es];refine hb F S _ _ H _ (K.start n) ?_;have T:=il a (uB ok);have Z:=hg a (uB ok);have J:=Y a;rw[<-Z]at ok J;unfold bC at ok J;generalize d (a++bW n .none)=r at ok J ⊢;cases r with
 |no=>exact ok
 |er c h=>
  intro x q B j l C f D;have ok:uC X.K E s F S H ((aW (back a h) []).bind λm _=>.er c m) Q:=ok;cases e:back a h with
  |none=>rw[e]at ok;exact ok.elim
  |some m=>rw[e]at ok;obtain⟨A,u,o,_⟩:=K.back C f D T e;exact ok x q A l u ⟨f.fro,f.keep,f.there,f.fnew,λb z=>f.onew b (o b z)⟩
 |ok fl h=>
  have G:∀(p:Slot),(∀m,back a h=aa m->(∃pv,p=.val pv)\/∀(i:Nat) po,a[i]?=aa (.own po)->fW po=ai)->uC X.K E s F S H ((aW (back a h) []).bind λm _=>.ok p m) Q->∀(v:V) q B j l I,aO X.K q B h j l->bf (U S) (λb=>U B b\/I b) F q H l->g8 y (s.map aa++bW n ae) j->kQ X.K l q p v I->uG q B l I->Q v l:=by
   intro p M ok v q B j l I C f D P L;cases e:back a h with
   |none=>rw[e]at ok;exact ok.elim
   |some m=>
    rw[e]at ok;obtain⟨A,u,o,W⟩:=K.back C f D T e;refine ok v q A l I u ⟨f.fro,f.keep,f.there,f.fnew,λb z=>f.onew b (z.imp (o b) id)⟩ P (λb z=>⟨(L b z).1,λw=>(L b z).2.1 (o b w),(L b z).2.2⟩) λb z=>?_;rcases M m e with⟨pv,rfl⟩|hf
    .exact absurd z (P.2 b)
    rcases f.onew b (.inr z)with w|w
    .exact absurd (o b (W hf b w)) (L b z).2.1
    .exact w
  cases fl with
  |brk=>exact ok.elim
  |cont=>exact ok.elim
  |ret p=>exact G p (λm e=>J p m (by show(aW (back a h) []).bind _=_;rw[e];rfl)) ok
  |next=>exact λq B j l C f D=>G (.val .non) (λ_ _=>.inl ⟨_,rfl⟩) ok .non q B j l (λ_=>False) C ⟨f.fro,f.keep,f.there,f.fnew,λb z=>z.elim (f.onew b) fF⟩ D ⟨rfl,λ_ z=>z⟩ λ_ z=>z.elim
theorem zc{f:af}{p:fE}{C:eJ}{P:aN}{w:aD}{K:aw}{u:Str->Option ah}{j:az}{x b:Str}{h:aU}{N l:List Str}{k n:Nat}{g:ak->R Slot}{d:ak->R aP}{m:List Nat}(Y:mW K x b h f p)(X:b0 N l (aT h))(L:N.length=l.length+n)(hb:∀(kV o t:ah) (z:Option af) (B v:ah) (q:List ah),q.length=l.length->dY (ge x b (iy h) (dX h) (aT h) .none kV o t z B v) ⟨q,[]⟩=pure (l.zip q))(y:∀c,g c≠.no->c.length=l.length) (I:∀c,g c≠.no->∀(i:Nat) po,c[i]?=aa (.own po)->i∈m) (F:∀c r W,g c=.ok r W->(∃pv,r=.val pv)\/∀(i:Nat) po,c[i]?=aa (.own po)->fW po=ai) (M:∀c,g c≠.no->bC n d c=g c)(O:∀(A:aJ) (a:List Env) (s:am) (H:Hp) (E:XK),Room k (A.deeper (gU b (aT h) s.heap.objs.size f p.code))->eO (fX C P w K u j N b (aT h) f p.code A a s H E) E m (dX h) d):jn P w K u j C (k+1) f p l (bH K g):=by obtain⟨oc,od,kV,o,t,z,B,v,D,rfl,G,T⟩:=Y.ex;exact D0 G T X (zi y) λA a s H Z Q E J S=>⟨_,qW,Ce L y I F M (O A a s H E J) S⟩
theorem AQ{f:af}{t:fE}{z:eJ}{P:aN}{w:aD}{K:aw}{v:Str->Option ah}{l:az}{x b:Str}{j:aU}{N m:List Str}{k n:Nat}{g:ak->R Slot}{d:ak->R aP}{p:List Nat}(O:mW K x b j f t)(M:b0 N m (aT j))(C:N.length=m.length+n)(F:∀(kV u B:ah) (L:Option af) (q I:ah) (r:List ah),r.length=m.length->dY (ge x b (iy j) (dX j) (aT j) .none kV u B L q I) ⟨r,[]⟩=pure (m.zip r))(J:∀c,g c≠.no->c.length=m.length) (y:∀c,g c≠.no->∀(i:Nat) o,c[i]?=aa (.own o)->i∈p/\fW o=ai) (D:∀c,g c≠.no->bC n d c=g c)(G:∀(f:af) (q:ah) (A:aJ) (a:List Env) (s:am) (H:Hp) (E:XK),Room k (A.deeper (gU b (aT j) s.heap.objs.size f q))->eO (fX z P w K v l N b (aT j) f q A a s H E) E p (dX j) d):jn P w K v l z (k+1) f t m (bH K g):=zc O M C F J (λc h i o e=>(y c h i o e).1) (λc Q S h=>.inr λi o e=>(y c (by rw[h];exact nofun) i o e).2) D λA a s H E=>G f t.code A a s H E
theorem Lm{u:eJ}{P:aN}{w:aD}{K:aw}{p:Str->Option ah}{c:az}{x:Str}{b:aU}{N j:List Str}{k n:Nat}{g:ak->R Slot}{d:ak->R aP}{l:List Nat}(D:cq K p x b)(M:b0 N j (aT b))(z:N.length=j.length+n)(t:∀(kV q v:ah) (L:Option af) (m I:ah) (o:List ah),o.length=j.length->dY (ge x x (iy b) (dX b) (aT b) .none kV q v L m I) ⟨o,[]⟩=pure (j.zip o))(J:∀a,g a≠.no->a.length=j.length) (y:∀a,g a≠.no->∀(i:Nat) po,a[i]?=aa (.own po)->i∈l/\fW po=ai) (C:∀a,g a≠.no->bC n d a=g a)(F:∀(f:af) (m:ah) (A:aJ) (h:List Env) (s:am) (H:Hp) (E:XK),Room k (A.deeper (gU x (aT b) s.heap.objs.size f m))->eO (fX u P w K p c N x (aT b) f m A h s H E) E l (dX b) d):cD u P w K p c x (k+1) j (bH K g):=by obtain⟨f,G,B,r⟩:=D.ex;exact⟨f,G,B,AQ r M z t J y C F,r.binds t,r.kp⟩
abbrev bJ:=Sum PV Nat
def g7(K:aw)(b:St)(F:af->Prop)(H:Hp):List bJ->List V->Prop
 |[],a=>a=[]
 |.inl pv::c,a=>∃v r,a=v::r/\aR K H F pv v/\g7 K b F H c r
 |.inr i::c,a=>∃v r,a=v::r/\b[i]?=aa (aa v)/\g7 K b F H c r
def DG(X:Cx)(E:XK)(g:List aA)(d:ak->R (List bJ)):Prop :=
 ∀F S b a H Q,aO X.K F S b a H->Ok X.K E a F S H (d b) (λh _ i _ f=>∀c,g7 X.K a i f h c->Q c f)->mJ X g a H Q
section
variable{X:Cx}{E:XK}{e:aA}{b:List aA}{de:ak->R PV}{c:ak->R (List bJ)}{f:Pos}
def bu:ak->R (List bJ):=λε=>.ok [] ε
def gV(d:ak->R PV)(c:ak->R (List bJ)):ak->R (List bJ):=λε=>(d ε).bind λx g=>(c g).bind λxs a=>.ok (.inl x::xs) a
def gO(i:Nat)(c:ak->R (List bJ)):ak->R (List bJ):=λd=>match d[i]? with
 |some (.own _)=>(c d).bind λxs a=>.ok (.inr i::xs) a
 |_=>.no
theorem bz:DG X E [] bu:=λF S g d H Q a h=>mV iR (h F S H a (bf.refl ..) _ rfl)
theorem E3(s:DE X E e de)(r:DG X E b c)(q:aI (e::b) X.env=(aj,aM e X.env)::aI b X.env:=by rfl):DG X E (e::b) (gV de c):=λF S j d H Q n h=>by refine mV (gE bp fv q) (s F S j d H _ n ((Ok.bind h).imp λx a D z B g G u v m=>?_));refine r D z a d B _ g ((Ok.bind u).imp λxs i C y A o w t l p=>?_);exact t C y A o (bf.refl ..) _ ⟨v,l,rfl,m.grow w g.fit,p⟩
theorem fO(i:Nat){x:Str}{p:Pos}(u:DG X E b c)(w:X.N[i]?=aa x:=by rfl)(s:fN X.env.scope x:=by eq_refl)(v:(x==("__debug__":Str))=aj:=by decide)(z:(x==("__classdict__":Str))=aj:=by decide) (t:aI (.Name x p::b) X.env=(aj,aM (.Name x p) X.env)::aI b X.env:=by rfl):DG X E (.Name x p::b) (gO i c):=λF S m j H Q d h=>by
 unfold gO at h;split at h
 .rename_i q e;obtain⟨a,g,_⟩:=d.own i q e;refine mV (gE (ix w s v z) fv t) ⟨_,g,u F S m j H _ d ((Ok.bind h).imp λxs l C A B o D y n r=>?_)⟩;exact y C A B o (bf.refl ..) _ ⟨_,n,rfl,g,r⟩
 .exact h.elim
end
def et(a:ak):List bJ->Option ak
 |[]=>aa []
 |.inl pv::b=>(et a b).map (.val pv::·)
 |.inr i::b=>match a[i]? with
  |some (.own c)=>(et a b).map (.own c::·)
  |_=>ae
def g6:ak->List bJ->ak->ak
 |a,.inl _::c,_::b=>g6 a c b
 |a,.inr i::c,s::b=>g6 (a.set i s) c b
 |a,_,_=>a
def cr:List bJ->List Nat
 |[]=>[]
 |.inl _::as=>cr as
 |.inr i::as=>i::cr as
theorem Aq:∀{as:List bJ}{i:Nat},i∈cr as↔∃k:Nat,as[k]?=aa (.inr i)
 |[],i=>by simp[cr]
 |.inl _::as,i=>by
  unfold cr;rw[Aq];constructor
  .rintro⟨k,h⟩;exact⟨k+1,by simpa using h⟩
  .rintro⟨k,h⟩;cases k with
   |zero=>simp at h
   |succ k=>exact⟨k,by simpa using h⟩
 |.inr j::as,i=>by
  unfold cr;rw[bT,Aq];constructor
  .rintro(rfl|⟨k,h⟩)
   .exact⟨0,rfl⟩
   .exact⟨k+1,by simpa using h⟩
  .rintro⟨k,h⟩;cases k with
   |zero=>simp at h;exact .inl h.symm
   |succ k=>exact .inr ⟨k,by simpa using h⟩
theorem ut{d:ak}:∀{a:List bJ}{c:ak},et d a=aa c->c.length=a.length/\∀(k:Nat) (s:Slot),c[k]?=aa s->(∃pv,a[k]?=aa (.inl pv)/\s=.val pv)\/∃i f,a[k]?=aa (.inr i)/\d[i]?=aa (.own f)/\s=.own f
 |[],c,h=>by cases h;exact⟨rfl,λk s e=>by simp at e⟩
 |.inl pv::a,c,h=>by
  unfold et at h;cases e:et d a with
  |none=>rw[e]at h;cases h
  |some r=>
   rw[e]at h;cases h;obtain⟨l,q⟩:=ut e;refine⟨by simp[l],λk s b=>?_⟩;cases k with
   |zero=>simp at b;exact .inl ⟨pv,rfl,b.symm⟩
   |succ k=>simpa using q k s (by simpa using b)
 |.inr i::a,c,h=>by
  unfold et at h;split at h
  .rename_i f g;cases e:et d a with
   |none=>rw[e]at h;cases h
   |some r=>
    rw[e]at h;cases h;obtain⟨l,q⟩:=ut e;refine⟨by simp[l],λk s b=>?_⟩;cases k with
    |zero=>simp at b;exact .inr ⟨i,f,rfl,g,b.symm⟩
    |succ k=>simpa using q k s (by simpa using b)
  .cases h
theorem tN:∀(c:List bJ) (a b:ak),(g6 a c b).length=a.length
 |[],a,b=>by cases b <;> rfl
 |.inl _::c,a,[]=>rfl
 |.inr _::c,a,[]=>rfl
 |.inl _::c,a,s::b=>tN c a b
 |.inr i::c,a,s::b=>by show(g6 (a.set i s) c b).length=_;rw[tN,e_]
theorem pr:∀(a:List bJ) (b c:ak) (j:Nat),j∉cr a->(g6 b a c)[j]?=b[j]?
 |[],b,c,j,_=>by cases c <;> rfl
 |.inl _::a,b,[],j,_=>rfl
 |.inr _::a,b,[],j,_=>rfl
 |.inl _::a,b,s::c,j,h=>pr a b c j h
 |.inr i::a,b,s::c,j,h=>by
  have d:¬(j=i\/j∈cr a):=by simpa[cr]using h
  show(g6 (b.set i s) a c)[j]?=_;rw[pr a _ c j λz=>d (.inr z),dH λz=>d (.inl z.symm)]
theorem qb:∀(a:List bJ) (b c:ak) (j k:Nat) (s:Slot),(cr a).Nodup->j<b.length->a[k]?=aa (.inr j)->c[k]?=aa s->(g6 b a c)[j]?=aa s
 |[],b,c,j,k,s,_,_,h,_=>by simp at h
 |_::a,b,[],j,k,s,_,_,_,h=>by simp at h
 |.inl _::a,b,t::c,j,0,s,_,_,h,_=>by simp at h
 |.inl _::a,b,t::c,j,k+1,s,nd,hj,h,g=>qb a b c j k s nd hj (by simpa using h) (by simpa using g)
 |.inr i::a,b,t::c,j,0,s,nd,hj,h,g=>by simp at h g;subst h g;have d:i∉cr a:=(mf.mp nd).1;show(g6 (b.set i t) a c)[i]?=_;rw[pr a _ c i d,eX hj]
 |.inr i::a,b,t::c,j,k+1,s,nd,hj,h,g=>qb a (b.set i t) c j k s (mf.mp nd).2 (by rw[e_];exact hj) (by simpa using h) (by simpa using g)
theorem g7.len{K:aw}{b:St}{F:af->Prop}{H:Hp}:∀{a:List bJ}{vs:List V},g7 K b F H a vs->vs.length=a.length
 |[],_,h=>by rw[show _=[] from h];rfl
 |.inl _::a,_,⟨v,r,e,_,h⟩=>by rw[e,gf,gf,g7.len h]
 |.inr _::a,_,⟨v,r,e,_,h⟩=>by rw[e,gf,gf,g7.len h]
theorem g7.val{K:aw}{d:St}{F:af->Prop}{H:Hp}:∀{as:List bJ}{c:List V}{k:Nat}{pv:PV},g7 K d F H as c->as[k]?=aa (.inl pv)->∃v,c[k]?=aa v/\aR K H F pv v
 |[],_,k,_,_,e=>by simp at e
 |.inl x::as,_,0,pv,⟨v,r,e,h,_⟩,q=>by simp at q;subst q e;exact⟨v,rfl,h⟩
 |.inr _::as,_,0,pv,_,q=>by simp at q
 |.inl x::as,_,k+1,pv,⟨v,r,e,_,h⟩,q=>by obtain⟨w,a,b⟩:=g7.val (k:=k) h (by simpa using q);subst e;exact⟨w,by simpa using a,b⟩
 |.inr x::as,_,k+1,pv,⟨v,r,e,_,h⟩,q=>by obtain⟨w,a,b⟩:=g7.val (k:=k) h (by simpa using q);subst e;exact⟨w,by simpa using a,b⟩
theorem g7.own{K:aw}{c:St}{F:af->Prop}{H:Hp}:∀{as:List bJ}{d:List V}{k i:Nat},g7 K c F H as d->as[k]?=aa (.inr i)->∃v,d[k]?=aa v/\c[i]?=aa (aa v)
 |[],_,k,_,_,e=>by simp at e
 |.inr x::as,_,0,pv,⟨v,r,e,h,_⟩,q=>by simp at q;subst q e;exact⟨v,rfl,h⟩
 |.inl _::as,_,0,pv,_,q=>by simp at q
 |.inl x::as,_,k+1,pv,⟨v,r,e,_,h⟩,q=>by obtain⟨w,a,b⟩:=g7.own (k:=k) h (by simpa using q);subst e;exact⟨w,by simpa using a,b⟩
 |.inr x::as,_,k+1,pv,⟨v,r,e,_,h⟩,q=>by obtain⟨w,a,b⟩:=g7.own (k:=k) h (by simpa using q);subst e;exact⟨w,by simpa using a,b⟩
section
variable{K:aw}{F y:af->Prop}{S m:Nat->af->Prop}{c s f:ak}{t:St}{H u:Hp}{as:List bJ}{d:List V}
def j5(as:List bJ)(S:Nat->af->Prop)(k:Nat)(b:af):Prop:=∃i,as[k]?=aa (.inr i)/\S i b
theorem ug(b:af)(h:U (j5 as S) b):U S b:=let ⟨_,i,_,h⟩:=h;⟨i,h⟩
theorem uN:∀{as:List bJ}{i k l:Nat},(cr as).Nodup->as[k]?=aa (.inr i)->as[l]?=aa (.inr i)->k=l
 |[],_,_,_,_,h,_=>by simp at h
 |.inl _::as,i,0,_,_,h,_=>by simp at h
 |.inl _::as,i,_,0,_,_,h=>by simp at h
 |.inl _::as,i,k+1,l+1,nd,h1,h2=>by rw[uN (as:=as) (i:=i) (k:=k) (l:=l) nd (by simpa using h1) (by simpa using h2)]
 |.inr j::as,i,0,0,_,_,_=>rfl
 |.inr j::as,i,0,l+1,nd,h1,h2=>by simp at h1;subst h1;exact absurd (Aq.mpr ⟨l,by simpa using h2⟩) (mf.mp nd).1
 |.inr j::as,i,k+1,0,nd,h1,h2=>by simp at h2;subst h2;exact absurd (Aq.mpr ⟨k,by simpa using h1⟩) (mf.mp nd).1
 |.inr j::as,i,k+1,l+1,nd,h1,h2=>by rw[uN (as:=as) (i:=i) (k:=k) (l:=l) (mf.mp nd).2 (by simpa using h1) (by simpa using h2)]
theorem aO.cal(r:aO K F S c t H)(B:g7 K t F H as d)(J:et c as=aa s)(I:(cr as).Nodup):aO K F (j5 as S) s (d.map aa) H:=by
 obtain⟨E,A⟩:=ut J;have C:∀{k:Nat}{v:V},d[k]?=aa v->(d.map aa)[k]?=aa (aa v):=λ{k v} e=>by rw[jE,e];rfl
 refine⟨by rw[E,fG,B.len],r.ex,λk pv e=>?_,λk D e=>?_,λk b h=>?_,λk l b g o=>?_⟩
 .rcases A k _ e with⟨p,q1,n⟩|⟨_,_,_,_,z⟩
  .cases n;obtain⟨v,x,w⟩:=B.val q1;exact⟨v,C x,w⟩
  .cases z
 .rcases A k _ e with⟨_,_,z⟩|⟨i,p,q1,n,q3⟩
  .cases z
  .cases q3;obtain⟨v,x,w⟩:=B.own q1;obtain⟨a,b1,b2⟩:=r.own i D n;rw[w]at b1;cases b1;have L:j5 as S k=S i:=by
    funext b;exact propext ⟨λ⟨j,g,o⟩=>by rw[q1]at g;cases g;exact o,λh=>⟨i,q1,h⟩⟩
   exact⟨a,C x,by rw[L];exact b2⟩
 .obtain⟨i,g,o⟩:=h;obtain⟨⟨D,q⟩,n⟩:=r.foot i b o;have G:k<s.length:=by rw[E];exact(cJ.mp g).1
  refine⟨?_,n⟩;rcases A k s[k] (by simp[G])with⟨_,z,_⟩|⟨j,p,z1,z2,z3⟩
  .rw[g]at z;cases z
  .exact⟨p,by rw[dR G,z3]⟩
 .obtain⟨i,x,w⟩:=g;obtain⟨j,b1,b2⟩:=o;have:=r.dist i j b w b2;subst this;exact uN I x b1
theorem aO.called{O':af->Prop}(r:aO K F S c t H)(ha:g7 K t F H as d)(hs:et c as=aa s)(P:(cr as).Nodup)(N:aO K y m f (d.map aa) u)(g:bf (U (j5 as S)) O' F y H u)(hO:∀b,U m b->O' b)(L:∀(k:Nat) i,as[k]?=aa (.inr i)->∃C,f[k]?=aa (.own C)):∃Y,aO K y Y (g6 c as f) t u/\bf (U S) (U Y) F y H u/\∀b,U Y b->U m b\/U S b:=by
 have up:∀{k:Nat}{v:V},(d.map aa)[k]?=aa (aa v)->d[k]?=aa v:=λ{k v} e=>by
  rw[jE]at e;cases q:d[k]? with
  |none=>rw[q]at e;cases e
  |some x=>rw[q]at e;cases e;rfl
 have fit:Fit (U (j5 as S)) F H:=λb h=>r.fit b (ug b h);have J:∀i C,c[i]?=aa (.own C)->i<c.length:=λi C e=>(cJ.mp e).1;have lt:∀(k:Nat) i,as[k]?=aa (.inr i)->i<c.length:=λk i e=>by
  obtain⟨hl,hg⟩:=ut hs;have D:k<s.length:=by rw[hl];exact(cJ.mp e).1
  rcases hg k s[k] (by simp[D])with⟨_,z,_⟩|⟨j,p,z1,z2,z3⟩
  .rw[e]at z;cases z
  .rw[e]at z1;cases z1;exact J _ _ z2
 refine⟨λj b=>(∃k:Nat,as[k]?=aa (.inr j)/\m k b)\/(j∉cr as/\S j b),⟨by rw[tN];exact r.len,N.ex,λj pv e=>?_,λj C e=>?_,λj b h=>?_,λi j b A B=>?_⟩,⟨g.fro,λb o e n=>g.keep b o e λz=>n (ug b z),g.there,λa z=>(g.fnew a z).imp id λw=>w.imp id (ug a),λb ⟨j,z⟩=>?_⟩,λb ⟨j,z⟩=>?_⟩
 .by_cases G:j∈cr as
  .obtain⟨k,D⟩:=Aq.mp G;obtain⟨C,q⟩:=L k j D;rw[qb as c f j k _ P (lt k j D) D q]at e;cases e
  .rw[pr as c f j G]at e;obtain⟨v,A,B⟩:=r.val j pv e;exact⟨v,A,B.grow g fit⟩
 .by_cases G:j∈cr as
  .obtain⟨k,D⟩:=Aq.mp G;obtain⟨po',q⟩:=L k j D;rw[qb as c f j k _ P (lt k j D) D q]at e;cases e;obtain⟨a,A,B⟩:=N.own k C q;obtain⟨v,Q,X⟩:=ha.own D;rw[up A]at Q;cases Q;have W:(λb=>(∃k:Nat,as[k]?=aa (.inr j)/\m k b)\/(j∉cr as/\S j b))=m k:=by
    funext b;refine propext ⟨λz=>?_,λz=>.inl ⟨k,D,z⟩⟩;rcases z with⟨l,z1,z2⟩|⟨z,_⟩
    .rw[uN P D z1];exact z2
    .exact absurd G z
   exact⟨a,X,by rw[W];exact B⟩
  .rw[pr as c f j G]at e;obtain⟨a,A,B⟩:=r.own j C e;have W:(λb=>(∃k:Nat,as[k]?=aa (.inr j)/\m k b)\/(j∉cr as/\S j b))=S j:=by
    funext b;refine propext ⟨λz=>?_,λz=>.inr ⟨G,z⟩⟩;rcases z with⟨l,z1,z2⟩|⟨_,z⟩
    .exact absurd (Aq.mpr ⟨l,z1⟩) G
    .exact z
   have h3:ef K u y C a (S j):=by refine B.mono (λ_ _ q=>q.grow g fit) (λ_ _ q=>q.grow g fit) λb o z q=>g.keep b o q λ⟨l,i,M,I⟩=>?_;have:=r.dist i j b I z;subst this;exact G (Aq.mpr ⟨l,M⟩)
   exact⟨a,A,by rw[W];exact h3⟩
 .rcases h with⟨k,A,B⟩|⟨A,B⟩
  .obtain⟨⟨C,q⟩,T⟩:=N.foot k b B;exact⟨⟨C,qb as c f j k _ P (lt k j A) A q⟩,T⟩
  .obtain⟨⟨C,q⟩,T,o,O,q4⟩:=r.foot j b B;have no:¬U (j5 as S) b:=λ⟨l,i,M,I⟩=>by have:=r.dist i j b I B;subst this;exact A (Aq.mpr ⟨l,M⟩)
   refine⟨⟨C,by rw[pr as c f j A];exact q⟩,λz=>?_,o,g.keep b o O no,q4⟩;rcases g.fnew b z with w|w|w
   .exact T w
   .rw[O]at w;cases w
   .exact no w
 .have E:∀{i j:Nat}{b:af},(∃k:Nat,as[k]?=aa (.inr i)/\m k b)->(j∉cr as/\S j b)->False:=λ{i j b} ⟨k,M,I⟩ ⟨w3,Z⟩=>by
   obtain⟨_,_,o,O,_⟩:=r.foot j b Z;rcases g.onew b (hO b ⟨k,I⟩)with⟨l,i',z1,z2⟩|z
   .have:=r.dist i' j b z2 Z;subst this;exact w3 (Aq.mpr ⟨l,z1⟩)
   .rw[O]at z;cases z
  rcases A with A|A <;> rcases B with B|B
  .obtain⟨k,Q,X⟩:=A;obtain⟨l,b1,b2⟩:=B;have:=N.dist k l b X b2;subst this;rw[Q]at b1;cases b1;rfl
  .exact(E A B).elim
  .exact(E B A).elim
  .exact r.dist i j b A.2 B.2
 .rcases z with⟨k,_,z⟩|⟨_,z⟩
  .rcases g.onew b (hO b ⟨k,z⟩)with w|w
   .exact .inl (ug b w)
   .exact .inr w
  .exact .inl ⟨j,z⟩
 .rcases z with⟨k,_,z⟩|⟨_,z⟩
  .exact .inl ⟨k,z⟩
  .exact .inr ⟨j,z⟩
end
def DR(X:Cx)(E:XK)(e:aA)(d:ak->R Slot):Prop :=
 ∀F S f a H Q,aO X.K F S f a H->Ok X.K E a F S H (d f) (λs _ h i c=>∀v g,kQ X.K c h s v g->(∀b,g b->H b=ae/\¬h b/\¬U i b/\∃o,c b=aa o/\c7 o)->Q v c)->iO X e a H Q
def gH:List bJ->ak->Bool
 |[],_=>ai
 |.inl _::as,_::ss=>gH as ss
 |.inr _::as,.own _::ss=>gH as ss
 |_,_=>aj
theorem kM:∀{as:List bJ}{ss:ak},gH as ss=ai->∀(k:Nat) i,as[k]?=aa (.inr i)->∃a,ss[k]?=aa (.own a)
 |[],_,_,k,i,h=>by simp at h
 |.inl _::as,s::ss,q,0,i,h=>by simp at h
 |.inl _::as,s::ss,q,k+1,i,h=>by simpa using kM (as:=as) (ss:=ss) (by unfold gH at q;exact q) k i (by simpa using h)
 |.inr _::as,.own a::ss,q,0,i,h=>⟨a,rfl⟩
 |.inr _::as,.own a::ss,q,k+1,i,h=>by simpa using kM (as:=as) (ss:=ss) (by unfold gH at q;exact q) k i (by simpa using h)
 |.inr _::as,.val _::ss,q,k,i,h=>by cases q
 |.inr _::as,.none::ss,q,k,i,h=>by cases q
 |.inl _::as,[],q,k,i,h=>by cases q
 |.inr _::as,[],q,k,i,h=>by cases q
def gu{f:Type}(d:ak)(b:List bJ)(r:R f):R f:=match r with
 |.ok s a=>if gH b a then .ok s (g6 d b a)else .no
 |.er c a=>if gH b a then .er c (g6 d b a)else .no
 |.no=>.no
def a7(g:ak->R Slot)(d:ak->R (List bJ)):ak->R Slot:=λε=>(d ε).bind λb a=>(aW (if(cr b).Nodup then et a b else ae) a).bind λc a=>gu a b (g c)
section
variable{l:eJ}{X:Cx}{E:XK}{pin:List Nat}{e:aA}{es:List aA}{j:ak->R (List bJ)}{pos:Pos}{x:Str}{k:Nat}{m:List Str}{g:ak->R Slot}{p:Pos}{d:ak->R Slot}
theorem Bw{K:aw}{F0 r:af->Prop}{S0 B:Nat->af->Prop}{a:ak}{F:St}{H n:Hp}{c:List bJ}{Y:List V}{Q:VK}(u:aO K r B a F n)(g1:bf (U S0) (U B) F0 r H n)(O:g7 K F r n c Y)(q:Ok K E F r B n ((aW (if(cr c).Nodup then et a c else ae) a).bind λC a=>gu a c (g C)) λs _ t T h=>∀v D,kQ K h t s v D->(∀b,D b->H b=ae/\¬t b/\¬U T b/\∃o,h b=aa o/\c7 o)->Q v h):bH K g Y n Q E:=by
 have q:=Ok.bind q;by_cases A:(cr c).Nodup
 .rw[if_pos A]at q;cases es:et a c with
  |none=>rw[es]at q;exact q.elim
  |some C=>
   rw[es]at q;have q:=q r B n u (bf.refl ..);dsimp only at q;refine⟨r,j5 c B,C,u.cal O es A,?_⟩;cases N:g C with
   |no=>rw[N]at q;exact q.elim
   |er cv P=>
    rw[N]at q;intro y t T h I M;unfold gu at q;dsimp only at q;by_cases f:gH c P=ai
    .rw[if_pos f]at q;obtain⟨S,G,L,_⟩:=u.called O es A I M (λ_ z=>z) (kM f);exact q y t S h G L
    .rw[if_neg f]at q;exact q.elim
   |ok s P=>
    rw[N]at q;intro v t T h D I M rv J Z;unfold gu at q;dsimp only at q;by_cases f:gH c P=ai
    .rw[if_pos f]at q;obtain⟨S,G,L,u2⟩:=u.called O es A I M (λ_ z=>.inl z) (kM f);refine q t S h G L v D rv λb z=>⟨lR g1 (Z b z),(J b z).1,λw=>?_,(J b z).2.2⟩
     rcases u2 b w with w|⟨i,w⟩
     .exact(J b z).2.1 w
     .obtain⟨_,_,o,W,_⟩:=u.foot i b w;rw[Z b z]at W;cases W
    .rw[if_neg f]at q;exact q.elim
 .rw[if_neg A]at q;exact q.elim
theorem bG(c:cD l X.prog X.w X.K X.mg X.base x k m (bH X.K g))(s:Room k X.A)(r:o8 l X E)(z:DG X E (e::es) j)(v:Gl X x:=by rfl)(w:(x==("__debug__":Str))=aj:=by decide) (B:aI (e::es) X.env=(aj,aM e X.env)::aI es X.env:=by rfl) (A:(cg pos (aI es X.env)).any (·.1)=aj:=by rfl):DR X E (.Call (.Name x p) (e::es) [] pos) (a7 g j):=λF S i a H Q n h=>by obtain⟨f,J,t,G,y,u⟩:=c.ex;refine bO (zI G s v t u y .nil r fv w B A) (z F S i a H _ n ((Ok.bind h).imp λK b N L M o C q I D=>?_));rw[iA];exact Bw o C D q
def B0:Slot->Option PV
 |.val pv=>aa pv
 |.own (.lst xs)=>aa (.lst xs)
 |_=>ae
def ba(d:ak->R Slot):ak->R PV:=λε=>(d ε).bind λs a=>aW (B0 s) a
def Bf:Slot->Option PO
 |.own a=>aa a
 |_=>ae
def t_(d:ak->R Slot):ak->R PO:=λb=>(d b).bind λs a=>aW (Bf s) a
theorem DR.dn(h:DR X E e d):DN X E e (t_ d):=λF S f i H Q t q=>by
 unfold t_ at q;refine h F S f i H Q t ?_;cases b:d f with
 |no=>rw[b]at q;exact q.elim
 |er c o=>rw[b]at q;exact q
 |ok s n=>
  rw[b]at q;cases s with
  |none=>exact q.elim
  |val pv=>exact q.elim
  |own G=>intro D B C u y v A r z;obtain⟨a,rfl,w⟩:=r;exact q D B C u y a A w z
theorem DR.de(h:DR X E e d):DE X E e (ba d):=λF S ε f H Q i q=>by
 unfold ba at q;cases b:d ε with
 |no=>rw[b]at q;exact q.elim
 |er c o=>refine h F S ε f H Q i ?_;rw[b]at q ⊢;exact q
 |ok s n=>
  cases s with
  |none=>rw[b]at q;exact q.elim
  |val pv=>refine h F S ε f H Q i ?_;rw[b]at q ⊢;exact λB z A t w v I r G=>q B z A t w v r.1
  |own u=>
   refine h.dn.de F S ε f H Q i ?_;unfold dF t_;rw[b]at q ⊢;cases u with
   |lst xs=>exact q
   |dK a=>exact q
   |lls D=>exact q
   |ins C fs=>exact q
   |dT a=>exact q
   |dN a=>exact q
   |inl C fs y xs=>exact q
def mM(d:ak->R Slot):ak->R aP:=λb=>(d b).bind λs a=>.ok (.ret s) a
theorem tw(B:DR X E e d):DS X E pin (.Return (aa e) pos) (mM d):=λF S n f H D u h=>by
 refine jc (vY bp) (B F S n f H _ u ?_);unfold mM at h;cases i:d n with
 |no=>rw[i]at h;exact h.elim
 |er c r=>rw[i]at h;exact λx N J L A C=>h x N J f L A C (g8.refl _ _)
 |ok s q=>rw[i]at h;intro M I K y a v G t o;exact h v M I f K G y ⟨a.fro,a.keep,a.there,a.fnew,λb z=>z.elim (a.onew b) λw=>.inr (o b w).1⟩ (g8.refl _ _) t λb z=>(o b z).2
def rD(d:ak->R Slot):ak->R aP:=λb=>(d b).bind λ_ a=>.ok .next a
theorem vI(o:DR X E e d)(n:l_ e ae pos.line X.env=pure aj:=by rfl):DS X E pin (.Expr e pos) (rD d):=λF S c a H D f h=>jc (wI bp n) (o F S c a H _ f (h.bindE.imp λx b t r s i w q v z u y=>q t r a s i (bf.refl ..) (g8.refl _ _)))
end
def fg(ε:ak):List Nat->Option (List bJ)
 |[]=>aa []
 |j::cap=>match ε[j]? with
  |some (.val pv)=>(fg ε cap).map (.inl pv::·)
  |some (.own _)=>(fg ε cap).map (.inr j::·)
  |_=>ae
def f8{b:Type}(cap:List Nat)(d:ak->R b)(x:PV):ak->R b:=λε=>(aW (fg ε cap) ε).bind λa _=>(aW (if(cr a).Nodup then et ε (.inl x::a)else ae) ε).bind λc _=>gu ε (.inl x::a) (d c)
def cG{a:Type}(r:R a):R a:=match r with
 |.er _ _=>.no
 |r=>r
def kP(a:List Nat)(dt:ak->R Bool)(de:ak->R PV):List PV->List PV->ak->R (List PV)
 |[],c,f=>.ok c f
 |x::xs,c,f=>(cG (f8 a dt x f)).bind λk b=>match k with
  |true=>(cG (f8 a de x b)).bind λy d=>kP a dt de xs (c++[y]) d
  |false=>kP a dt de xs c b
def hV(cap:List Nat)(d:ak->R (List PV))(dt:ak->R Bool)(de:ak->R PV):ak->R PO:=λε=>(d ε).bind λxs b=>(kP cap dt de xs [] b).bind λc a=>.ok (.lst c) a
theorem vJ{K:aw}{F:af->Prop}{S:Nat->af->Prop}{f:ak}{d:St}{H:Hp}(r:aO K F S f d H):∀{b:List Nat}{i:List bJ},fg f b=aa i->∃c,g7 K d F H i c/\fU d b=c.map aa
 |[],i,h=>by cases h;exact⟨[],rfl,rfl⟩
 |j::b,i,h=>by
  unfold fg at h;split at h
  .rename_i pv e;cases q:fg f b with
   |none=>rw[q]at h;cases h
   |some bs=>
    rw[q]at h;cases h;obtain⟨c,m,l⟩:=vJ r q;obtain⟨v,g,n⟩:=r.val j pv e;refine⟨v::c,⟨v,c,rfl,n,m⟩,?_⟩;show(d[j]?).join::fU d b=_;rw[g,l];rfl
  .rename_i o e;cases q:fg f b with
   |none=>rw[q]at h;cases h
   |some bs=>
    rw[q]at h;cases h;obtain⟨c,m,l⟩:=vJ r q;obtain⟨a,g,n⟩:=r.own j o e;refine⟨.ref a::c,⟨_,c,rfl,g,m⟩,?_⟩;show(d[j]?).join::fU d b=_;rw[g,l];rfl
  .cases h
theorem zj{K:aw}{E:XK}{F:af->Prop}{S:Nat->af->Prop}{s:ak}{f:St}{H:Hp}{G:Type}{b:List Nat}{d:ak->R G}{x:PV}{v:V}{C:G->ak->(af->Prop)->(Nat->af->Prop)->Hp->Prop}(r:aO K F S s f H) (N:aR K H F x v) (h:Ok K E f F S H (cG (f8 b d x s)) C):∃L l,aO K F L l (aa v::fU f b) H/\Ok K E0 (aa v::fU f b) F L H (d l) (λa _ q _ p=>∃j u,aO K q u j f p/\bf (U S) (U u) F q H p/\C a j q u p):=by
 unfold f8 at h;cases B:fg s b with
 |none=>rw[B]at h;exact h.elim
 |some g=>
  rw[B]at h;simp only[dP,R.bind_ok]at h;by_cases y:(cr g).Nodup
  .rw[if_pos y]at h;cases t:et s (.inl x::g)with
   |none=>rw[t]at h;exact h.elim
   |some l=>
    rw[t]at h;simp only[dP,R.bind_ok]at h;obtain⟨w,T,Q⟩:=vJ r B;have o:g7 K f F H (.inl x::g) (v::w):=⟨v,w,rfl,N,T⟩
    have n:aa v::fU f b=(v::w).map aa:=by rw[Q];rfl
    have m:(cr (.inl x::g)).Nodup:=y;refine⟨j5 (.inl x::g) S,l,by rw[n];exact r.cal o t m,?_⟩;rw[n];cases A:d l with
    |no=>rw[A]at h;exact h.elim
    |er c D=>
     rw[A]at h;unfold gu at h;dsimp only at h;by_cases i:gH (.inl x::g) D=ai
     .rw[if_pos i]at h;exact h.elim
     .rw[if_neg i]at h;exact h.elim
    |ok a D=>
     rw[A]at h;intro q u p O P;unfold gu at h;dsimp only at h;by_cases i:gH (.inl x::g) D=ai
     .rw[if_pos i]at h;obtain⟨M,I,J,_⟩:=r.called o t m O P (λ_ z=>z) (kM i);exact⟨_,M,I,J,h q M p I J⟩
     .rw[if_neg i]at h;exact h.elim
  .rw[if_neg y]at h;exact h.elim
def wF(X:Cx)(a:List aA):TT:=λb H Q=>Bx (∀d s,Inv X d b H s->aq (au X.prog X.w) X.A (forIn a ai λc r=>if r=ai then do let ok <-k6 c X.env (aM c X.env);pure (ForInStep.yield ok)else pure (ForInStep.yield r)) (TP X d b Q) X.xe s)
def DF(X:Cx)(E:XK)(c:List aA)(d:ak->R Bool):Prop:=∀F S f a H Q,aO X.K F S f a H->Ok X.K E a F S H (d f) (λb _ _ _ g=>Q b g)->wF X c a H Q
def iT:ak->R Bool:=λε=>.ok ai ε
theorem tL{X:Cx}{E:XK}:DF X E [] iT:=λF S d a H Q b h=>⟨λc s I=>Gy c s a H Q I (h F S H b (bf.refl ..))⟩
theorem HX{X:Cx}{E:XK}{c:aA}{d:ak->R Bool}(h:DT X E c d):DF X E [c] d:=λF S b a H Q f q=>⟨λg s I=>Lq lS g s a H Q I (h F S b a H Q f q)⟩
theorem Ok.bindB{K:aw}{E:XK}{b:St}{F s:af->Prop}{S n:Nat->af->Prop}{H p:Hp}{j i:Type}{D:i->ak->(af->Prop)->(Nat->af->Prop)->Hp->Prop}{r:R j}{k:j->ak->R i}(h:Ok K E b F S H (r.bind k) D)(g:bf (U S) (U n) F s H p):Ok K E b s n p r (λa d _ _ _=>Ok K E b F S H (k a d) D):=by
 cases r with
 |no=>exact h
 |er c f=>exact λx t o q l m=>h x t o q l (g.trans m)
 |ok a f=>exact λt o q l m=>h
section
variable{X:Cx}{E:XK}{c:cN}{x:Str}{N':List Str}{cap:List Nat}
theorem bf.stay{O a F d:af->Prop}{H b:Hp}(g:bf O a F d H b){l:af}{o:HO}(e:H l=aa o)(n:¬O l)(f:¬F l):b l=aa o/\¬d l/\¬a l :=
 ⟨g.keep l o e n,λz=>(g.fnew l z).elim f λw=>w.elim (λq=>by rw[e]at q;cases q) n,λz=>(g.onew l z).elim n λq=>by rw[e]at q;cases q⟩
theorem aO.lay{K:aw}{F:af->Prop}{S:Nat->af->Prop}{i:ak}{h:St}{H:Hp}{l:af}{o o':HO}(r:aO K F S i h H)(v:H l=aa o)(no:c7 o)(u:¬F l)(nS:¬U S l):bf (λb=>U S b\/b=l) (U S) F F H (L2.upd H l o')/\Fit (λb=>U S b\/b=l) F H/\aO K F S i h (L2.upd H l o'):=by
 have f:bf (λb=>U S b\/b=l) (U S) F F H (L2.upd H l o'):=⟨λ_ z=>z,λb o e n=>by rw[bM λz=>n (.inr z)];exact e,λb o e=>by
  by_cases m:b=l
  .subst m;exact⟨_,cI⟩
  .exact⟨o,by rw[bM m];exact e⟩,λ_ z=>.inl z,λ_ z=>.inl (.inl z)⟩
 have g:Fit (λb=>U S b\/b=l) F H:=λb z=>by
  rcases z with z|rfl
  .exact r.fit b z
  .exact⟨u,_,v,no⟩
 refine⟨f,g,r.len,λb z=>let ⟨o,q⟩:=r.ex b z;f.there b o q,λj pv e=>?_,λj t e=>?_,λj b z=>?_,r.dist⟩
 .obtain⟨w,d,a⟩:=r.val j pv e;exact⟨w,d,a.grow f g⟩
 .obtain⟨w,d,a⟩:=r.own j t e;refine⟨w,d,a.mono (λ_ _ q=>q.grow f g) (λ_ _ q=>q.grow f g) λb o z q=>?_⟩;rw[bM (by rintro rfl;exact nS ⟨j,z⟩)];exact q
 .obtain⟨d,a,o,s,p⟩:=r.foot j b z;exact⟨d,a,o,by rw[bM (by rintro rfl;exact nS ⟨j,z⟩)];exact s,p⟩
theorem bf.lay{O d F h:af->Prop}{H f:Hp}{l:af}{o':HO}(g:bf O d F h H f)(a:H l=ae):bf O d F h H (L2.upd f l o'):=by
 refine⟨g.fro,λb o e n=>?_,λb o e=>?_,g.fnew,g.onew⟩
 .rw[bM (by rintro rfl;rw[a]at e;cases e)];exact g.keep b o e n
 .obtain⟨i,q⟩:=g.there b o e;exact⟨i,by rw[bM (by rintro rfl;rw[a]at e;cases e)];exact q⟩
theorem Hm{elt w:aA}{px:Pos}{ifs:List aA}{di:ak->R (List PV)}{dt:ak->R Bool}{de:ak->R PV}(hi:DI X E (.Name x px) w di)(ht:∀C d f r p,DF (cQ X c N' C d f r p) E0 ifs dt) (he:∀C d f r p,DE (cQ X c N' C d f r p) E0 elt de){F:af->Prop}{S:Nat->af->Prop}{ε:ak}{j:St}{H:Hp}{Q:VK} (rl:aO X.K F S ε j H) (h:Ok X.K E j F S H (hV cap di dt de ε) (λpo _ s K g=>∀a Sa,ef X.K g s po a Sa->(∀b,Sa b->H b=ae/\¬s b/\¬U K b/\∃o,g b=aa o/\c7 o)->Q (.ref a) g)):Co (rz X (.Name x px) w) (λj H Q=>∀C d f r p,wF (cQ X c N' C d f r p) ifs j H Q) (λj H Q=>∀C d f r p,iO (cQ X c N' C d f r p) elt j H Q) cap j H Q:=by
 refine hi F S ε j H _ rl ((Ok.bind h).imp λxs ε1 M S1 H1 r1 g1 h1 J vs RR rs hz hw keep l hl=>?_);have h1:=h1.bind;have hvl:vs.length=xs.length:=rs.len;have a0:Al M M H1 (upd H1 l (.lst [])):=Al.new0 hl;have nF1:¬M l:=λz=>by obtain⟨o,q⟩:=r1.ex l z;rw[hl]at q;cases q
 have nS1:¬U S1 l:=λ⟨i,z⟩=>by obtain⟨_,_,o,q,_⟩:=r1.foot i l z;rw[hl]at q;cases q
 have hH:H l=ae:=lR g1 hl;refine⟨λi m B g=>m=xs.length-i/\i<=xs.length/\∃s K W O,aO X.K s K W j g/\bf (U S1) (U K) M s H1 g/\g l=aa (.lst B)/\¬s l/\¬U K l/\aZ X.K g s O B/\B.length<=i /\ Ok X.K E j M S1 H1 (kP cap dt de (xs.drop i) O W) (λys' t P S2 L=>Ok X.K E j P S2 L (R.ok (PO.lst ys') t) (λpo _ s K g=>∀a Sa,ef X.K g s po a Sa->(∀b,Sa b->H b=ae/\¬s b/\¬U K b/\∃o,g b=aa o/\c7 o)->Q (.ref a) g)),⟨_,rfl,li _,M,S1,ε1,[],r1.al a0,a0.grow,cI,nF1,nS1,rfl,a8 _,h1⟩,?_⟩;rintro i m B L ⟨rfl,hi,P,S2,t,O,N,I,el,nF2,nS2,n,hyl,q2⟩;have RH:=keep S2 P L I;by_cases aX:i<xs.length
 .obtain⟨v,hv⟩:∃v,vs[i]?=aa v:=⟨_,dR ∅⟩
  obtain⟨go,yl⟩:=(hw L RH i).1 v hv;refine .inr ⟨go,λv' g y=>⟨[aa v'],rfl,rfl,?_⟩⟩;obtain⟨e1,e2⟩:=yl v' g y;subst e1 e2;obtain⟨Z,hx,rx⟩:=rs.back hv;have ed:xs.drop i=Z::xs.drop (i+1):=by rw[vm aX];congr 1;exact(cJ.mp hx).2
  rw[ed]at q2;have Y:=rx.grow I r1.fit;have q3:=Ok.bindB q2 I;obtain⟨Sb,ss,rb,okb⟩:=zj N Y q3;intro C d f r p;refine ht C d f r p P Sb ss _ g _ rb (okb.imp λb _ F3 _ H3 _ _ ⟨T,S3,r3,G,q4⟩=>?_);obtain⟨el3,nF3,nS3⟩:=G.stay el nS2 nF2;cases b with
  |false=>exact mT ⟨_,∅,rfl,aX,F3,S3,T,O,r3,I.trans G,el3,nF3,nS3,n.grow G N.fit,∅,q4⟩
  |true=>refine nr ?_;have q5:Ok X.K E j M S1 H1 ((cG (f8 cap de Z T)).bind λy t=>kP cap dt de (xs.drop (i+1)) (O++[y]) t) _:=q4;obtain⟨Sc,sc,rc,okc⟩:=zj r3 (Y.grow G N.fit) (Ok.bindB q5 (I.trans G));intro C d f r p;refine he C d f r p F3 Sc sc _ H3 _ rc (okc.imp λy _ F4 _ H4 _ _ ⟨ε4,S4,r4,g4,q6⟩ u ru=>?_);obtain⟨el4,nF4,nS4⟩:=g4.stay el3 nS3 nF3;have D:=(n.grow G N.fit).grow g4 r3.fit;obtain⟨gl,A,r5⟩:=r4.lay (o':=.lst (B++[u])) el4 trivial nF4 nS4;have g5:=((I.trans G).trans g4).lay (o':=.lst (B++[u])) hl;refine⟨el4,?_,_,∅,rfl,aX,F4,S4,ε4,O++[y],r5,g5,cI,nF4,nS4,(D.grow gl A).app (.one (ru.grow gl A)),by simp;lia,q6⟩;lia
 .have e:i=xs.length:=∅
  subst e;refine .inl ⟨(hw L RH _).2 hvl.symm,?_⟩;rw[List.drop_length]at q2;exact q2 P S2 L N I P S2 L N (bf.refl ..) l (λb=>b=l) ⟨⟨B,el,n⟩,λb=>Iff.rfl⟩ λb z=>by subst z;exact⟨hH,nF2,nS2,_,el,trivial⟩
theorem qd{j d:aA}{m pos:Pos}{i:List aA}{o:ak->R (List PV)}{dt:ak->R Bool}{de:ak->R PV}(B:jY X c x N' cap)(v:X.calm=ai)(t:DI X E (.Name x m) d o)(q:∀C a b g f,DF (cQ X c N' C a b g f) E0 i dt) (u:∀C a b g f,DE (cQ X c N' C a b g f) E0 j de) (r:∀x,uU d X.env x=pure x:=by intro _;rfl):DN X E (.ListComp j [⟨.Name x m,d,i,0⟩] c pos) (hV cap o dt de):=λF S w l H Q p h=>bO (Hj (wi:=rz X (.Name x m) d) (ts:=λl H Q=>∀C a b g f,wF (cQ X c N' C a b g f) i l H Q) (te:=λl H Q=>∀C a b g f,iO (cQ X c N' C a b g f) j l H Q) (pos:=pos) B v Cw (λC a b g f n s l H Q I h=>(h C a b g f).run n s I) (λC a b g f n s l H Q I h=>(h C a b g f).run n s I) r) (Hm t q u p h)
end
theorem Fk(x y:Tx):tS x++tS y=tS (x++y):=by
 show(⟨x.toArray++y.toArray⟩:Str)=⟨(x++y).toArray⟩
 simp
def bt:PV->PV->Option PV
 |.int i,.int j=>aa (.int (i+j))
 |.str x,.str y=>if(x++y).length<=cU then aa (.str (x++y))else ae
 |.tup xs,.tup a=>if xs≠[]/\a≠[]/\xs.length+a.length<=1000 then aa (.tup (xs++a))else ae
 |.lst xs,.lst a=>if xs.length+a.length<=cU then aa (.lst (xs++a))else ae
 |_,_=>ae
def je:PV->PV->Option PV
 |.int i,.int j=>aa (.int (i-j))
 |_,_=>ae
def rg(i:Int):Bool:=decide (-(2^64)<i/\i<2^64)
def f_:PV->PV->Option PV
 |.int i,.int j=>if rg i||rg j then aa (.int (i*j))else ae
 |.str x,.int j=>if 0<=j/\j<=100/\x.length<=100 then aa (.str (bW j.toNat x).flatten)else ae
 |_,_=>ae
def eQ:PV->PV->Option PV
 |.int i,.int j=>if 0<j then aa (.int (i % j))else ae
 |_,_=>ae
def qI:PV->PV->Option PV
 |.int i,.int j=>if 0<=j/\j<=1000000/\i.natAbs<2^64 then aa (.int (i^j.toNat))else ae
 |_,_=>ae
def oV:PV->Option PV
 |.int i=>aa (.int (-i))
 |_=>ae
def AZ:R2:=λx y H Q=>∃l b xs a,x=.ref l/\y=.ref b/\Rd H l (.lst xs)/\Rd H b (.lst a)/\xs.length+a.length<=a_/\∀p,H p=ae->Q (.ref p) (upd H p (.lst (xs++a)))
def tZ(K:aw):R2:=λx y H Q=>((jm λi j=>V.int (i+j)) x y H Q\/∃i j,x=.str i/\y=.str j/\i.length+j.length<=a_/\Q (.str (i++j)) H)\/(zL K x y H Q\/AZ x y H Q)
def A_:R2:=λx y H Q=>rI wQ (λi j=>.int (i*j)) x y H Q\/∃(z:Tx) (n:Nat),x=tV z/\y=.int n/\n<=100/\z.length<=100/\Q (tV (bW n z).flatten) H
section
variable{X:Cx}{K:aw}
theorem tE:P2 K (jm λi j=>.int (i-j)) je:=λF H x y v u Q pv b a e q=>by
 unfold je at e;split at e
 .cases e;exact⟨_,_,b,a,q _ F H (Al.refl ..) rfl⟩
 .cases e
theorem pE:P2 K (rI (λ_ j=>0<j) λi j=>.int (i % j)) eQ:=λF H x y v u Q pv b a e q=>by
 unfold eQ at e;split at e
 .split at e
  .cases e;exact⟨_,_,b,a,by assumption,q _ F H (Al.refl ..) rfl⟩
  .cases e
 .cases e
theorem Ls:P2 K (rI z8 λi j=>.int (i^j.toNat)) qI:=λF H x y v u Q pv b a e q=>by
 unfold qI at e;split at e
 .split at e
  .cases e;exact⟨_,_,b,a,by assumption,q _ F H (Al.refl ..) rfl⟩
  .cases e
 .cases e
theorem B8:P1 K (rU λi=>.int (-i)) oV:=λF H x v Q pv a e q=>by
 unfold oV at e;split at e
 .cases e;exact⟨_,a,q _ F H (Al.refl ..) rfl⟩
 .cases e
theorem xi{c:List (af×Obj)}{b:St}{H:Hp}{s:am}{l:af}{xs:List V}(I:Inv X c b H s)(h:Rd H l (.lst xs)):∃(a:List ah) (n:Nat),bq xs a/\s.heap.get? l=aa {cls:=.type "list",data:=.seq a.toArray n}/\xs.length<=a_:=by obtain⟨z,a,n,r,e⟩:=h.ok I.hok;exact⟨a,n,r,e,z⟩
theorem FZ:bF X (gT .Add) AZ:=by
 intro B s p H x y v u Q I i g h;obtain⟨l,b,xs,t,rfl,rfl,f,j,A,q⟩:=h;cases i;cases g;obtain⟨c,n,r,e,_⟩:=xi I f;obtain⟨a,w,d,o,_⟩:=xi I j;have f:=r.length;have z:=d.length;refine PySem.P.add_list e o ?_ (by rw[bY,bY];lia);have m:c.toArray++a.toArray=(c++a).toArray:=by simp
 rw[m];exact⟨.ref _,_,I.lnew (t':=s.toks) (r.append d) (by rw[eZ];lia),rfl,q _ I.fresh⟩
theorem eT:bF X (gT .Add) (tZ X.K):=(Mg.or FO).or (Ma.or FZ)
theorem eP:P2 K (tZ K) bt:=λF H x y v u Q pv l j e q=>by
 unfold bt at e;split at e
 .cases e;exact .inl (.inl ⟨_,_,l,j,q _ F H (Al.refl ..) rfl⟩)
 .rename_i x y;split at e
  .rename_i c;cases e;refine .inl (.inr ⟨_,_,l.1,j.1,?_,?_⟩)
   .rw[jZ,jZ];rw[eZ]at c;exact cA c j0
   .exact q _ F H (Al.refl ..) ⟨by rw[Fk];rfl,c⟩
  .cases e
 .rename_i xs s;split at e
  .rename_i c;cases e;obtain⟨a,n,rfl,r,f⟩:=l;obtain⟨b,m,rfl,o,d⟩:=j;have h:=f.len;have g:=d.len;refine .inr (.inl ⟨a,b,n,m,rfl,rfl,b_.of r,b_.of o,λz=>c.1 (by rw[z]at h;exact nV h.symm),by rw[h,g];exact wo c.2.2,λz=>absurd (by rw[z]at g;exact nV g.symm) c.2.1,λ_ p i=>?_⟩);exact q _ F _ (Al.new0 i) ⟨p,_,rfl,cI,(Al.new0 i).reps (f.app d)⟩
  .cases e
 .rename_i xs s;split at e
  .rename_i c;cases e;obtain⟨a,n,rfl,r,w,f⟩:=l;obtain⟨b,m,rfl,o,t,d⟩:=j;have h:=f.len;have g:=d.len;refine .inr (.inr ⟨a,b,n,m,rfl,rfl,r,o,by rw[h,g];exact cA c j0,λp i=>?_⟩);exact q _ _ _ (Al.new i) ⟨p,_,rfl,.inl cI,.inr rfl,(Al.new i).reps (f.app d)⟩
  .cases e
 .cases e
theorem oX:bF X (gT .Mult) A_:=L6.or IB
theorem oP:P2 K A_ f_:=λF H x y v u Q pv b a e q=>by
 unfold f_ at e;split at e
 .rename_i i j;split at e
  .rename_i h;cases e;refine .inl ⟨_,_,b,a,?_,q _ F H (Al.refl ..) rfl⟩;rw[vd]at h;exact h.imp of_decide_eq_true of_decide_eq_true
  .cases e
 .rename_i x j;split at e
  .rename_i h;cases e;refine .inr ⟨x,j.toNat,b.1,?_,∅,h.2.2,q _ F H (Al.refl ..) ⟨rfl,?_⟩⟩
   .rw[show u=V.int j from a];congr 1;lia
   .rw[Hy];have c:j.toNat<=100:=∅
    exact cA (yr c h.2.2) (by decide)
  .cases e
 .cases e
def dj(f:Int->Int->Bool):PV->PV->Option PV
 |.int i,.int j=>aa (.bl (f i j))
 |_,_=>ae
theorem iW{f:Int->Int->Bool}:P2 K (jm λi j=>.bl (f i j)) (dj f):=λF H x y v u Q pv b a e q=>by
 unfold dj at e;split at e
 .cases e;exact⟨_,_,b,a,q _ F H (Al.refl ..) rfl⟩
 .cases e
def cp:PV->Option V
 |.non=>aa .non
 |.bl b=>aa (.bl b)
 |.int i=>aa (.int i)
 |.str x=>aa (tV x)
 |_=>ae
theorem gx{H:Hp}{F:af->Prop}{x:PV}{v w:V}(r:aR K H F x v)(e:cp x=aa w):v=w:=by
 cases x <;> simp[cp]at e <;> subst e
 .exact r
 .exact r
 .exact r
 .exact r.1
theorem lI{x:PV}{w:V}(e:cp x=aa w):dr w=ai:=by
 cases x <;> simp[cp]at e <;> subst e <;> rfl
mutual
def cx:PV->PV->Option Bool
 |.tup xs,y=>match y with
  |.tup a=>fZ xs a
  |_=>ae
 |.lst xs,y=>match y with
  |.lst a=>fZ xs a
  |_=>ae
 |.non,y=>(cp y).map (cb .non)
 |.bl b,y=>(cp y).map (cb (.bl b))
 |.int i,y=>(cp y).map (cb (.int i))
 |.str x,y=>(cp y).map (cb (tV x))
 |.raw _,_=>ae
 |.exc _,_=>ae
def fZ:List PV->List PV->Option Bool
 |[],c=>aa c.isEmpty
 |x::xs,c=>match c with
  |[]=>aa aj
  |y::c=>(cx x y).bind λa=>(fZ xs c).map λb=>a&&b
end
mutual
def iX:PV->Nat
 |.tup xs=>h_ xs+1
 |.lst xs=>h_ xs+1
 |_=>0
def h_:List PV->Nat
 |[]=>0
 |x::xs=>max (iX x) (h_ xs)
end
theorem Cu{H:Hp}{d a:Nat}{x y:V}{k:Bool}(h:gz K H d x y k)(l:d<=a):gz K H a x y k:=λX g i b s u v A I f c j=>h X g i b s u v A I f c ∅
theorem ui{H:Hp}{F:af->Prop}{w:V}{y:PV}{u:V}{k:Bool}{d:Nat}(b:dr w=ai)(e:(cp y).map (cb w)=aa k)(a:aR K H F y u):gz K H d w u k:=by
 cases q:cp y with
 |none=>rw[q]at e;cases e
 |some z=>
  rw[q]at e;cases e;rw[gx a q];exact ET b (lI q)
theorem Eu{H:Hp}{a:af}{xs b:List V}(h:Rd H a (.lst xs))(g:Rd H a (.lst b)):xs=b:=by
 rcases h with h|⟨o,h⟩ <;> rcases g with g|⟨c,g⟩ <;> rw[h]at g <;> cases g <;> rfl
theorem Lg{a:Bool}{e:Nat->Bool}{n m:Nat}:eK (λj=>if j=0 then a else e (j-1)) (n+1) (m+1)=(a&&eK e n m):=by
 unfold eK;rw[show min (n+1) (m+1)=min n m+1 by lia,yk,ml,u_,if_pos rfl,Bool.and_assoc];congr 1;congr 1
 .simp
mutual
theorem wn{H:Hp}{F:af->Prop}:∀(x y:PV) {v:V}{k:Bool},cx x y=aa k->aR K H F x v->aR K H F y v->k=ai
 |.tup xs,y,v,k,e,d,c=>by
  unfold cx at e;split at e
  .obtain⟨a,m,rfl,i,f⟩:=d;obtain⟨b,l,j,g,h⟩:=c;cases j;rw[i]at g;cases g;exact wY xs _ e f h
  .cases e
 |.lst xs,y,v,k,e,d,c=>by
  unfold cx at e;split at e
  .obtain⟨a,m,rfl,i,_,f⟩:=d;obtain⟨b,l,j,g,_,h⟩:=c;cases j;rw[Eu i g]at f;exact wY xs _ e f h
  .cases e
 |.non,y,v,k,e,d,c=>by
  unfold cx at e;cases q:cp y with
  |none=>rw[q]at e;cases e
  |some z=>rw[q]at e;cases e;rw[<-gx c q,show v=V.non from d];rfl
 |.bl b,y,v,k,e,d,c=>by
  unfold cx at e;cases q:cp y with
  |none=>rw[q]at e;cases e
  |some z=>rw[q]at e;cases e;rw[<-gx c q,show v=V.bl b from d];exact beq_self_eq_true b
 |.int b,y,v,k,e,d,c=>by
  unfold cx at e;cases q:cp y with
  |none=>rw[q]at e;cases e
  |some z=>rw[q]at e;cases e;rw[<-gx c q,show v=V.int b from d];exact beq_self_eq_true b
 |.str b,y,v,k,e,d,c=>by
  unfold cx at e;cases q:cp y with
  |none=>rw[q]at e;cases e
  |some z=>rw[q]at e;cases e;rw[<-gx c q,show v=tV b from d.1];exact beq_self_eq_true (tS b)
 |.raw _,_,_,_,e,_,_=>by unfold cx at e;cases e
 |.exc _,_,_,_,e,_,_=>by unfold cx at e;cases e
theorem wY{H:Hp}{F:af->Prop}:∀(xs c:List PV) {d:List V}{k:Bool},fZ xs c=aa k->aZ K H F xs d->aZ K H F c d->k=ai
 |[],c,d,k,e,h,f=>by
  unfold fZ at e;rw[show d=[] from h]at f;have:=f.len;cases c with
  |nil=>cases e;rfl
  |cons=>simp at this
 |x::xs,c,d,k,e,h,f=>by
  unfold fZ at e;obtain⟨v,r,rfl,l,j⟩:=h;cases c with
  |nil=>have:=f.len;simp at this
  |cons y c=>
   obtain⟨p,q,o,n,m⟩:=f;cases o;simp only at e;cases g:cx x y with
   |none=>rw[g]at e;cases e
   |some a=>
    cases i:fZ xs c with
    |none=>rw[g,i]at e;cases e
    |some b=>
     rw[g,i]at e;cases e;rw[wn x y g l n,wY xs c i j m];rfl
end
mutual
theorem Lw{H:Hp}{F:af->Prop}:∀(x y:PV) {v u:V}{k:Bool},cx x y=aa k->aR K H F x v->aR K H F y u->gz K H (iX x) v u k
 |.tup xs,y,v,u,k,e,d,c=>by
  have o:=e;unfold cx at e;split at e
  .rename_i h;obtain⟨a,q,rfl,n,j⟩:=id d;obtain⟨b,p,rfl,m,i⟩:=id c;by_cases g:a=b
   .subst g;rw[wn _ _ o d c];exact zh
   .obtain⟨f,l,rfl⟩:=qR xs h e j i;unfold iX;exact Fw (b_.of n) (b_.of m) g l
  .cases e
 |.lst xs,y,v,u,k,e,d,c=>by
  have o:=e;unfold cx at e;split at e
  .rename_i h;obtain⟨a,q,rfl,n,_,j⟩:=id d;obtain⟨b,p,rfl,m,_,i⟩:=id c;by_cases g:a=b
   .subst g;rw[wn _ _ o d c];exact zh
   .obtain⟨f,l,rfl⟩:=qR xs h e j i;unfold iX;exact DV (.inl n) (.inl m) g l
  .cases e
 |.non,y,v,u,k,e,d,c=>by unfold cx at e;rw[show v=V.non from d];exact ui rfl e c
 |.bl b,y,v,u,k,e,d,c=>by unfold cx at e;rw[show v=V.bl b from d];exact ui rfl e c
 |.int b,y,v,u,k,e,d,c=>by unfold cx at e;rw[show v=V.int b from d];exact ui rfl e c
 |.str b,y,v,u,k,e,d,c=>by unfold cx at e;rw[show v=tV b from d.1];exact ui rfl e c
 |.raw _,_,_,_,_,e,_,_=>by unfold cx at e;cases e
 |.exc _,_,_,_,_,e,_,_=>by unfold cx at e;cases e
theorem qR{H:Hp}{F:af->Prop}:∀(xs c:List PV) {d g:List V}{k:Bool},fZ xs c=aa k->aZ K H F xs d->aZ K H F c g -> ∃f:Nat->Bool,(∀(j:Nat) x y,d[j]?=aa x->g[j]?=aa y->gz K H (h_ xs) x y (f j))/\k=eK f d.length g.length
 |[],c,d,g,k,e,m,i=>by
  unfold fZ at e;rw[show d=[] from m];refine⟨λ_=>ai,λj x y h=>by simp at h,?_⟩;have:=i.len;cases e;unfold eK;cases c with
  |nil=>simp at this;simp[this]
  |cons=>rw[this];simp
 |x::xs,c,d,g,k,e,m,i=>by
  unfold fZ at e;obtain⟨v,r,rfl,z,w⟩:=m;cases c with
  |nil=>
   cases e;rw[show g=[] from i];exact⟨λ_=>ai,λj x y _ h=>by simp at h,by simp[eK]⟩
  |cons y c=>
   obtain⟨u,C,rfl,B,A⟩:=i;simp only at e;cases l:cx x y with
   |none=>rw[l]at e;cases e
   |some a=>
    cases n:fZ xs c with
    |none=>rw[l,n]at e;cases e
    |some b=>
     rw[l,n]at e;cases e;obtain⟨f,t,rfl⟩:=qR xs c n w A;refine⟨λj=>if j=0 then a else f (j-1),λj p q s o=>?_,by rw[gf,gf,Lg]⟩;cases j with
     |zero=>simp at s o;subst s o;show gz K H _ _ _ (if(0:Nat)=0 then a else f (0-1));rw[if_pos rfl];exact Cu (Lw x y l z B) (by unfold h_;exact Nat.le_max_left _ _)
     |succ j=>show gz K H _ _ _ (if j+1=0 then a else f (j+1-1));rw[if_neg ∅];exact Cu (t j p q (by simpa using s) (by simpa using o)) (show h_ xs<=max (iX x) (h_ xs)from Nat.le_max_right _ _)
end
def eqT(neg:Bool)(x y:PV):Option PV:=match cp x,cp y with
 |some v,aa u=>if qU v u then aa (.bl (neg^^decide (v=u)))else ae
 |none,ae=>if iX x<=8 then(cx x y).map λk=>.bl (neg^^k)else ae
 |_,_=>ae
def BR(K:aw):R2:=λx y H Q=>A4 x y H Q\/qA K aj x y H Q
def ze(K:aw):R2:=λx y H Q=>Ae x y H Q\/qA K ai x y H Q
theorem re(a:X.A.units+64<cLine):bF X (c9 .Eq) (BR X.K):=Mc.or (Ea a)
theorem mP(a:X.A.units+64<cLine):bF X (c9 .NotEq) (ze X.K):=Mp.or (I_ a)
theorem BS{H:Hp}{F:af->Prop}{x y:PV}{v u:V}{k:Bool}{Q:VK}{neg:Bool}(g:cp x=ae)(e:cx x y=aa k)(w:iX x<=8)(t:aR K H F x v)(s:aR K H F y u)(q:Q (.bl (neg^^k)) H):qA K neg v u H Q:=by
 have c:∀{d:Bool},k=d->Q (.bl (if neg=ai then !d else d)) H:=λ{d} z=>by subst z;cases neg <;> simpa using q
 cases x with
 |tup xs=>
  unfold cx at e;split at e
  .rename_i h;obtain⟨a,j,rfl,p,m⟩:=t;obtain⟨b,i,rfl,o,l⟩:=s;obtain⟨f,n,r⟩:=qR xs h e m l;unfold iX at w;exact⟨a,b,j,i,h_ xs,f,rfl,rfl,.inr ⟨b_.of p,b_.of o⟩,∅,n,c r⟩
  .cases e
 |lst xs=>
  unfold cx at e;split at e
  .rename_i h;obtain⟨a,j,rfl,p,_,m⟩:=t;obtain⟨b,i,rfl,o,_,l⟩:=s;obtain⟨f,n,r⟩:=qR xs h e m l;unfold iX at w;exact⟨a,b,j,i,h_ xs,f,rfl,rfl,.inl ⟨.inl p,.inl o⟩,∅,n,c r⟩
  .cases e
 |raw _=>unfold cx at e;cases e
 |exc _=>unfold cx at e;cases e
 |non=>cases g
 |bl _=>cases g
 |int _=>cases g
 |str _=>cases g
theorem qC:P2 K (BR K) (eqT aj):=λF H x y v u Q pv g f e q=>by
 unfold eqT at e;split at e
 .rename_i a b d h;split at e
  .rename_i i;cases e;rw[gx g d,gx f h];refine .inl ⟨i,?_⟩;have:=q (.bl (decide (a=b))) F H (Al.refl ..) (by simp[aR]);exact this
  .cases e
 .rename_i d h;split at e
  .rename_i j;cases c:cx x y with
   |none=>rw[c]at e;cases e
   |some k=>
    rw[c]at e;cases e;exact .inr (BS (neg:=aj) d c j g f (q _ F H (Al.refl ..) rfl))
  .cases e
 .cases e
theorem nt:P2 K (ze K) (eqT ai):=λF H x y v u Q pv g f e q=>by
 unfold eqT at e;split at e
 .rename_i a b d h;split at e
  .rename_i i;cases e;rw[gx g d,gx f h];refine .inl ⟨i,?_⟩;have:=q (.bl (!decide (a=b))) F H (Al.refl ..) (by simp[aR]);exact this
  .cases e
 .rename_i d h;split at e
  .rename_i j;cases c:cx x y with
   |none=>rw[c]at e;cases e
   |some k=>
    rw[c]at e;cases e;exact .inr (BS (neg:=ai) d c j g f (q _ F H (Al.refl ..) rfl))
  .cases e
 .cases e
end
end Pu
namespace Pu
open L2
section
variable{X:Cx}{K:aw}
def tm(i j:Tx):Bool:=!(CH (tS j) (tS i) 0 (tS j).length 1).isEmpty
def fq:List PV->Option (List V)
 |[]=>aa []
 |x::xs=>(cp x).bind λv=>(fq xs).map λr=>v::r
theorem kE{H:Hp}{F:af->Prop}:∀{xs:List PV}{c a:List V},aZ K H F xs c->fq xs=aa a->c=a/\a.all dr=ai
 |[],_,_,r,e=>by cases e;exact⟨r,rfl⟩
 |x::xs,_,a,⟨v,r,rfl,f,d⟩,e=>by
  unfold fq at e;cases q:cp x with
  |none=>rw[q]at e;cases e
  |some w=>
   cases b:fq xs with
   |none=>rw[q,b]at e;cases e
   |some i=>
    rw[q,b]at e;cases e;obtain⟨h,g⟩:=kE d b;exact⟨by rw[gx f q,h],by rw[ml,lI q,g];rfl⟩
def oH(neg:Bool):PV->PV->Option PV
 |.str x,.str y=>aa (.bl (neg^^tm x y))
 |x,.lst a=>(cp x).bind λv=>(fq a).map λb=>.bl (neg^^qN v b)
 |x,.tup a=>(cp x).bind λv=>(fq a).map λb=>.bl (neg^^qN v b)
 |_,_=>ae
def Ca(K:aw):R2:=λx y H Q=>(∃i j,x=.str i/\y=.str j/\Q (.bl (!(CH j i 0 j.length 1).isEmpty)) H)\/wv K aj x y H Q
theorem J3:bF X (c9 .In) (Ca X.K):=L9.or Ka
theorem zM{H:Hp}{F:af->Prop}{x:PV}{c:List PV}{v:V}{p:af}{b:List V}{Q:VK}{neg:Bool}{pv:PV}(g:aR K H F x v)(i:b7 K H p b\/b_ K H p b)(h:aZ K H F c b)(e:((cp x).bind λv=>(fq c).map λf=>PV.bl (neg^^qN v f))=aa pv) (q:∀w,aR K H F pv w->Q w H):wv K neg v (.ref p) H Q:=by
 cases a:cp x with
 |none=>rw[a]at e;cases e
 |some w=>
  cases d:fq c with
  |none=>rw[a,d]at e;cases e
  |some f=>
   rw[a,d]at e;cases e;obtain⟨rfl,j⟩:=kE h d;rw[gx g a];refine⟨p,b,rfl,i,lI a,j,?_⟩;have:=q _ rfl;cases neg <;> simpa using this
theorem D2:P2 K (Ca K) (oH aj):=λF H x y v u Q pv d c e q=>by
 unfold oH at e;split at e
 .cases e;exact .inl ⟨_,_,d.1,c.1,by have:=q _ F H (Al.refl ..) rfl;simpa[tm]using this⟩
 .obtain⟨a,h,rfl,g,_,f⟩:=c;exact .inr (zM (neg:=aj) d (.inl (.inl g)) f e λw b=>q w F H (Al.refl ..) b)
 .obtain⟨a,h,rfl,g,f⟩:=c;exact .inr (zM (neg:=aj) d (.inr (b_.of g)) f e λw b=>q w F H (Al.refl ..) b)
 .cases e
def br:List PV->Option PV
 |[.str x]=>aa (.int x.length)
 |[.lst xs]=>aa (.int xs.length)
 |[.tup xs]=>aa (.int xs.length)
 |_=>ae
theorem gC{H:Hp}{F:af->Prop}{x:PV}{a:List V}(r:aZ K H F [x] a):∃v,a=[v]/\aR K H F x v:=by obtain⟨v,b,rfl,d,c⟩:=r;rw[show b=[] from c];exact⟨v,rfl,d⟩
theorem gP:PL K (λxs H Q=>∃x n,xs=[x]/\zE K x H n/\Q (.int n) H) br:=λF H xs h Q pv c e q=>by
 unfold br at e;split at e
 .cases e;obtain⟨v,rfl,g⟩:=gC c;rw[g.1];exact⟨_,_,rfl,⟨by rw[jZ];exact cA g.2 j0,rfl⟩,by rw[jZ];exact q _ F H (Al.refl ..) rfl⟩
 .cases e;obtain⟨v,rfl,a,b,rfl,f,_,d⟩:=gC c;exact⟨_,_,rfl,.inl ⟨b,.inl f,rfl⟩,by rw[d.len];exact q _ F H (Al.refl ..) rfl⟩
 .cases e;obtain⟨v,rfl,a,b,rfl,f,d⟩:=gC c;exact⟨_,_,rfl,.inr ⟨b,b_.of f,rfl⟩,by rw[d.len];exact q _ F H (Al.refl ..) rfl⟩
 .cases e
def o9:List PV->Option PO
 |[.lst xs]=>aa (.lst xs)
 |[.tup xs]=>aa (.lst xs)
 |_=>ae
theorem A2:kH K (λxs H Q=>∃p c,xs=[.ref p]/\(b7 K H p c\/b_ K H p c)/\∀l,H l=ae->Q (.ref l) (upd H l (.lst c))) o9:=λF H xs j Q m i h e q=>by
 unfold o9 at e;split at e
 .cases e;obtain⟨v,rfl,a,d,rfl,g,_,f⟩:=gC h;exact⟨a,d,rfl,.inl (.inl g),λl b=>q l F _ _ (Al.new0 b) (tX b f) (ub b i trivial)⟩
 .cases e;obtain⟨v,rfl,a,d,rfl,g,f⟩:=gC h;exact⟨a,d,rfl,.inr (b_.of g),λl b=>q l F _ _ (Al.new0 b) (tX b f) (ub b i trivial)⟩
 .cases e
def o5:List PV->Option PV
 |[.lst xs]=>aa (.tup xs)
 |[.tup xs]=>aa (.tup xs)
 |_=>ae
theorem BQ:PL K (λxs H Q=>∃p d,xs=[.ref p]/\((b7 K H p d/\∀l,H l=ae->Q (.ref l) (upd H l (.tup d)))\/(b_ K H p d/\Q (.ref p) H))) o5:=λF H xs i Q pv g e q=>by
 unfold o5 at e;split at e
 .cases e;obtain⟨v,rfl,a,b,rfl,c,_,f⟩:=gC g;exact⟨a,b,rfl,.inl ⟨.inl c,λl h=>q _ F _ (Al.new0 h) ⟨l,b,rfl,cI,(Al.new0 h).reps f⟩⟩⟩
 .cases e;obtain⟨v,rfl,a,b,rfl,c,f⟩:=gC g;exact⟨a,b,rfl,.inr ⟨b_.of c,q _ F H (Al.refl ..) ⟨a,b,rfl,c,f⟩⟩⟩
 .cases e
def fz:List PV->Option (List Tx)
 |[]=>aa []
 |.str x::xs=>(fz xs).map (x::·)
 |_=>ae
def ao(ls:List Tx):List PV:=ls.map .str
theorem qt(a:List Tx):fz (ao a)=aa a:=by
 induction a with
 |nil=>rfl
 |cons x a b=>show(fz (ao a)).map (x::·)=_;rw[b];rfl
theorem qh:∀{xs:List PV}{a:List Tx},fz xs=aa a->xs=ao a
 |[],a,e=>by cases e;rfl
 |.str x::xs,a,e=>by
  unfold fz at e;cases q:fz xs with
  |none=>rw[q]at e;cases e
  |some r=>rw[q]at e;cases e;rw[qh q];rfl
 |.non::_,_,e=>by cases e
 |.bl _::_,_,e=>by cases e
 |.int _::_,_,e=>by cases e
 |.tup _::_,_,e=>by cases e
 |.lst _::_,_,e=>by cases e
 |.raw _::_,_,e=>by cases e
 |.exc _::_,_,e=>by cases e
theorem L7{H:Hp}{F:af->Prop}:∀{a:List Tx}{b:List V},aZ K H F (ao a) b↔b=cE a/\∀x∈a,x.length<=cU
 |[],b=>by simp[ao,aZ,cE]
 |x::a,b=>by
  show(∃v r,b=v::r/\(v=tV x/\x.length<=cU)/\aZ K H F (ao a) r)↔_;constructor
  .rintro⟨v,r,rfl,⟨rfl,f⟩,h2⟩;obtain⟨rfl,d⟩:=L7.mp h2;exact⟨rfl,λy c=>by
    rcases bT.mp c with rfl|c
    .exact f
    .exact d y c⟩
  .rintro⟨rfl,h⟩;exact⟨tV x,cE a,rfl,⟨rfl,h x (by simp)⟩,L7.mpr ⟨rfl,λy c=>h y (by simp[c])⟩⟩
def kB:List PV->Option (List Bool)
 |[]=>aa []
 |.bl b::xs=>(kB xs).map (b::·)
 |_=>ae
theorem AH{H:Hp}{F:af->Prop}:∀{xs:List PV}{a:List V}{bs:List Bool},aZ K H F xs a->kB xs=aa bs->a=bs.map V.bl
 |[],_,_,r,e=>by cases e;exact r
 |.bl b::xs,_,bs,⟨v,r,rfl,d,c⟩,e=>by
  unfold kB at e;cases q:kB xs with
  |none=>rw[q]at e;cases e
  |some f=>rw[q]at e;cases e;rw[AH c q,show v=V.bl b from d];rfl
 |.non::_,_,_,_,e=>by cases e
 |.str _::_,_,_,_,e=>by cases e
 |.int _::_,_,_,_,e=>by cases e
 |.tup _::_,_,_,_,e=>by cases e
 |.lst _::_,_,_,_,e=>by cases e
 |.raw _::_,_,_,_,e=>by cases e
 |.exc _::_,_,_,_,e=>by cases e
def pc:List PV->Option PV
 |[.lst xs]=>(kB xs).map λbs=>.bl (bs.all id)
 |_=>ae
theorem xT:PL K (λxs H Q=>∃(p:af) (bs:List Bool),xs=[.ref p]/\b7 K H p (bs.map V.bl)/\Q (.bl (bs.all id)) H) pc:=λF H xs h Q pv f e q=>by
 unfold pc at e;split at e
 .rename_i d;cases b:kB d with
  |none=>rw[b]at e;cases e
  |some bs=>
   rw[b]at e;cases e;obtain⟨v,rfl,a,i,rfl,c,_,g⟩:=gC f;rw[AH g b]at c;exact⟨a,bs,rfl,.inl c,q _ F H (Al.refl ..) rfl⟩
 .cases e
def pA:PV->Option String
 |.non=>aa "NoneType"
 |.bl _=>aa "bool"
 |.int _=>aa "int"
 |.str _=>aa "str"
 |.tup _=>aa "tuple"
 |.lst _=>aa "list"
 |_=>ae
def gb:List PV->Option PV
 |[x,.raw (.ty T)]=>(pA x).bind λt=>(fD [] (.type t) (.type T)).map λb=>.bl b
 |_=>ae
theorem mK:d8 X (.builtin "isinstance") (λxs H Q=>∃x t T b,xs=[x,.ty T]/\gQ X.K H x (.type t)/\fD X.K (.type t) (.type T)=aa b/\Q (.bl b) H):=by
 intro l s g H xs i Q I r h;obtain⟨x,t,T,b,rfl,ty,e,q⟩:=h;cases r with
 |cons f d=>
  cases d with
  |cons c a=>
   cases a;cases c;exact Gu I f ty e λj=>⟨.bl b,H,I.tok _,rfl,q⟩
theorem G9{H:Hp}{F:af->Prop}{x:PV}{v:V}{t:String}(r:aR K H F x v)(e:pA x=aa t):gQ K H v (.type t):=by
 cases x with
 |non=>cases e;rw[show v=V.non from r];exact .non
 |bl b=>cases e;rw[show v=V.bl b from r];exact .bl b
 |int b=>cases e;rw[show v=V.int b from r];exact .int b
 |str b=>cases e;rw[show v=tV b from r.1];exact .str _
 |tup xs=>cases e;obtain⟨a,d,rfl,c,_⟩:=r;exact .tup c
 |lst xs=>
  cases e;obtain⟨a,d,rfl,c,_⟩:=r;rcases c with c|⟨o,c⟩
  .exact .lst c
  .exact .frz c
 |raw _=>cases e
 |exc _=>cases e
theorem ni:PL K (λxs H Q=>∃x t T b,xs=[x,.ty T]/\gQ K H x (.type t)/\fD K (.type t) (.type T)=aa b/\Q (.bl b) H) gb:=λF H xs i Q pv d e q=>by
 unfold gb at e;split at e
 .rename_i x T;cases a:pA x with
  |none=>rw[a]at e;cases e
  |some t=>
   cases c:fD [] (.type t) (.type T)with
   |none=>rw[a,gh,c]at e;cases e
   |some b=>
    rw[a,gh,c]at e;cases e;obtain⟨v,j,rfl,h,g⟩:=d;obtain⟨u,rfl,f⟩:=gC g;rw[show u=V.ty T from f];exact⟨v,t,T,b,rfl,G9 h a,c,q _ F H (Al.refl ..) rfl⟩
 .cases e
theorem mQ{E:XK}{x:Str}{T:String}{f:Pos}(c:X.mg x=ae)(a:dy x=aa (.type T))(d:Gl X x:=by rfl)(b:x≠"__name__":=by decide)(g:(x==("__debug__":Str))=aj:=by decide):DE X E (.Name x f) (dC (.raw (.ty T))):=λF S i h H Q r q=>bO (GZ (v:=.ty T) d c a rfl b g) (q F S H r (bf.refl ..) _ rfl)
def bP:PV->PV->Option PV
 |.lst xs,.int i=>fi xs i
 |.tup xs,.int i=>fi xs i
 |.str x,.int i=>(fi x i).map λc=>.str [c]
 |_,_=>ae
theorem zp{H:Hp}{F:af->Prop}{xs:List PV}{a:List V}{i:Int}{x:PV}(r:aZ K H F xs a)(e:fi xs i=aa x):∃v,fi a i=aa v/\aR K H F x v:=by
 unfold fi at e ⊢;rw[r.len];cases q:i8 xs.length i with
 |none=>rw[q]at e;cases e
 |some j=>rw[q]at e;exact r.get e
theorem gL:P2 K (BM K) bP:=λF H x y v u Q pv b f e q=>by
 unfold bP at e;split at e
 .rename_i xs i;obtain⟨a,d,rfl,j,_,g⟩:=b;obtain⟨w,m,l⟩:=zp g e;exact .inl ⟨a,d,i,w,rfl,f,.inl j,m,q _ F H (Al.refl ..) l⟩
 .rename_i xs i;obtain⟨a,d,rfl,j,g⟩:=b;obtain⟨w,m,l⟩:=zp g e;exact .inr (.inl ⟨a,d,i,w,rfl,f,b_.of j,m,q _ F H (Al.refl ..) l⟩)
 .rename_i x i;cases h:fi x i with
  |none=>rw[h]at e;cases e
  |some c=>
   rw[h]at e;cases e;rw[b.1];exact .inr (.inr ⟨_,i,c,rfl,f,by rw[jZ];exact cA b.2 j0,by rw[lX];exact h,q _ F H (Al.refl ..) ⟨rfl,by show 1<=cU;decide⟩⟩)
 .cases e
def dE{a:Type}(xs:List a)(b c:Option Int):List a:=(xs.drop (HT.sIx xs.length 0 b)).take (HT.sIx xs.length xs.length c-HT.sIx xs.length 0 b)
theorem Ih{a:Type}(xs:List a)(b c:Option Int):(dE xs b c).length<=xs.length:=by unfold dE;rw[lc,pL];lia
def dD:PV->Option Int->Option Int->Option PV
 |.str x,a,b=>aa (.str (dE x a b))
 |.lst xs,a,b=>aa (.lst (dE xs a b))
 |.tup xs,a,b=>if HT.sIx xs.length 0 a=0/\HT.sIx xs.length xs.length b=xs.length then ae else aa (.tup (dE xs a b))
 |_,_,_=>ae
def Ap(K:aw):V->Option Int->Option Int->Hp->VK->Prop:=λx a b H Q=>AL x a b H Q\/(Ag K x a b H Q\/Br K x a b H Q)
theorem l6:kK X (Ap X.K):=L5.or (L8.or Gm)
theorem zC{H:Hp}{F:af->Prop}{xs:List PV}{a:List V}(r:aZ K H F xs a)(b c:Option Int):aZ K H F (dE xs b c) (lQ a b c):=by unfold dE lQ;rw[r.len];exact(r.drop _).take _
theorem l0:AS K (Ap K) dD:=λF H x h i v Q pv b e q=>by
 unfold dD at e;split at e
 .cases e;rw[b.1];refine .inl ⟨_,rfl,by rw[jZ];exact cA b.2 j0,?_⟩;refine q _ F H (Al.refl ..) ⟨?_,cA (Ih ..) b.2⟩;unfold jW dE;rw[jZ,lX];rfl
 .cases e;obtain⟨a,f,rfl,g,_,d⟩:=b;exact .inr (.inl ⟨a,f,rfl,.inl g,λp c=>q _ _ _ (Al.new c) ⟨p,_,rfl,.inl cI,.inr rfl,(Al.new c).reps (zC d h i)⟩⟩)
 .split at e
  .cases e
  .rename_i j;cases e;obtain⟨a,f,rfl,g,d⟩:=b;exact .inr (.inr ⟨a,f,rfl,b_.of g,by rw[d.len];exact j,λp c=>q _ _ _ (Al.new0 c) ⟨p,_,rfl,cI,(Al.new0 c).reps (zC d h i)⟩⟩)
 .cases e
variable{E:XK}{g l a b:aA}{d:ak->R PV}{m:ak->R (List PV)}{p f:Pos}
def lY:PV->Option (List PV)
 |.lst xs=>aa xs
 |.tup xs=>aa xs
 |.str x=>aa (x.map λc=>.str [c])
 |_=>ae
def gA(d:ak->R PV):ak->R (List PV):=λε=>(d ε).bind λx ε1=>aW (lY x) ε1
theorem z6{H:Hp}{F:af->Prop}:∀(x:Tx),aZ K H F (x.map λc=>PV.str [c]) (x.map sg)
 |[]=>rfl
 |c::x=>⟨sg c,x.map sg,rfl,⟨rfl,by show 1<=cU;decide⟩,z6 x⟩
theorem rE(he:DE X E l d):DI X E g l (gA d):=λF S ε Z H Rr rl h=>Bx.mk λag s I=>by
 have w:=he F S ε Z H (λv r=>∃B D u x,aO X.K B D u Z r/\aR X.K r B x v/\Ok X.K E Z B D r (aW (lY x) u) (λpvs _ F' S' H'=>∀J L RR,aZ X.K H' F' pvs L->L.length<=a_->Walk J L RR->(∀S'' F'' Y,bf (U S') (U S'') F' F'' H' Y->RR Y)->Rr J H')) rl
  ((Ok.bind h).imp λx u B D r G g1 q v N=>⟨B,D,u,x,G,N,q⟩)
 refine aQ (w.run ag s I) λv c ⟨x,r,y,rx,B,D,u,pv,G,N,q⟩=>?_;cases pv with
 |lst xs=>
  obtain⟨a,M,rfl,C,hF,ra⟩:=N;cases rx;obtain⟨O,rr,pp,P⟩:=y.list (.inl C);refine CZ pp.isList ?_;refine⟨c.heap.objs.size,[c.heap.objs.size],_,_,r,rfl,y.kept (t':=c.toks) λb o e=>bd _ e,HS a _,⟨_,cu _ rfl,rfl,rfl⟩,λb T=>?_,q B D r G (bf.refl ..) (vS X.K a) M (λH=>b7 X.K H a M) ra P Ie λS2 F2 H2 g2=>.inl (g2.lst G.fit hF C)⟩;have e:b=c.heap.objs.size:=by simpa using T
  subst e;exact y.fpOk (a8 _) (y.hok.fresh (a8 _))
 |tup xs=>
  obtain⟨a,M,rfl,C,ra⟩:=N;cases rx;obtain⟨O,rr,pp,P⟩:=y.tuple (b_.of C);refine wpAny_pyIter_tuple (show c.heap.IsTuple a O.toArray from pp) ?_;refine⟨c.heap.objs.size,[c.heap.objs.size],_,_,r,rfl,y.kept (t':=c.toks) λb o e=>bd _ e,J7 a _,⟨_,cu _ rfl,rfl,rfl⟩,λb T=>?_,q B D r G (bf.refl ..) (wU X.K a) M (λH=>b_ X.K H a M) ra P Ee λS2 F2 H2 g2=>b_.of (g2.imm G.fit C id)⟩;have e:b=c.heap.objs.size:=by simpa using T
  subst e;exact y.fpOk (a8 _) (y.hok.fresh (a8 _))
 |str z=>
  obtain⟨rfl,P⟩:=N;obtain⟨t,rfl⟩:=rx;have qq:Rr (rq (tS z)) r:=q B D r G (bf.refl ..) (rq (tS z)) (z.map sg) (λ_=>True) (z6 z) (by rw[fG];exact cA P j0) (by have:=IP (z:=tS z);rw[lX]at this;exact this) λ_ _ _ _=>trivial;have W:∀(n:String) (j:Nat->az->Prop),(∀i h,j i h->∃o n L,h.get? c.heap.objs.size=aa o/\o.cls=.type n/\o.data=.fields L /\ ["enumerate","zip","dict_itemiterator","dict_reverseitemiterator","odict_iterator","itertools.zip_longest","itertools.pairwise"].contains n=aj) ->
    (∀(A:aJ) (i:Nat) (s:am) (Q:ah->am->Prop) (E:ah->am->Prop),j i s.heap->Q (.ref c.heap.objs.size) s->aq (au X.prog X.w) A (k_ (.ref c.heap.objs.size)) Q E s) ->
    (∀A:aJ,A.handled=ae->Walks X.prog X.w A c.heap.objs.size [c.heap.objs.size] [c.heap.objs.size] (tS z).cps.size (SignAt (tS z)) j) ->
    j 0 (c.heap.push {cls:=.type n,data:=.fields #[.str (tS z) t,.int 0 0]}) ->
    ql X ag Z g Rr (.ref c.heap.objs.size) {c with heap:=c.heap.push {cls:=.type n,data:=.fields #[.str (tS z) t,.int 0 0]}}:=λn j q h2 h3 h4=>by
   refine⟨c.heap.objs.size,[c.heap.objs.size],j,rq (tS z),r,rfl,y.kept (t':=c.toks) λb o e=>bd _ e,JO q h2 h3,h4,λb T=>?_,qq⟩;have e:b=c.heap.objs.size:=by simpa using T
   subst e;exact y.fpOk (a8 _) (y.hok.fresh (a8 _))
  cases C:(tS z).cps.all (· < 128)
  .refine wpAny_pyIter_wide C (W "str_iterator" (λi h=>h.IsStrIter c.heap.objs.size "str_iterator" (tS z) t i) (λi h ⟨o,e1,e2,e3⟩=>⟨o,_,_,e1,e2,e3,by decide⟩) (λA i s Q E st h=>wpAny_pyIter_striter_wide st h) (λA' hA=>Walks.strWide hA _ (tS z) t) ⟨_,cu _ rfl,rfl,rfl⟩)
  .refine wpAny_pyIter_ascii C (W "str_ascii_iterator" (λi h=>h.IsStrIter c.heap.objs.size "str_ascii_iterator" (tS z) t i) (λi h ⟨o,e1,e2,e3⟩=>⟨o,_,_,e1,e2,e3,by decide⟩) (λA i s Q E st h=>wpAny_pyIter_striter_ascii st h) (λA' hA=>Walks.strAscii hA _ (tS z) t) ⟨_,cu _ rfl,rfl,rfl⟩)
 |non=>exact(show False from q).elim
 |bl _=>exact(show False from q).elim
 |int _=>exact(show False from q).elim
 |raw _=>exact(show False from q).elim
 |exc _=>exact(show False from q).elim
def dA(c:Int)(n:Nat):List PV:=(cz n).map λi=>PV.int (c+(i:Nat))
theorem EM{H:Hp}{F:af->Prop}(c:Int)(n:Nat):aZ K H F (dA c n) (oU c n):=by
 unfold dA oU
 induction (cz n)with
 |nil=>rfl
 |cons x xs h=>exact⟨_,_,rfl,rfl,h⟩
def jb:List PV->Option (List PV)
 |[.int j]=>if j<=1000000/\-1000000<=j then aa (dA 0 j.toNat)else ae
 |_=>ae
theorem tJ(w:X.mg "range"=ae)(y:DA X E [a] m)(x:Gl X "range":=by rfl)(u:aI [a] X.env=[(aj,aM a X.env)]:=by rfl):DI X E g (.Call (.Name "range" p) [a] [] f) (dL jb m):=λF S o i H I r h=>by
 refine zS (Le x w fv u) (y F S o i H _ r ((Ok.bind h).imp λxs n B z A s G c C t=>?_));unfold jb at c;split at c
 .rename_i j;split at c
  .rename_i D;obtain⟨v,rfl,q⟩:=gC t;refine⟨j,by rw[show v=V.int j from q],∅,∅,c B z A s (bf.refl ..) _ _ _ (EM 0 j.toNat) (by rw[v5,nG];lia) GD λ_ _ _ _=>trivial⟩
  .exact c.elim
 .exact c.elim
end
section
variable{K:aw}{F:af->Prop}{S:Nat->af->Prop}{f:ak}{l:St}{H:Hp}{i:Nat}{p m:List PV}{d:List V}{a:af}
theorem aO.lstAt(r:aO K F S f l H)(e:f[i]?=aa (.own (.lst p))):∃a c,l[i]?=aa (aa (.ref a))/\H a=aa (.lst c)/\aZ K H F p c/\S i a/\∀b,S i b->b=a:=by obtain⟨a,o,⟨c,n,j⟩,g⟩:=r.own i _ e;exact⟨a,c,o,n,j,(g a).mpr rfl,λb h=>(g b).mp h⟩
theorem aO.upd(r:aO K F S f l H)(e:f[i]?=aa (.own (.lst p)))(D:l[i]?=aa (aa (.ref a)))(h:aZ K H F m d):aO K F S (f.set i (.own (.lst m))) l (upd H a (.lst d))/\bf (U S) (U S) F F H (upd H a (.lst d)):=by
 obtain⟨N,J,E,M,L,x,B⟩:=r.lstAt e;rw[D]at E;cases E;have A:i<f.length:=(cJ.mp e).1;have g:bf (U S) (U S) F F H (L2.upd H a (.lst d)):=⟨λ_ z=>z,λb o q n=>by rw[bM (by rintro rfl;exact n ⟨i,x⟩)];exact q,λb o q=>by
  by_cases C:b=a
  .subst C;exact⟨_,cI⟩
  .exact⟨o,by rw[bM C];exact q⟩,λ_ z=>.inl z,λ_ z=>.inl z⟩
 refine⟨⟨by rw[e_];exact r.len,λb z=>let ⟨o,q⟩:=r.ex b z;g.there b o q,λj pv q=>?_,λj y q=>?_,λj b z=>?_,r.dist⟩,g⟩
 .have s:i≠j:=by rintro rfl;rw[eX A]at q;cases q
  rw[dH s]at q;obtain⟨v,u,t⟩:=r.val j pv q;exact⟨v,u,t.grow g r.fit⟩
 .by_cases s:i=j
  .subst s;rw[eX A]at q;cases q;exact⟨a,D,⟨d,cI,h.grow g r.fit⟩,λb=>⟨B b,λz=>by rw[z];exact x⟩⟩
  .rw[dH s]at q;obtain⟨c,u,t⟩:=r.own j y q;refine⟨c,u,t.mono (λ_ _ z=>z.grow g r.fit) (λ_ _ z=>z.grow g r.fit) λb o z w=>?_⟩;rw[bM (by rintro rfl;exact s (r.dist i j b x z))];exact w
 .obtain⟨⟨y,u⟩,t,o,I,G⟩:=r.foot j b z;by_cases s:i=j
  .subst s;rw[B b z];exact⟨⟨_,eX A⟩,by rw[<-B b z];exact t,_,cI,trivial⟩
  .exact⟨⟨y,by rw[dH s];exact u⟩,t,o,by rw[bM (by rintro rfl;exact s (r.dist i j b x z))];exact I,G⟩
end
section
variable{X:Cx}{E:XK}{pin:List Nat}{e b:aA}{de db:ak->R PV}{d:Pos}
def c0(a:ak)(i:Nat):Option (List PV):=match a[i]? with
 |some (.own (.lst xs))=>aa xs
 |_=>ae
theorem gG{a:ak}{i:Nat}{xs:List PV}(h:c0 a i=aa xs):a[i]?=aa (.own (.lst xs)):=by
 unfold c0 at h;split at h
 .cases h;assumption
 .cases h
def o0(i:Nat)(de:ak->R PV):ak->R aP:=λc=>(aW (c0 c i) c).bind λ_ c=>(de c).bind λy a=>(aW (c0 a i) a).bind λxs a=>if xs.length<cU then .ok .next (a.set i (.own (.lst (xs++[y]))))else .no
theorem AV(i:Nat){x:Str}{p f c:Pos}(M:DE X E e de)(P:X.N[i]?=aa x:=by rfl)(J:fN X.env.scope x:=by eq_refl)(N:(x==("__debug__":Str))=aj:=by decide)(bK:(x==("__classdict__":Str))=aj:=by decide) (Y:kc (.Name x p) "append" X.env (aM (.Name x p) X.env)=aM (.Name x p) X.env:=by rfl)(W:((cg c (aI [e] X.env)).all (λx=>!x.1)&&(nN c (nO [] X.env)).all (λx=>x.1.isSome)&&decide ([e].length+([]:List ik).length+(if([]:List ik).isEmpty then 0 else 1)<30))=ai:=by rfl)(T:(f.endLine == c.line)=ai:=by rfl) (w:aI [e] X.env=(aj,aM e X.env)::aI [] X.env:=by rfl) (Q:(cg c (aI [] X.env)).any (·.1)=aj:=by rfl)(K:l_ (.Call (.Attribute (.Name x p) "append" f) [e] [] c) ae d.line X.env=pure aj:=by rfl):DS X E pin (.Expr (.Call (.Attribute (.Name x p) "append" f) [e] [] c) d) (o0 i de):=λF S r o H D s h=>by
 unfold o0 at h;cases n:c0 r i with
 |none=>rw[n]at h;exact h.elim
 |some z=>
  rw[n]at h;simp only[dP,R.bind_ok]at h;obtain⟨a,A,m,O,_,_,_⟩:=s.lstAt (gG n);refine jc (wI (pi vn PySem.F.slot_list_append PySem.F.type_list_append AX (ix P J N bK) (gE bp iR w) Y W T w Q) K) ⟨.ref a,m,.inl ⟨rfl,_,b7.of O⟩,?_⟩;refine M F S r o H _ s (h.bindE.imp λy l F1 S1 H1 u g1 q v C=>?_);cases j:c0 l i with
  |none=>rw[j]at q;exact q.elim
  |some xs=>
   rw[j]at q;simp only[dP,R.bind_ok]at q;obtain⟨a',B,g,I,t,_,_⟩:=u.lstAt (gG j);rw[m]at g;cases g;split at q
   .rename_i L;obtain⟨G,Z⟩:=u.upd (gG j) m (t.app (.one C));exact⟨a,B,v,rfl,rfl,I,by rw[t.len];exact eu L j0,q F1 S1 o _ G Z (g8.refl _ _)⟩
   .exact q.elim
def HL:V->List V->Hp->VK->Prop:=λx c H Q=>∃l b xs a,x=.ref l/\c=[.ref b]/\H l=aa (.lst xs)/\Rd H b (.lst a)/\xs.length+a.length<=a_/\Q .non (L2.upd H l (.lst (xs++a)))
theorem Ir:nB X "list.extend" HL:=by
 intro L s A H x C v D Q I j m h;obtain⟨l,b,xs,B,rfl,rfl,i,t,J,q⟩:=h;cases j;obtain⟨u,rfl,o⟩:=m.one;cases o;obtain⟨z,c,n,r,K,e⟩:=I.lstM i;obtain⟨a,p,g,w,_⟩:=xi I t;have G:=g.length;have f:c.toArray.size+a.toArray.size<=a_:=by rw[bY,bY];lia
 have y:¬(!c.toArray.isEmpty&&CU (c.toArray.size+a.toArray.size))=ai:=by rw[JG f,Bool.and_false];exact eA
 refine pN F.slot_list_extend ⟨_,e,rfl⟩ F.entry_list_extend (F.args_list_extend_2 _ _)
  (AutoSeq1.list_extend_list_list_0 l c.toArray n b a.toArray p y (by rw[bY];lia) ∅) ⟨e,w,?_⟩
 refine⟨.non,_,I.lset (its':=c++a) i e (by simp) (r.append g) ?_,rfl,q⟩;rw[eZ];lia
def um(i:Nat)(de:ak->R PV):ak->R aP:=λc=>(aW (c0 c i) c).bind λ_ c=>(de c).bind λy a=>(aW (c0 a i) a).bind λxs a=>match y with
 |.lst f=>if xs.length+f.length<=cU then .ok .next (a.set i (.own (.lst (xs++f))))else .no
 |_=>.no
theorem An(i:Nat){x:Str}{p g f:Pos}(P:DE X E e de)(Y:X.N[i]?=aa x:=by rfl)(M:fN X.env.scope x:=by eq_refl)(Q:(x==("__debug__":Str))=aj:=by decide)(bK:(x==("__classdict__":Str))=aj:=by decide) (h1:kc (.Name x p) "extend" X.env (aM (.Name x p) X.env)=aM (.Name x p) X.env:=by rfl)(h2:((cg f (aI [e] X.env)).all (λx=>!x.1)&&(nN f (nO [] X.env)).all (λx=>x.1.isSome)&&decide ([e].length+([]:List ik).length+(if([]:List ik).isEmpty then 0 else 1)<30))=ai:=by rfl)(h3:(g.endLine == f.line)=ai:=by rfl) (A:aI [e] X.env=(aj,aM e X.env)::aI [] X.env:=by rfl) (Z:(cg f (aI [] X.env)).any (·.1)=aj:=by rfl)(N:l_ (.Call (.Attribute (.Name x p) "extend" g) [e] [] f) ae d.line X.env=pure aj:=by rfl):DS X E pin (.Expr (.Call (.Attribute (.Name x p) "extend" g) [e] [] f) d) (um i de):=λF S s r H D t h=>by
 unfold um at h;cases o:c0 s i with
 |none=>rw[o]at h;exact h.elim
 |some B=>
  rw[o]at h;simp only[dP,R.bind_ok]at h;obtain⟨a,C,n,W,_,_,_⟩:=t.lstAt (gG o);refine jc (wI (pi vn PySem.F.slot_list_extend PySem.F.type_list_extend Ir (ix Y M Q bK) (gE bp iR A) h1 h2 h3 A Z) N) ⟨.ref a,n,.inl ⟨rfl,_,b7.of W⟩,?_⟩;refine P F S s r H _ t (h.bindE.imp λy m F1 S1 H1 z g1 q v J=>?_);cases l:c0 m i with
  |none=>rw[l]at q;exact q.elim
  |some xs=>
   rw[l]at q;simp only[dP,R.bind_ok]at q;obtain⟨a',G,j,L,w,_,_⟩:=z.lstAt (gG l);rw[n]at j;cases j;split at q
   .rename_i ys;split at q
    .rename_i O;obtain⟨c,I,rfl,T,_,u⟩:=J;obtain⟨K,g2⟩:=z.upd (gG l) n (w.app u);exact⟨a,c,G,I,rfl,rfl,L,T,by rw[w.len,u.len];exact cA O j0,q F1 S1 r _ K g2 (g8.refl _ _)⟩
    .exact q.elim
   .exact q.elim
def uJ(i:Nat)(db de:ak->R PV):ak->R aP:=λf=>(de f).bind λy c=>(aW (c0 c i) c).bind λ_ c=>(db c).bind λk a=>(aW (c0 a i) a).bind λxs a=>match k with
 |.int k=>match i8 xs.length k with
  |some j=>.ok .next (a.set i (.own (.lst (xs.set j y))))
  |none=>.no
 |_=>.no
theorem IL(i:Nat){x:Str}{p c:Pos}(Y:DE X E b db)(T:DE X E e de)(hN:X.N[i]?=aa x:=by rfl)(O:fN X.env.scope x:=by eq_refl)(W:(x==("__debug__":Str))=aj:=by decide)(bK:(x==("__classdict__":Str))=aj:=by decide) (ha:∀v,assign (.Subscript (.Name x p) b c) X.env v=(do
   let ov <-k8 [v] (aM (.Name x p) X.env)
   let iv <-k8 [v,ov] (aM b X.env)
   standAt c
   k8 [v,ov,iv] (setItem ov iv v)
   release [v,ov,iv] []):=by intro _;rfl) (P:swapsWithSole [.Subscript (.Name x p) b c] e d.line X.env=pure aj:=by rfl) (N:swappedStores [.Subscript (.Name x p) b c] e X.env=pure ae:=by rfl)
  (h1:(assignEach [.Subscript (.Name x p) b c] X.env).map (·.2)=[assign (.Subscript (.Name x p) b c) X.env]:=by rfl):DS X E pin (.Assign [.Subscript (.Name x p) b c] e d) (uJ i db de):=λF S A n H D K h=>by
 refine jc (G3 bp (Dw (ix hN O W bK) bp KZ ha) P N h1) (T F S A n H _ K (h.bindE.imp λy g F1 S1 H1 r g1 q v I=>?_));cases t:c0 g i with
 |none=>rw[t]at q;exact q.elim
 |some B=>
  rw[t]at q;simp only[dP,R.bind_ok]at q;obtain⟨a,C,s,Z,_,_,_⟩:=r.lstAt (gG t);refine⟨.ref a,s,Y F1 S1 g n H1 _ r (q.bindE.imp λk o F2 S2 H2 z g2 f u J=>?_)⟩;cases m:c0 o i with
  |none=>rw[m]at f;exact f.elim
  |some xs=>
   rw[m]at f;simp only[dP,R.bind_ok]at f;obtain⟨a',G,l,M,w,_,_⟩:=z.lstAt (gG m);rw[s]at l;cases l;split at f
   .rename_i k;split at f
    .rename_i j Q;obtain⟨L,g3⟩:=z.upd (gG m) s (w.set (I.grow g2 r.fit) j);exact⟨a,G,k,j,rfl,J,M,by rw[w.len];exact Q,f F2 S2 n _ L g3 (g8.refl _ _)⟩
    .exact f.elim
   .exact f.elim
end
mutual
def imm:PV->Bool
 |.lst _=>aj
 |.tup xs=>kJ xs
 |_=>ai
def kJ:List PV->Bool
 |[]=>ai
 |x::xs=>imm x&&kJ xs
end
mutual
theorem aR.imm{K:aw}{H:Hp}{F g:af->Prop}:∀(x:PV) {v:V},imm x=ai->aR K H F x v->aR K H g x v
 |.non,_,_,h=>h
 |.bl _,_,_,h=>h
 |.int _,_,_,h=>h
 |.str _,_,_,h=>h
 |.raw _,_,_,h=>h
 |.exc _,_,_,h=>h
 |.lst _,_,e,_=>by simp[Pu.imm]at e
 |.tup xs,_,e,⟨a,b,f,d,c⟩=>⟨a,b,f,d,aZ.imm xs (by simpa[Pu.imm]using e) c⟩
theorem aZ.imm{K:aw}{H:Hp}{F g:af->Prop}:∀(xs:List PV) {a:List V},kJ xs=ai->aZ K H F xs a->aZ K H g xs a
 |[],_,_,h=>h
 |x::xs,_,e,⟨v,r,f,d,c⟩=>by
  have b:imm x=ai/\kJ xs=ai:=by simpa[kJ]using e
  exact⟨v,r,f,aR.imm x b.1 d,aZ.imm xs b.2 c⟩
end
section
variable{K:aw}{F:af->Prop}{S:Nat->af->Prop}{d:ak}{c:St}{H:Hp}{i:Nat}{f:List PV}
theorem aO.look(r:aO K F S d c H)(e:d[i]?=aa (.own (.lst f))):∃a,c[i]?=aa (aa (.ref a))/\¬F a/\aR K H (λb=>F b\/b=a) (.lst f) (.ref a)/\(∀b,F b\/b=a->∃o,H b=aa o) /\ (∀{h g},Al (λb=>F b\/b=a) h H g->Al F (λb=>h b/\b≠a) H g):=by
 obtain⟨a,m,q,l,p,n,s⟩:=r.lstAt e;have j:¬F a:=(r.foot i a n).2.1;refine⟨a,q,j,⟨a,m,rfl,.inl l,.inr rfl,aZ.mono (λ_ z=>.inl z) (λ_ _ _ z=>z) (λ_ _ z _=>z) _ _ p⟩,λb z=>z.elim (r.ex b) λz=>by rw[z];exact⟨_,l⟩,λ{h g} al=>⟨λb z=>⟨al.fro b (.inl z),by rintro rfl;exact j z⟩,al.same,λb z=>?_⟩⟩;rcases al.fnew b z.1 with(w|w)|w
 .exact .inl w
 .exact absurd w z.2
 .exact .inr w
end
section
variable{X:Cx}{E:XK}{e b:aA}{de db:ak->R PV}{d p:Pos}{x y:Str}{l T:String}{r:List V->Hp->VK->Prop}{f:List PV->Option PV}{g:List PV->Option PO}
def mU(o:Option PV):Option PV:=o.bind λv=>if imm v then aa v else ae
theorem D3{o:Option PV}{v:PV}(h:mU o=aa v):o=aa v/\imm v=ai:=by
 cases o with
 |none=>cases h
 |some w=>
  have h:(if imm w then aa w else ae)=aa v:=h;split at h
  .cases h;exact⟨rfl,by assumption⟩
  .cases h
def BC:PO->Bool
 |.lst xs=>kJ xs
 |_=>aj
def js{c:Type}(f:List PV->Option c)(i:Nat):ak->R c:=λa=>(aW (c0 a i) a).bind λxs a=>aW (f [.lst xs]) a
theorem Lc{F:af->Prop}{S:Nat->af->Prop}{m:ak}{j:St}{H:Hp}{Q:VK}{i:Nat}(A:PL X.K r f)(s:aO X.K F S m j H)(h:Ok X.K E j F S H (js (λxs=>mU (f xs)) i m) (λpv _ u _ c=>∀v,aR X.K c u pv v->Q v c)):∃a,j[i]?=aa (aa (.ref a))/\r [.ref a] H Q:=by
 unfold js at h;cases q:c0 m i with
 |none=>rw[q]at h;exact h.elim
 |some xs=>
  rw[q]at h;simp only[dP,R.bind_ok]at h;obtain⟨a,C,I,z,B,t⟩:=s.look (gG q);refine⟨a,C,?_⟩;cases o:mU (f [.lst xs])with
  |none=>rw[o]at h;exact h.elim
  |some pv=>rw[o]at h;obtain⟨G,D⟩:=D3 o;exact A _ H [.lst xs] [.ref a] Q pv (.one z) G λw u c al n=>h _ S c (s.al (t al)) (t al).grow w (aR.imm pv D n)
theorem Bn(i:Nat)(z:d8 X (.builtin l) r)(s:PL X.K r f)(u:X.mg x=ae)(n:dy x=aa (.builtin l))(A:X.N[i]?=aa y:=by rfl)(m:fN X.env.scope y:=by eq_refl)(w:(y==("__debug__":Str))=aj:=by decide) (G:(y==("__classdict__":Str))=aj:=by decide) (v:Gl X x:=by rfl) (t:x≠"__name__":=by decide) (B:(x==("__debug__":Str))=aj:=by decide) {c:Pos}(h:aI [.Name y c] X.env=(aj,aM (.Name y c) X.env)::aI [] X.env:=by rfl) (D:(cg d (aI [] X.env)).any (·.1)=aj:=by rfl):DE X E (.Call (.Name x p) [.Name y c] [] d) (js (λxs=>mU (f xs)) i):=λF S J I H Q j q=>by obtain⟨a,C,o⟩:=Lc s j q;exact bO (rm z v u n (gE (ix A m w G) iR h) t B h D) ⟨_,C,o⟩
def uz(o:Option PO):Option PO:=o.bind λv=>if BC v then aa v else ae
theorem JW{F:af->Prop}{S:Nat->af->Prop}{s:ak}{q:St}{H:Hp}{Q:VK}{i:Nat}(hp:kH X.K r g)(v:aO X.K F S s q H)(h:Ok X.K E q F S H (js (λxs=>uz (g xs)) i s) (λA _ I S' n=>∀a t,ef X.K n I A a t->(∀b,t b->H b=ae/\¬I b/\¬U S' b/\∃o,n b=aa o/\c7 o)->Q (.ref a) n)):∃a,q[i]?=aa (aa (.ref a))/\r [.ref a] H Q:=by
 unfold js at h;cases G:c0 s i with
 |none=>rw[G]at h;exact h.elim
 |some xs=>
  rw[G]at h;simp only[dP,R.bind_ok]at h;obtain⟨a,ea,nF,W,B,L⟩:=v.look (gG G);refine⟨a,ea,?_⟩;cases D:g [.lst xs]with
  |none=>rw[D]at h;exact h.elim
  |some A=>
   rw[D]at h;cases A with
   |dK m=>exact h.elim
   |lls i5=>exact h.elim
   |ins C fs=>exact h.elim
   |dT m=>exact h.elim
   |dN m=>exact h.elim
   |inl C fs y xs=>exact h.elim
   |lst u=>
    have h:Ok X.K E q F S H (aW (if kJ u then aa (PO.lst u)else ae) s) _:=h;split at h
    .rename_i hi;refine hp _ H [.lst xs] [.ref a] Q _ B (.one W) D λc I n t al Y fr=>h _ S n (v.al (L al)) (L al).grow c t ?_ λb z=>?_
     .obtain⟨⟨P,o1,o2⟩,Z⟩:=Y;exact⟨⟨P,o1,aZ.imm u hi o2⟩,Z⟩
     .obtain⟨J,O,o,N,M⟩:=fr b z;refine⟨J,λw=>O w.1,λ⟨j,w⟩=>?_,o,N,M⟩;obtain⟨_,_,o',K,_⟩:=v.foot j b w;rw[J]at K;cases K
    .exact h.elim
theorem IR(i:Nat)(z:d8 X (.builtin l) r)(s:kH X.K r g)(u:X.mg x=ae)(n:dy x=aa (.builtin l))(A:X.N[i]?=aa y:=by rfl)(m:fN X.env.scope y:=by eq_refl)(w:(y==("__debug__":Str))=aj:=by decide) (G:(y==("__classdict__":Str))=aj:=by decide) (v:Gl X x:=by rfl) (t:x≠"__name__":=by decide) (B:(x==("__debug__":Str))=aj:=by decide) {c:Pos}(h:aI [.Name y c] X.env=(aj,aM (.Name y c) X.env)::aI [] X.env:=by rfl) (D:(cg d (aI [] X.env)).any (·.1)=aj:=by rfl):DN X E (.Call (.Name x p) [.Name y c] [] d) (js (λxs=>uz (g xs)) i):=λF S J I H Q j q=>by obtain⟨a,C,o⟩:=JW s j q;exact bO (rm z v u n (gE (ix A m w G) iR h) t B h D) ⟨_,C,o⟩
end
end Pu
namespace Pu
open L2
def jq(h:az)(e T:af)(c g:ah):Prop:=∃a b f d,h.get? e=aa a/\a.cls=c/\(a.data=.fields b/\a.dict=ae)/\b[1]?=aa (.ref T)/\T≠e/\h.get? T=aa f/\f.data=.fields d/\d[3]?=aa g
def Made(h:az)(e:af)(c:ah):Prop:=∃a b,h.get? e=aa a/\a.cls=c/\(a.data=.fields b/\a.dict=ae)/\b[1]?=aa .none
structure Kp(fs:List af)(X:af->Prop)(h h':az):Prop where
 keep:∀b o,h.get? b=aa o->b∉fs->¬X b->h'.get? b=aa o
 slot:∀b o,h.get? b=aa o->b∈fs->¬X b->∃sl,h'.get? b=aa {o with slots:=sl}
 there:∀b o,h.get? b=aa o->∃o',h'.get? b=aa o'
theorem Kp.trans{fs:List af}{X Y:af->Prop}{h g f:az}(a:Kp fs X h g)(b:Kp fs Y g f):Kp fs (λc=>X c\/Y c) h f where
 keep:=λc o e n x=>b.keep c o (a.keep c o e n λz=>x (.inl z)) n λz=>x (.inr z)
 slot:=λc o e n x=>by obtain⟨l,j⟩:=a.slot c o e n λz=>x (.inl z);obtain⟨d,i⟩:=b.slot c _ j n λz=>x (.inr z);exact⟨d,i⟩
 there:=λc o e=>let ⟨o',e'⟩:=a.there c o e;b.there c o' e'
theorem Kp.imp{fs d:List af}{X Y:af->Prop}{h j:az}(a:Kp fs X h j)(f:∀b,b∈fs->b∈d)(g:∀b o,h.get? b=aa o->X b->Y b):Kp d Y h j where
 keep:=λc o e n x=>a.keep c o e (λz=>n (f c z)) λz=>x (g c o e z)
 slot:=λc o e n x=>by
  by_cases i:c∈fs
  .exact a.slot c o e i λz=>x (g c o e z)
  .exact⟨o.slots,a.keep c o e i λz=>x (g c o e z)⟩
 there:=a.there
theorem Gs(f:Array ah->Array ah)(o:Obj):(lq f o).dict=o.dict:=by
 obtain⟨c,d,dt,a⟩:=o;cases dt <;> rfl
section
variable{M:Model}{A:aJ}{E:ah->am->Prop}{s:am}
theorem zU{y:az}{l:Env}{g:List Env}{L e:af}{v:Obj}{F:Array ah}{z:ah}{LJ:Bool}{Q:Unit->am->Prop}(Z:A.frames=aa (l::g)) (O:s.heap.FunFrames y (l::g)) (hf:l.frame=aa L) (P:s.heap.get? e=aa v) (H:v.data=.fields F) (Y:v.dict=ae) (u:1<F.size)(h:∀J T,Kp (dU (l::g)) (λb=>b=e) s.heap J->jq J e T v.cls .none->s.heap.objs.size<=T->Q () {s with heap:=J}):aq M A (do let a <-frameOf l;let r <-entryPlaceOf L LJ;let b <-EntryCells.newEntry z a .none (cO L) .none r;lp (.ref e) 1 b) (λ_ X=>aq M A (vo (.ref e) ae) Q E X) E s:=by
 have w:e∉(l::g).filterMap (·.frame):=λhm=>by obtain⟨_,o,D,W⟩:=O.mem hm;rw[P]at D;injection D with D;subst D;exact W F H
 refine ap (wpAny_frameOf_fun Z O hf λc d=>?_);refine ap (wpAny_entryPlaceOf λr S=>?_);unfold EntryCells.newEntry newFields;refine ap (lh ?_ (S.sizeOk5 _ _ _ _ _));have n:c.get? e=aa v:=(d.2.1 e w).trans P;have m:=bd (h:=c) {cls:=.type "traceback",dict:=ae,data:=.fields ([z,.ref L,.none,cO L,.none]++(if r.isEmpty then bW 6 Value.none else r)).toArray} n;refine pU m H u ?_;have B:c.objs.size≠e:=ma (bE n);have j:=r8 H (·.setIfInBounds 1 (Value.ref c.objs.size));have i:=mi (lq (·.setIfInBounds 1 (Value.ref c.objs.size))) m (yw j);have p:=(mj (c.push {cls:=.type "traceback",dict:=ae,data:=.fields ([z,.ref L,.none,cO L,.none]++(if r.isEmpty then bW 6 Value.none else r)).toArray}) (lq (·.setIfInBounds 1 (Value.ref c.objs.size))) (ez B)).trans (cu c rfl);unfold vo;refine ap (nM i j (x:=.ref c.objs.size) (by simp[u]) ?_);rw[if_pos (show(Value.ref c.objs.size != Value.none)=ai from by simp)];refine pU p rfl (by simp only[bY,eZ,gf,nQ] <;> lia) (h _ c.objs.size ?_ ?_ ?_)
 .have keep:∀b o,b≠e->c.get? b=aa o ->
    (((c.push {cls:=.type "traceback",dict:=ae,data:=.fields ([z,.ref L,.none,cO L,.none]++(if r.isEmpty then bW 6 Value.none else r)).toArray}).update e (lq (·.setIfInBounds 1 (Value.ref c.objs.size)))).update c.objs.size (lq (·.setIfInBounds 3 ((ae:Option af).elim Value.none λf=>cO f)))).get? b=aa o:=λb o C t=>by
   have I:c.objs.size≠b:=ma (bE t);rw[mj _ _ I,mj _ _ (ez C)];exact bd _ t
  refine⟨λb o t N G=>keep b o G ((d.2.1 b N).trans t),λb o t N G=>?_,λb o t=>?_⟩
  .obtain⟨K,q⟩:=d.2.2 b o t;exact⟨K,keep b _ G q⟩
  .by_cases C:b=e
   .subst C;exact⟨_,(mj _ _ B).trans i⟩
   .obtain⟨K,q⟩:=d.2.2 b o t;exact⟨_,keep b _ C q⟩
 .refine⟨_,_,_,_,(mj _ _ B).trans i,Obj.cls_mapFields _ _,⟨j,by rw[Gs];exact Y⟩,by simp[u],B,mi _ p (yw (r8 rfl _)),r8 rfl _,by first | (simp;done) | (rcases S with rfl|⟨_,_,_,_,_,_,_,rfl⟩ <;> simp)⟩
 .exact ke d.1.symm
theorem IU{f:az}{d:Env}{a:List Env}{L e:af}{c:ah}{Q:Unit->am->Prop}(o:A.frames=aa (d::a))(q:s.heap.FunFrames f (d::a))(i:d.frame=aa L)(p:Made s.heap e c)(h:∀g T,Kp (dU (d::a)) (λb=>b=e) s.heap g->jq g e T c .none->s.heap.objs.size<=T->Q () {s with heap:=g}):aq M A (leaving d (.ref e)) Q E s:=by obtain⟨u,t,j,r,⟨l,n⟩,m⟩:=p;subst r;unfold leaving noteFrame;simp only[i];refine ap (ap (nM j l m ?_));rw[if_neg (by decide)];exact zU o q i j l n (nR.mp m).1 h
theorem A8{l:az}{g:Env}{outer:List Env}{L e T:af}{c:ah}{Q:Unit->am->Prop}(G:A.frames=aa (g::outer))(K:s.heap.FunFrames l (g::outer))(t:g.frame=aa L)(I:jq s.heap e T c .none)(h:∀j T',Kp (dU (g::outer)) (λb=>b=e\/b=T) s.heap j->jq j e T' c .none->s.heap.objs.size<=T'->Q () {s with heap:=j}):aq M A (noteFrame (.ref e) g) (λ_ B=>aq M A (vo (.ref e) ae) Q E B) E s:=by
 obtain⟨P,r,S,y,u,D,⟨v,C⟩,x,F,n,m,w⟩:=I;subst D;unfold noteFrame;simp only[t];refine ap (nM u v x ?_);rw[if_pos (show(Value.ref T != Value.none)=ai from by simp)];refine ap (nM n m w ?_);rw[if_neg (show ¬((Value.none == cO L)=ai)from by simp[cO])];refine ap (pU n m (nR.mp w).1 ?_);have a:∀b,b≠T->(s.heap.update T (lq (·.setIfInBounds 3 Value.none))).get? b=s.heap.get? b:=λb d=>mj _ _ (ez d);have f:∀b o,s.heap.get? b=aa o->(∀r,o.data≠.fields r)->b≠T:=λb o d p q=>by rw[q,n]at d;injection d with d;subst d;exact p y m
 refine zU G (K.of_keeps λb o d p=>⟨o,(a b (f b o d p)).trans d,rfl⟩) t ((a e (ez F)).trans u) v C (nR.mp x).1 λj T' k N J=>?_;have H:Kp (dU (g::outer)) (λb=>b=T) s.heap (s.heap.update T (lq (·.setIfInBounds 3 Value.none))):=by
  refine⟨λb o d _ i=>(a b i).trans d,λb o d _ i=>⟨o.slots,(a b i).trans d⟩,λb o d=>?_⟩;by_cases i:b=T
  .subst i;exact⟨_,mi _ n (yw (r8 m _))⟩
  .exact⟨o,(a b i).trans d⟩
 refine h j T' ((H.trans k).imp (λ_ z=>z) λb o _ z=>z.symm) N ?_;have O:(s.heap.update T (lq (·.setIfInBounds 3 Value.none))).objs.size<=T':=J;rwa[C_]at O
theorem Kh{f:az}{d:Env}{a:List Env}{L e T:af}{c:ah}{Q:Unit->am->Prop}(j:A.frames=aa (d::a))(m:s.heap.FunFrames f (d::a))(n:d.frame=aa L)(l:jq s.heap e T c .none)(h:∀g i,Kp (dU (d::a)) (λb=>b=e\/b=T) s.heap g->jq g e i c .none->s.heap.objs.size<=i->Q () {s with heap:=g}):aq M A (leaving d (.ref e)) Q E s:=by unfold leaving;exact ap (A8 j m n l h)
theorem J4{e T:af}{c C:ah}{Q:Unit->am->Prop}(z:jq s.heap e T c C)(h:∀l,Kp [] (λb=>b=T) s.heap l->jq l e T c .none->Q () {s with heap:=l}):aq M A (vo (.ref e) ae) Q E s:=by
 obtain⟨x,u,D,v,n,y,⟨p,w⟩,r,m,q,j,B⟩:=z;have t:3<v.size:=(nR.mp B).1;have a:∀b,b≠T->(s.heap.update T (lq (·.setIfInBounds 3 ((ae:Option af).elim Value.none λf=>cO f)))).get? b=s.heap.get? b:=λb g=>mj _ _ (ez g);have d:=mi (lq (·.setIfInBounds 3 ((ae:Option af).elim Value.none λf=>cO f))) q (yw (r8 j _));unfold vo;refine ap (nM n p r ?_);rw[if_pos (show(Value.ref T != Value.none)=ai from by simp)];refine pU q j t (h _ ⟨λb o g _ i=>(a b i).trans g,λb o g _ i=>⟨o.slots,(a b i).trans g⟩,λb o g=>?_⟩ ⟨x,u,_,_,(a e (ez m)).trans n,y,⟨p,w⟩,r,m,d,r8 j _,by simp[t]⟩);by_cases i:b=T
 .subst i;exact⟨_,d⟩
 .exact⟨o,(a b i).trans g⟩
end
def ce(P:aN)(w:aD):eJ:=λb H s E e s'=>∃(a T:af) (c:ah) (d:Hp),e=.ref a/\s'.os=s.os/\kY s'.gens/\Un (dU b) [] H d s.heap s'.heap/\cP P w d s'.heap/\jq s'.heap a T c .none /\
 (s.heap.get? a=ae/\s.heap.get? T=ae/\d a=ae/\d T=ae)/\E c ae d
theorem DU{P:aN}{w:aD}{H:Hp}{h:az}{a:af}{o:HO}(x:c_ P w H h a o):∃u,h.get? a=aa u:=by
 cases o with
 |lst xs=>obtain⟨_,_,_,_,e⟩:=x;exact⟨_,e⟩
 |tup xs=>obtain⟨_,_,_,⟨o,e,_⟩,_⟩:=x;exact⟨_,e⟩
 |dK b=>obtain⟨_,_,_,_,o,_,_,e,_⟩:=x;exact⟨_,e⟩
 |dT b=>obtain⟨_,_,_,_,o,_,_,e,_⟩:=x;exact⟨_,e⟩
 |dN b=>obtain⟨_,_,_,_,o,_,_,e,_⟩:=x;exact⟨_,e⟩
 |set S n=>obtain⟨o,_,_,_,e,_⟩:=x;exact⟨_,e⟩
 |ins C l fs=>obtain⟨_,_,_,e,_⟩:=x;exact⟨_,e⟩
 |own y=>exact x
 |xd fs=>obtain⟨_,⟨_,_,_,e,_⟩,_⟩:=x;exact⟨_,e⟩
 |rng i j=>obtain⟨_,_,_,e⟩:=x;exact⟨_,e⟩
 |frz g u=>obtain⟨e,_⟩:=x;exact⟨_,e⟩
 |tbl d=>obtain⟨_,e,_⟩:=x;exact⟨_,e⟩
 |met f y=>exact⟨_,x⟩
 |ext c=>obtain⟨_,e,_⟩:=x;exact e
theorem FD{P:aN}{w:aD}{H:Hp}{h:az}{a:af}(x:cP P w H h)(e:h.get? a=ae):H a=ae:=by
 cases q:H a with
 |none=>rfl
 |some u=>obtain⟨o,z⟩:=DU (x a u q);rw[e]at z;cases z
theorem pt{fs:List af}{H c:Hp}{h b:az}{a:af}(u:Un fs [] H c h b)(e:b.get? a=ae):h.get? a=ae:=by
 cases q:h.get? a with
 |none=>rfl
 |some o=>obtain⟨d,z⟩:=u.there a o q (by simp);rw[e]at z;cases z
theorem xw{fs a:List af}{H p:Hp}{h l j:az}{X:af->Prop}(u:Un fs [] H p h l)(k:Kp a X l j)(r:∀b o,h.get? b=aa o->b∈a->b∈fs)(g:∀b o,h.get? b=aa o->¬X b):Un fs [] H p h j where
 keep:=λb o e n d c=>k.keep b o (u.keep b o e n d c) (λz=>d (r b o e z)) (g b o e)
 slot:=λb o e n d c=>by
  obtain⟨q,m⟩:=u.slot b o e n d c;by_cases i:b∈a
  .obtain⟨f,s⟩:=k.slot b _ m i (g b o e);exact⟨f,s⟩
  .exact⟨q,k.keep b _ m i (g b o e)⟩
 free:=u.free
 there:=λb o e c=>let ⟨o',e'⟩:=u.there b o e c;k.there b o' e'
 tups:=u.tups
 frzs:=u.frzs
 tbls:=u.tbls
theorem ww{P:aN}{w:aD}{fs:List af}{H:Hp}{h d:az}{X:af->Prop}(x:cP P w H h)(k:Kp fs X h d)(f:∀b∈fs,H b=ae)(g:∀b,X b->H b=ae):cP P w H d:=λb u e=>
 (x b u e).stay (λc v a q=>k.keep c v q (λz=>by
   have:=f c z;rcases a with rfl|a
   .rw[e]at this;cases this
   .rw[a]at this;cases this) λz=>by
   have:=g c z;rcases a with rfl|a
   .rw[e]at this;cases this
   .rw[a]at this;cases this) (λ_ q=>q) λ_ _ q=>q
section
variable{P:aN}{w:aD}{K:aw}{n:Str->Option ah}{l:az}{N:List Str}{j:Str}{g:cN}{f:af}{p:ah}{A:aJ}{i:List Env}{d:am}{m:Hp}{E:XK}
theorem bX:o8 (ce P w) (fX (ce P w) P w K n l N j g f p A i d m E) E:=λag X H s e s' I h=>by
 obtain⟨a,T,c,W,rfl,G,J,un,y,O,⟨Q,S,F,Y⟩,M⟩:=h;have r:=I.call' (s':=s') (ch:=[]) G un y J (λb z=>absurd z (by simp));refine Kh (L:=d.heap.objs.size) I.ok.frames r.stack rfl O λZ D k B x=>?_;have m8:(fX (ce P w) P w K n l N j g f p A i d m E).ex=[]:=rfl;have u:d.heap.get? a=ae:=pt I.base Q;have C:d.heap.get? T=ae:=pt I.base S;have v:d.heap.get? D=ae:=pt r.base (rJ x);have t:∀b o,d.heap.get? b=aa o->b≠a/\b≠T:=λb o e=>⟨(by rintro rfl;rw[u]at e;cases e),(by rintro rfl;rw[C]at e;cases e)⟩
 refine⟨a,D,c,W,rfl,r.os,r.bare,xw r.base k (λb o e z=>?_) (λb o e z=>z.elim (t b o e).1 (t b o e).2),ww r.hok k r.stkFree (λb z=>by rcases z with rfl|rfl <;> assumption),B,⟨u,v,F,r.hok.fresh x⟩,M⟩;rcases bT.mp (I.stkSub b z)with q|q
 .exact absurd (bE e) (by rw[q];exact gR _)
 .exact q
end
section
variable{X:Cx}{E:XK}{pin:List Nat}{e:aA}{de:ak->R PV}{x:Str}{C:af}{i:List ah}{d f B:String}{l g j:Pos}
def yR(X:Cx)(E:XK):Prop:=∀(n:List (af×Obj)) (m:St) (H:Hp) (s:am) (a:af) (c:ah) (h:az),Inv X n m H s->(∀b o,s.heap.get? b=aa o->h.get? b=aa o)->Made h a c->s.heap.get? a=ae->(E c ae H)->X.xe (.ref a) {s with heap:=h}
def qw(c:ah)(de:ak->R PV):ak->R aP:=λb=>(de b).bind λ_ a=>.er c a
theorem Ik{h c:az}{e:af}{a:ah}{b:List ah}(m:Heap.MadeExcOf h c e a b):Made c e a:=by obtain⟨t,n,_,_⟩:=m.there;exact⟨_,_,n,rfl,⟨rfl,rfl⟩,rfl⟩
theorem A5(hx:yR X E)(hc:X.calm=ai)(O:OwnCls x C i d X.mg X.base)(P:ExcBaseFacts B d f i)(he:DE X.nox E0 e de)(hg:Gl X x:=by rfl)(hd:(x==("__debug__":Str))=aj:=by decide)(L:aI [e] X.env=[(aj,aM e X.env)]:=by rfl):DS X E pin (.Raise (aa (.Call (.Name x l) [e] [] g)) ae j) (qw (.ref C) (λt=>cG (de t))):=λF S t n H D Y q=>Bx.mk λM s I=>by
 obtain⟨Q,N,nm,Z,bs,hdct,sn,sub,ab,col,dd,k0,k1,k2,k3,k5,mN,hC,hN,G,T⟩:=O.obj;refine wpAny_Raise_call_subT (C:=C) (nm:=nm) (q:=Z) (N:=N) (bs:=bs) (bm:=Q) (hdct:=hdct) (sn:=sn) (sub:=sub) (ab:=ab) (col:=col) (dd:=dd) (k0:=k0) (k1:=k1) (k2:=k2) (k3:=k3) (k5:=k5)
  P (mN:=mN) (T.hasType P.hasBase) (I.ok.hd hc) (by rw[L];rfl) G (pC I hg O.bound ⟨rfl,?_⟩ hd)
 have q2:Ok X.K E0 n F S H (de t) (λ_ b r o p=>iz X.K E pin n r o p (.er (.ref C) b) D):=by
  have q:iz X.K E pin n F S H ((cG (de t)).bind λ_ b=>.er (.ref C) b) D:=q;cases J:de t with
  |no=>rw[J]at q;exact q.elim
  |er c y=>rw[J]at q;exact q.elim
  |ok v y=>rw[J]at q;exact λF' S' H' r' g'=>q.from g' (g8.refl _ _)
 rw[L];refine CT (cW (uX (cW ((he F S t n H (λv p=>∃r o b,aO X.K r o b n p/\iz X.K E pin n r o p (.er (.ref C) b) D) Y (q2.imp λv b r o p K g1 h v' rv=>⟨r,o,b,K,h⟩)).run M s (I.wish _)) (λu W ⟨v,p,w,K,r,o,b,A,ok⟩=>?_) λ_ _ z=>z.elim)) (λ_ _ z=>z) λ_ _ z=>z);have w:=w.unwish;refine x0 ⟨rfl,(by show 1<=a_;decide),w.bk _ _ hC,hN.keeps w.bk,T.keeps w.bk,λh' a m=>?_⟩;exact hx M n p W a (.ref C) h' w m.keeps (Ik m) m.new (ok ae r o n p A (bf.refl ..) (g8.refl _ _))
end
section
variable{P:aN}{w:aD}{K:aw}{m:Str->Option ah}{j:az}{N:List Str}{i:Str}{g:cN}{f:af}{n:ah}{A:aJ}{h:List Env}{d:am}{l:Hp}{E:XK}
theorem zn:yR (fX (ce P w) P w K m j N i g f n A h d l E) E:=λJ C H s a c y I F D new G=>by
 have p:Inv _ J C H {s with heap:=y}:=I.kept (t':=s.toks) F;refine IU (s:={s with heap:=y}) (L:=d.heap.objs.size) I.ok.frames p.stack rfl D λM B k v u=>?_;have r:d.heap.get? a=ae:=pt I.base new;have t:d.heap.get? B=ae:=pt p.base (rJ u);have x:H a=ae:=FD I.hok new;refine⟨a,B,c,H,rfl,p.os,p.bare,xw p.base k (λb o e z=>?_) (λb o e z=>by rw[show b=a from z,r]at e;cases e),ww p.hok k p.stkFree (λb z=>by rw[show b=a from z];exact x),v,⟨r,t,x,p.hok.fresh u⟩,G⟩;rcases bT.mp (I.stkSub b z)with q|q
 .exact absurd (bE e) (by rw[q];exact gR _)
 .exact q
end
section
variable{X:Cx}{f:List (af×Obj)}{a:St}{H:Hp}{s:am}
theorem FS{M:Model}{A:aJ}{E:ah->am->Prop}{i:Nat}{x:Str}{v:V}{Q:Unit->am->Prop}(I:Inv X f a H s)(hN:X.N.Nodup)(S:X.N[i]?=aa x)(F:X.env.scope.names.lookup x=aa .local)(N:a[i]?=aa (aa v))(h:∀s',Inv X f (a.set i ae) H s'->Q () s'):aq M A (unbindName X.env x) Q E s:=by
 obtain⟨m,O,P⟩:=id I.loc;have lv:(X.env.scope.kind == .class||(X.env.scope.kind == .module&&X.env.locals != X.env.globals))=aj:=by rw[I.ok.kind];rfl
 have r:i<a.length:=(cJ.mp N).1;obtain⟨u,_,lk⟩:=P i x v S N (.inl F);have hm:m x=aa u:=by
  rcases lk with⟨_,z⟩|⟨z,_⟩
  .exact z
  .have z:X.env.scope.names.lookup x=aa .cell\/X.env.scope.names.lookup x=aa .free:=z;rcases z with z|z <;> rw[F]at z <;> cases z
 refine wpAny_unbindName_local F O hm lv λh' u' D l=>?_;obtain⟨oL,_,_,pY,_⟩:=id O;have C:∀b o,X.s₀.heap.get? b=aa o->h'.get? b=s.heap.get? b:=λb o e=>l.2 b (cM (eu (bE e) I.ok.above));refine h _ ⟨I.ok,I.os,I.bare,⟨λb o e n J g=>(C b o e).trans (I.base.keep b o e n J g),λb o e n J g=>?_,I.base.free,λb o e g=>?_,I.base.tups,I.base.frzs,I.base.tbls⟩,⟨_,D,λj y W T B e3=>?_⟩,λy c e=>?_,I.free,I.freeC,λp hp=>?_,λb ob e=>?_,by rw[e_];exact I.len⟩
 .obtain⟨Y,q⟩:=I.base.slot b o e n J g;exact⟨Y,(C b o e).trans q⟩
 .obtain⟨o',q⟩:=I.base.there b o e g;exact⟨o',(C b o e).trans q⟩
 .by_cases G:j=i
  .subst G;rw[eX r]at B;cases B
  .rw[dH (ez G)]at B;obtain⟨w,Z,q⟩:=P j y W T B e3;refine⟨w,Z,?_⟩;rcases q with⟨k,e⟩|⟨k,c,e,z⟩
   .have:y≠x:=λe=>G (vO hN T (e ▸ S));exact .inl ⟨k,by simp[this,e]⟩
   .exact .inr ⟨k,c,e,z.sameBut l (I.cne y c e)⟩
 .obtain⟨K,z⟩:=I.cell y c e;exact⟨K,z.sameBut l (I.cne y c e)⟩
 .obtain⟨e,n,L,nf,d⟩:=I.pin p hp;exact⟨(l.2 p.1 L).trans e,n,L,nf,d⟩
 .refine(I.hok b ob e).stay (λc K t q=>(l.2 c ?_).trans q) (λ_ q=>q) λ_ _ q=>q;rintro rfl;rcases t with rfl|t
  .rw[I.free]at e;cases e
  .rw[I.free]at t;cases t
end
def XP(X:Cx)(g:List (af×Obj))(d:St)(h:ah->Hp->Prop)(e:ah)(f:am):Prop:=∃a b,Inv X g d b a/\ce X.prog X.w X.stack b a (λc _ i=>h c i) e f
def DX(X:Cx)(e:aA)(d:ak->R Slot):Prop :=
 ∀F S h a H Q (i:ah->Hp->Prop),aO X.K F S h a H->Ok X.K (λc _ f=>i c f) a F S H (d h) (λs _ l m f=>∀v j,kQ X.K f l s v j->(∀b,j b->H b=ae/\¬l b/\¬U m b/\∃o,f b=aa o/\c7 o)->Q v f) ->
  ∀g s,Inv X g a H s->aq (au X.prog X.w) X.A (aM e X.env) (EP X g a Q) (XP X g a i) s
section
variable{X:Cx}{e:aA}{a:List aA}{l:ak->R (List bJ)}{j:Pos}{x:Str}{k:Nat}{m:List Str}{g:ak->R Slot}{p:Pos}{d:ak->R Slot}
def o_(g:ak->R Slot)(l:ak->R (List bJ)):ak->R Slot:=λf=>(cG (l f)).bind λc b=>(aW (if(cr c).Nodup then et b c else ae) b).bind λh b=>gu b c (g h)
theorem E7(c:cD (ce X.prog X.w) X.prog X.w X.K X.mg X.base x k m (bH X.K g))(hr:Room k X.A)(ha:DG X.nox E0 (e::a) l)(hg:Gl X x:=by rfl)(hd:(x==("__debug__":Str))=aj:=by decide) (h1:aI (e::a) X.env=(aj,aM e X.env)::aI a X.env:=by rfl) (h2:(cg j (aI a X.env)).any (·.1)=aj:=by rfl):DX X (.Call (.Name x p) (e::a) [] j) (o_ g l):=λF S ε M H Q XE rl h ag s I=>by
 obtain⟨f,fd,hm,Fn,hb,hk⟩:=c.ex;have q0:Ok X.K E0 M F S H (l ε) (λt n C D B=>Ok X.K (λc _ A=>XE c A) M C D B ((aW (if(cr t).Nodup then et n t else ae) n).bind λN n=>gu n t (g N)) (λs _ E Y A=>∀v K,kQ X.K A E s v K->(∀b,K b->H b=ae/\¬E b/\¬U Y b/\∃o,A b=aa o/\c7 o)->Q v A)):=by
  unfold o_ at h;cases e0:l ε with
  |no=>rw[e0]at h;exact h.elim
  |er c ε'=>rw[e0]at h;exact h.elim
  |ok t n=>rw[e0]at h;exact λC D B G g1=>Ok.from h g1
 refine pI (pC I hg hm ?_ hd);have wa:=(ha F S ε M H (λO B=>∃C D n t,aO X.K C D n M B/\g7 X.K M C B t O/\(∀b,B b=ae->H b=ae)/\Ok X.K (λc _ A=>XE c A) M C D B ((aW (if(cr t).Nodup then et n t else ae) n).bind λN n=>gu n t (g N)) (λs _ E Y A=>∀v K,kQ X.K A E s v K->(∀b,K b->H b=ae/\¬E b/\¬U Y b/\∃o,A b=aa o/\c7 o)->Q v A)) rl (q0.imp λt n C D B G g1 q O W=>⟨C,D,n,t,G,W,λb z=>lR g1 z,q⟩)).run j ag s (I.wish _);refine CJ (h₀:=X.base) I.ok.mod.kin hk (cW wa (λZ s1 ⟨O,B,L,r,C,D,n,t,G,W,fb,q⟩=>⟨L.unwish.kIn,?_⟩) λ_ _ z=>z.elim) h1 h2;have L:=L.unwish;have q:=Ok.bind q;by_cases P:(cr t).Nodup
 .rw[if_pos P]at q;cases a:et n t with
  |none=>rw[a]at q;exact q.elim
  |some N=>
   rw[a]at q;have q:=q C D B G (bf.refl ..);dsimp only at q;have fK:bH X.K g O B Q (λc _ A=>XE c A):=by
    refine⟨C,j5 t D,N,G.cal W a P,?_⟩;cases eg:g N with
    |no=>rw[eg]at q;exact q.elim
    |er cv aG=>
     rw[eg]at q;intro y E Y A r' g';unfold gu at q;dsimp only at q;by_cases J:gH t aG=ai
     .rw[if_pos J]at q;obtain⟨S2,r2,g2,_⟩:=G.called W a P r' g' (λ_ z=>z) (kM J);exact q ae E S2 A r2 g2
     .rw[if_neg J]at q;exact q.elim
    |ok sl aG=>
     rw[eg]at q;intro v E Y A K r' g' rv lo fr;unfold gu at q;dsimp only at q;by_cases J:gH t aG=ai
     .rw[if_pos J]at q;obtain⟨S2,r2,g2,u2⟩:=G.called W a P r' g' (λ_ z=>.inl z) (kM J);refine q E S2 A r2 g2 v K rv λb z=>⟨fb b (fr b z),(lo b z).1,λw=>?_,(lo b z).2.2⟩
      rcases u2 b w with w|⟨i,w⟩
      .exact(lo b z).2.1 w
      .obtain⟨_,_,o,y1,_⟩:=G.foot i b w;rw[fr b z]at y1;cases y1
     .rw[if_neg J]at q;exact q.elim
   have hl:Z.length=m.length:=by rw[<-r.length];exact Fn.len _ _ _ _ fK
   refine rM (nI (Fn.run X.A X.stack s1 B ⟨Z,[]⟩ Z O Q _ hr L.env0 (by have:=hb s1 Z L.kIn (by rw[iA];exact hl);rwa[iA]at this) r fK) λrr s' T=>?_);cases rr with
   |error er=>exact⟨s1,B,L,T⟩
   |ok fl=>
    cases fl with
    |ret u=>exact L.after T
    |next=>exact fF T
    |brk=>exact fF T
    |cont=>exact fF T
 .rw[if_neg P]at q;exact q.elim
end
abbrev hand(X:Cx)(a:af):Cx:={X with A:=X.A.mark (aa (.ref a)),calm:=aj,xe:=λ_ _=>False}
section
variable{X:Cx}{c:List (af×Obj)}{b:St}{H:Hp}{s:am}{a:af}
theorem Inv.hand(I:Inv X c b H s)(d:(X.A.mark (aa (.ref a))).frames=X.A.frames:=by rfl):Inv (Pu.hand X a) c b H s :=
 ⟨⟨I.ok.mod,I.ok.kind,I.ok.glob,I.ok.blt,I.ok.above,I.ok.inj,I.ok.has,I.ok.cab,(λz=>by cases z),d.trans I.ok.frames,I.ok.stk,I.ok.exf,I.ok.bs,I.ok.bsz,I.ok.noex,I.ok.exfs,I.ok.funs,I.ok.frf,I.ok.tab⟩,I.os,I.bare,I.base,I.loc,I.cell,I.free,I.freeC,I.pin,I.hok,I.len⟩
theorem Inv.unhand(I:Inv (Pu.hand X a) c b H s)(ok:X.Ok):Inv X c b H s:=⟨ok,I.os,I.bare,I.base,I.loc,I.cell,I.free,I.freeC,I.pin,I.hok,I.len⟩
end
def Under(h:az)(D:af)(c:ah):Prop:=∃C g N j q bs b i d s f r p o n m l a,c=.ref C/\h.get? C=aa (yx j q C N bs g b i d s f r p o n m l a)/\(Value.ref C::g).contains (.ref D)=ai
def nz(h:az)(D:af):Prop:=∃f N i q bs b g c r d p o n m l j a,h.get? D=aa (yx i q D N bs f b g c r d p o n m l j a)/\f.contains (.type "BaseException")=ai
theorem Under.keeps{h d:az}{D:af}{c:ah}(x:Under h D c)(k:∀b o,h.get? b=aa o->d.get? b=aa o):Under d D c:=by obtain⟨C,bm,N,nm,q,bs,hdct,sn,sub,ab,col,dd,k0,k1,k2,k3,k5,a,e,g,f⟩:=x;exact⟨C,bm,N,nm,q,bs,hdct,sn,sub,ab,col,dd,k0,k1,k2,k3,k5,a,e,k _ _ g,f⟩
theorem nz.keeps{h c:az}{D:af}(x:nz h D)(k:∀b o,h.get? b=aa o->c.get? b=aa o):nz c D:=by obtain⟨bm,N,nm,q,bs,hdct,sn,sub,ab,col,dd,k0,k1,k2,k3,k5,a,f,d⟩:=x;exact⟨bm,N,nm,q,bs,hdct,sn,sub,ab,col,dd,k0,k1,k2,k3,k5,a,k _ _ f,d⟩
theorem EB{M:Model}{A:aJ}{E:ah->am->Prop}{s:am}{e D:af}{o:Obj}{c:ah}{Q:Bool->am->Prop}(J:Under s.heap D c)(b:nz s.heap D)(L:s.heap.get? e=aa o)(y:o.cls=c)(K:Q ai s):aq M A (excMatches (.ref e) (.ref D)) Q E s:=by
 obtain⟨C,bm,N,nm,q,bs,p,X,v,ab,S,dd,k0,k1,k2,k3,k5,i,rfl,r,I⟩:=J;obtain⟨m,N',x,Y,T,j,w,n,W,u,P,H,G,F,B,z,a,b,O⟩:=b;obtain⟨h,g,d,t,Z⟩:=s;have l:(Value.ref D::m).contains (.type "BaseException")=ai:=by rw[List.contains_cons,O,Bool.or_true]
 have f:=tc_notTuple;unfold excMatches
 repeat (first | (with_reducible refine Da L ?_;rw[y])|with_reducible refine Da r ?_|with_reducible refine Da b ?_ | (with_reducible refine wpAny_isSubtype_exc r ?_;rw[I]) | (with_reducible refine wpAny_isSubtype_exc b ?_;rw[l])|wp_step)
 exact K
def nk(i:Nat)(b:ah->Bool)(h:ak->R Slot)(j:ak->R aP):ak->R aP:=λg=>match h g with
 |.ok s a=>.ok (.ret s) a
 |.er c a=>if b c=ai/\i<a.length then(match j (a.set i (.val (.exc c)))with
  |.ok f d=>(match d[i]? with
   |some (.val _)=>.ok f (d.set i .none)
   |_=>.no)
  |_=>.no)else .no
 |.no=>.no
section
variable{X:Cx}{E:XK}{pin:List Nat}{e:aA}{x:ak->R Slot}{A:ak->R aP}{G J C B:Pos}{t n:Str}{D:af}{l:List aU}{m:aU}{g:ah->Bool}
theorem aO.unset{K:aw}{F:af->Prop}{S:Nat->af->Prop}{a:ak}{h:St}{H:Hp}{i:Nat}(r:aO K F S a h H):aO K F (λj b=>S j b/\j≠i) (a.set i .none) (h.set i ae) H:=by
 have c:=r.drop i;have o:∀{j:Nat}{s:Slot},(a.set i .none)[j]?=aa s->s≠.none->j≠i:=λ{j s} e q z=>by
  subst z;by_cases u:j<a.length
  .rw[eX u]at e;exact q (dw e).symm
  .rw[rZ (by rw[e_];lia)]at e;cases e
 refine⟨by rw[e_,e_];exact r.len,r.ex,λj pv e=>?_,λj p e=>?_,c.foot,c.dist⟩
 .obtain⟨v,f,d⟩:=c.val j pv e;exact⟨v,by rw[dH (ez (o e (by intro z;cases z)))];exact f,d⟩
 .obtain⟨v,f,d⟩:=c.own j p e;exact⟨v,by rw[dH (ez (o e (by intro z;cases z)))];exact f,d⟩
theorem Kj{P:aN}{w:aD}{H:Hp}{h:az}{a T:af}{c I:ah}(ok:cP P w H h)(j:H a=ae)(f:jq h a T c I):cP P w (upd H a (kI a c)) h:=λb u q=>by
 by_cases r:b=a
 .subst r;rw[cI]at q;cases q;obtain⟨i,v,_,_,p,F,y,_⟩:=f;exact⟨⟨i,v,p,F,y⟩,⟨i,p⟩,λO N ⟨o,s,M,L,K⟩ k=>⟨o,s,k o M,L,K⟩⟩
 .rw[bM r]at q;exact(ok b u q).stay (λ_ _ _ z=>z) (λd z=>by rw[bM (jX z j)];exact z) λd xs z=>by rw[bM (jX z j)];exact z
def Ch(X:Cx)(r:List aU)(d:ak->R Slot):Prop :=
 ∀F S i a H Q (j:ah->Hp->Prop),aO X.K F S i a H->Ok X.K (λc _ f=>j c f) a F S H (d i) (λs _ q y f=>∀v p,kQ X.K f q s v p->(∀b,p b->H b=ae/\¬q b/\¬U y b/\∃o,f b=aa o/\c7 o)->Q v f) ->
  ∀h s,Inv X h a H s->aq (au X.prog X.w) X.A (execs r X.env) (λw s'=>∃u,w=.ret u/\EP X h a Q u s') (XP X h a j) s
theorem Kf(d:DX X e x):Ch X [.Return (aa e) G] x:=λF S b a H Q i c h f s I=>CF (wpAny_Return_some (cW (d F S b a H Q i c h f s I) (λu j q=>⟨u,rfl,q⟩) λ_ _ q=>q))
theorem Fu{ss:List aU}(i:Nat)(hN:X.N.Nodup)(hx:Ch X ss x)(hD:X.mg t=aa (.ref D))(hE:nz X.base D)(hcg:∀c,g c=ai->Under X.base D c)(hh:∀a,eO (hand X a) E0 pin (m::l) A)(eE:i∉pin:=by decide) (hi:X.N[i]?=aa n:=by rfl) (hl:X.env.scope.names.lookup n=aa .local:=by rfl) (hg:Gl X t:=by rfl) (hd:(t==("__debug__":Str))=aj:=by decide) (cF:X.stack=X.env::X.outer:=by rfl) (hfm:X.env.frame=aa X.env.locals:=by rfl) (hf:X.fn n=ai\/X.env.scope.names.lookup n=aa .local:=by first|exact .inl rfl|exact .inr rfl):DS X E pin (.Try ss [.ExceptHandler (aa (.Name t J)) (aa n) (m::l) C] [] [] B) (nk i g x A):=λF S ε σ H Dn rl q=>Bx.mk λag s I=>by
 refine wpAny_Try_except ?_;have body:=hx F S ε σ H (λv r=>Dn.rt v r) (λc r=>∃K P M,aO X.K K P M σ r/\bf (U S) (U P) F K H r/\g c=ai/\i<M.length/\iz X.K E pin σ F S H (match A (M.set i (.val (.exc c)))with
  |.ok f ε2=>(match ε2[i]? with
   |some (.val _)=>.ok f (ε2.set i .none)
   |_=>.no)
  |_=>.no) Dn) rl (by
  unfold nk at q;cases e0:x ε with
  |no=>rw[e0]at q;exact q.elim
  |ok sl M=>rw[e0]at q;intro K P r r' N v Sr rv fr;exact q v K P σ r Sr r' ⟨N.fro,N.keep,N.there,N.fnew,λb z=>z.elim (N.onew b) λw=>.inr (fr b w).1⟩ (g8.refl _ _) rv λb z=>(fr b z).2
  |er c M=>
   rw[e0]at q;intro y K P r r' N;dsimp only at q;by_cases hc:g c=ai/\i<M.length
   .rw[if_pos hc]at q;exact⟨K,P,M,r',N,hc.1,hc.2,q⟩
   .rw[if_neg hc]at q;exact q.elim) ag s I
 refine cW body (λfl W ⟨u,efl,v,Z,I1,r1,q1⟩=>?_) λev W xp=>?_
 .subst efl;exact⟨v,σ,Z,I1,r1,q1⟩
 obtain⟨s0,H0,I0,a,T,c,Z,rfl,ho,hg1,un,hok,fl,⟨fa,fT,na,nT⟩,F1,S1,ε1,rl1,g1,hcc,aX,h⟩:=xp;have I1:=I0.call' (s':=W) (ch:=[]) ho un hok hg1 (λb z=>absurd z (by simp));have kpI:∀{h2:az}{Y:af->Prop}{T':af},Kp (dU X.stack) Y W.heap h2->(∀b o,s0.heap.get? b=aa o->¬Y b)->(∀b,Y b->Z b=ae)->jq h2 a T' c .none->∀tk,Inv X ag σ (upd Z a (kI a c)) {W with heap:=h2,toks:=tk}:=λ{h2 Y T'} k hY1 hY2 f2 tk=>by
  refine I0.call' (s':={W with heap:=h2,toks:=tk}) (ch:=[]) ho ?_ (Kj (ww hok k (λb hb=>I1.stkFree b hb) hY2) na f2) hg1 (λb z=>absurd z (by simp));have u2:=xw un k (λb o _ z=>z) hY1;have na':∀b o,Z b=aa o->b≠a:=λb o e=>jX e na;refine⟨u2.keep,u2.slot,λb o e n hx=>?_,u2.there,λb xs e=>?_,λb o u e=>?_,λb ps e=>?_⟩
  .rw[bM (by rintro rfl;rw[fa]at e;cases e)];exact u2.free b o e n hx
  .have:=u2.tups b xs e;rw[bM (na' b _ this)];exact this
  .have:=u2.frzs b o u e;rw[bM (na' b _ this)];exact this
  .have:=u2.tbls b ps e;rw[bM (na' b _ this)];exact this
 have H1T:∀b,b=a\/b=T->Z b=ae:=λb z=>by rcases z with rfl|rfl <;> assumption
 have old1:∀b o,s0.heap.get? b=aa o->¬(b=a\/b=T):=λb o e z=>by
  rcases z with rfl|rfl
  .rw[fa]at e;cases e
  .rw[fT]at e;cases e
 refine A8 (outer:=X.outer) (by rw[I0.ok.frames,cF]) (by rw[<-cF];exact I1.stack) hfm fl λh2 T' k fl2 fT'=>?_;rw[<-cF]at k;have I2:=kpI k old1 H1T fl2 W.toks;refine wpAny_handleBy_cons (codeAny_handlers_test ?_) (by intro z;cases z);have I2h:Inv (hand X a) ag σ (upd Z a (kI a c)) {W with heap:=h2}:=Inv.hand I2;refine pC (X:=hand X a) I2h hg hD ?_ hd;obtain⟨oe,vs,oT,ts,he2,LS,_⟩:=id fl2;refine EB (s:={W with heap:=h2}) ((hcg c hcc).keeps I2.bk) (hE.keeps I2.bk) he2 LS ?_;show jC _ _ _ _ _;refine codeAny_handlers_suite_as (J4 (s:={W with heap:=h2}) fl2 λh3 k3 fl3=>?_);have k':Kp (dU X.stack) (λb=>(b=a\/b=T)\/b=T') W.heap h3:=k.trans (k3.imp (λb z=>by simp at z) λb o _ z=>z);have I3:=kpI (T':=T') k' (λb o e z=>by
  rcases z with z|rfl
  .exact old1 b o e z
  .rw[pt un (rJ fT')]at e;cases e) (λb z=>by
  rcases z with z|rfl
  .exact H1T b z
  .exact I1.hok.fresh fT') fl3 W.toks
 have I3h:Inv (hand X a) ag σ (upd Z a (kI a c)) {W with heap:=h3}:=Inv.hand I3;refine ur (X:=hand X a) (v:=.ref a) I3h hN hi (.inl hl) rfl (λs4 I4=>?_) hf;have al:Al F1 F1 Z (upd Z a (kI a c)):=Al.new0 na;have r2:=rl1.al al;have r3:=r2.set (i:=i) (pv:=.exc c) (v:=.ref a) ⟨a,rfl,cI⟩;have g3:bf (U S) (U λj b=>S1 j b/\j≠i) F F1 H (upd Z a (kI a c)):=(g1.trans al.grow).trans (bf.less i);have less:∀{P:Nat->af->Prop}{K:af->Prop}{r:Hp},bf (U P) (U λj b=>P j b/\j≠i) K K r r:=λ{P K r}=>bf.less i;have pn:∀{d:St},g8 pin (σ.set i (aa (.ref a))) d->g8 pin σ (d.set i ae):=λ{d} p=>((g8.set eE).trans p).trans (g8.set eE);have okd:iz (hand X a).K E0 pin (σ.set i (aa (.ref a))) F1 (λj b=>S1 j b/\j≠i) (upd Z a (kI a c)) (A (ε1.set i (.val (.exc c)))) {nx:=λd r=>Dn.nx (d.set i ae) r,rt:=Dn.rt,bk:=λd r=>Dn.bk (d.set i ae) r,ct:=λd r=>Dn.ct (d.set i ae) r}:=by
  cases ed:A (ε1.set i (.val (.exc c)))with
  |no=>rw[ed]at h;exact h.elim
  |er c' ε2=>rw[ed]at h;exact h.elim
  |ok f ε2=>
   rw[ed]at h;dsimp only at h;split at h
   .cases f with
    |next=>exact λK P d r r' N p'=>h K _ _ r r'.unset ((g3.trans N).trans less) (pn p')
    |brk=>exact λK P d r r' N p'=>h K _ _ r r'.unset ((g3.trans N).trans less) (pn p')
    |cont=>exact λK P d r r' N p'=>h K _ _ r r'.unset ((g3.trans N).trans less) (pn p')
    |ret sl=>
     intro v K P d r Sr r' N p' rv lo;refine h v K _ _ r Sr r'.unset ?_ (pn p') rv λb z=>⟨(lo b z).1,λ⟨j,w⟩=>(lo b z).2.1 ⟨j,w.1⟩,(lo b z).2.2⟩
     have gg:=g3.trans N;exact⟨gg.fro,gg.keep,gg.there,gg.fnew,λb z=>gg.onew b (z.imp (λ⟨j,w⟩=>⟨j,w.1⟩) id)⟩
   .exact h.elim
 refine cW ((hh a F1 _ _ _ _ _ r3 okd).run ag s4 I4) (λf s5 sp=>?_) λ_ _ z=>z.elim;have O:∀{L:St}{H5:Hp}{Q:Unit->am->Prop},Inv (hand X a) ag L H5 s5->(∀s6,Inv X ag (L.set i ae) H5 s6->Q () s6)->aq (au X.prog X.w) X.A (do bindName X.env n .none;unbindBehindTheSuite X.env n C) Q X.xe s5:=λ{L H5 Q} I5 hQ=>by
  have I5':=Inv.unhand I5 I0.ok;refine ap (wpAny_bindName (ur (v:=.non) I5' hN hi (.inl hl) rfl (λs6 I6=>?_) hf));unfold unbindBehindTheSuite;refine wpAny_onRaise ?_;have hiσ:i<L.length:=by rw[I5'.len];exact(cJ.mp hi).1
  refine FS I6 hN hi hl (eX hiσ) λs7 I7=>hQ s7 ?_;rw[List.set_set]at I7;exact I7
 cases f with
 |next=>obtain⟨L,H5,I5,q5⟩:=sp;exact O I5 λs6 I6=>⟨_,H5,I6,q5⟩
 |brk=>obtain⟨L,H5,I5,q5⟩:=sp;exact O I5 λs6 I6=>⟨_,H5,I6,q5⟩
 |cont=>obtain⟨L,H5,I5,q5⟩:=sp;exact O I5 λs6 I6=>⟨_,H5,I6,q5⟩
 |ret u=>obtain⟨v,L,H5,I5,rv,q5⟩:=sp;exact O I5 λs6 I6=>⟨v,_,H5,I6,rv,q5⟩
theorem Gn(i:Nat)(s:X.N.Nodup)(f:DX X e x)(v:X.mg t=aa (.ref D))(u:nz X.base D)(d:∀c,g c=ai->Under X.base D c)(o:∀a,eO (hand X a) E0 pin (m::l) A)(w:i∉pin:=by decide) (j:X.N[i]?=aa n:=by rfl) (h:X.env.scope.names.lookup n=aa .local:=by rfl) (p:Gl X t:=by rfl) (r:(t==("__debug__":Str))=aj:=by decide) (y:X.stack=X.env::X.outer:=by rfl) (b:X.env.frame=aa X.env.locals:=by rfl) (q:X.fn n=ai\/X.env.scope.names.lookup n=aa .local:=by first|exact .inl rfl|exact .inr rfl):DS X E pin (.Try [.Return (aa e) G] [.ExceptHandler (aa (.Name t J)) (aa n) (m::l) C] [] [] B) (nk i g x A):=Fu i s (Kf f) v u d o w j h p r y b q
end
structure ja(k:Nat)(A:aJ):Prop where
 dp:A.depth+3*k+5<rL
 un:A.units+16*k+200<cLine
theorem Room.hand{k:Nat}{A:aJ}{v:Option ah}(r:Room k A):ja k (A.mark v):=⟨r.dp,r.un⟩
theorem ja.mono{j k:Nat}{A:aJ}(r:ja k A)(h:j<=k):ja j A:=⟨by have:=r.dp;lia,by have:=r.un;lia⟩
theorem ja.deeper{k:Nat}{A:aJ}(r:ja (k+1) A)(a:Env):ja k (A.deeper a) :=⟨by have:=r.dp;show A.depth+1+3*k+5<_;lia,by have:=r.un;show A.units+3+16*k+200<_;lia⟩
theorem ja.units{k:Nat}{A:aJ}(r:ja k A):A.units+64<cLine:=by have:=r.un;lia
def rn(P:aN)(w:aD)(K:aw)(g:Str->Option ah)(d:az)(N:List Str)(c:Str)(a:cN)(f:af)(h:ah)(A:aJ)(b:List Env)(s:am)(H:Hp):Cx :=
 {(fX wg P w K g d N c a f h A b s H E0)with calm:=aj,xe:=λ_ _=>False}
structure vX(P:aN)(w:aD)(K:aw)(mg:Str->Option ah)(base:az)(k:Nat)(f:af)(fd:fE)(ps:List Str)(sp:Sp):Prop where
 len:∀vs H Q E,sp vs H Q E->vs.length=ps.length
 run:∀(A:aJ) (outer:List Env) (s:am) (H:Hp) (args:Args) (us:List ah) (vs:List V) (Q:VK),ja k A->oQ P w K mg base A outer s H->BindsTo s fd args (ps.zip us)->bq vs us->sp vs H Q E0 ->
  jC (au P w) A (.call (.ref f) args) (CR wg outer P w H s Q E0) s
structure tR(P:aN)(w:aD)(K:aw)(mg:Str->Option ah)(base:az)(x:Str)(k:Nat)(ps:List Str)(sp:Sp):Prop where
 ex:∃f fd,mg x=aa (.ref f)/\vX P w K mg base k f fd ps sp/\Binds K fd ps []/\nJ K (.ref f)=ai
theorem FY{P:aN}{w:aD}{K:aw}{D:Str->Option ah}{h:az}{k:Nat}{f:af}{t g:Str}{i:nL}{l:List aU}{a:cN}{dV kV L pm B ct oc:ah}{an od:Option af}{Y:Array (Option ah)}{N M:List Str}{O:Sp} (lk:K.lookup f=aa ⟨oc,od,.func (ge t g i l a dV kV L pm an B ct),Y⟩) (bK:rN K B g=ai) (S:b0 N M a)(len:∀p H Q E,O p H Q E->p.length=M.length)(ff:∀(A:aJ) (c:List Env) (s:am) (H:Hp) (p:List V) (Q:VK),ja k (A.deeper (gU g a s.heap.objs.size f B))->O p H Q E0 -> ng (rn P w K D h N g a f B A c s H) l {nx:=λ_ C=>Q .non C,rt:=Q} (L2.start N p) H):vX P w K D h (k+1) f (ge t g i l a dV kV L pm an B ct) M O:=by
 refine⟨len,λA c s H args us p Q hr j hb r fK=>?_⟩;have hl:=len _ _ _ _ fK;have KX:K.In s.heap:=j.mod.kin.keeps λb o e=>(j.bs b o e).1;have Z:s.heap.NoLimit:=j.mod.nolimit.keeps λb o e=>(j.bs b o e).1;have yI:∀y∈M.zip us,a.names.lookup y.1=aa .local\/(a.names.lookup y.1=aa .cell/\((dZ (s.heap.objs.size+1) a.names []).lookup y.1).isSome=ai):=λ⟨n,v⟩ hy=>(S.par n (x_ hy).1).imp id λq=>⟨q,CK _ _ _ (.inl q)⟩
 refine codeAny_call_function (by have:=hr.dp;lia) (KX _ _ lk) rfl S.co S.gen rfl (PySem.W.codeRec_of KX bK) (hb _ _ _ _ ?_);refine wpAny_newFunctionEnv_cells S.kind yI λenv he T x=>?_;subst he;refine⟨Z.keeps x.toInCall.keep,codeAny_func ?_⟩;have e1:oQ P w K D h {A with handled:=ae} c s H:=⟨j.frames,j.mod,j.bs,j.bsz,j.funs,j.frf,j.hok,j.bare,j.tab⟩
 have d:Inv (fX wg P w K D h N g a f B {A with handled:=ae} c s H E0) [] (L2.start N p) H T:=AC S rfl e1 hl r x;have I:Inv (rn P w K D h N g a f B A c s H) [] (L2.start N p) H T :=
  ⟨⟨d.ok.mod,d.ok.kind,d.ok.glob,d.ok.blt,d.ok.above,d.ok.inj,d.ok.has,d.ok.cab,(λz=>by cases z),Around.frames_deeper j.frames,d.ok.stk,d.ok.exf,d.ok.bs,d.ok.bsz,d.ok.noex,d.ok.exfs,d.ok.funs,d.ok.frf,d.ok.tab⟩,d.os,d.bare,d.base,d.loc,d.cell,d.free,d.freeC,d.pin,d.hok,d.len⟩
 refine cW ((ff A c s H p Q (hr.deeper _) fK).run [] T I) (λfl W F=>?_) λe W F=>F.elim;have G:∀{m:St}{C:Hp}{v:V}{u:ah},Inv (rn P w K D h N g a f B A c s H) [] m C W->RelV v u->Q v C->CE c P w H s Q u W:=λ{m C v u} J X q=>⟨v,C,J.os,J.bare,J.base,J.hok,X,q⟩
 cases fl with
 |ret u=>obtain⟨v,m,C,J,X,q⟩:=F;exact G J X q
 |next=>obtain⟨m,C,J,q⟩:=F;exact G (v:=V.non) (u:=Value.none) J rfl q
 |brk=>obtain⟨_,_,_,q⟩:=F;exact fF q
 |cont=>obtain⟨_,_,_,q⟩:=F;exact fF q
theorem Dy{P:aN}{w:aD}{K:aw}{t:Str->Option ah}{j:az}{x:Str}{c:aU}{N l:List Str}{k n:Nat}{g:ak->R Slot}{d:ak->R aP}{p:List Nat}(D:cq K t x c)(X:b0 N l (aT c))(I:N.length=l.length+n)(M:∀(kV q v:ah) (C:Option af) (o z:ah) (r:List ah),r.length=l.length->dY (ge x x (iy c) (dX c) (aT c) .none kV q v C o z) ⟨r,[]⟩=pure (l.zip r))(B:∀b,g b≠.no->b.length=l.length) (y:∀b,g b≠.no->∀(i:Nat) m,b[i]?=aa (.own m)->i∈p/\fW m=ai) (L:∀b,g b≠.no->bC n d b=g b)(O:∀(f:af) (o:ah) (A:aJ) (a:List Env) (s:am) (H:Hp),ja k (A.deeper (gU x (aT c) s.heap.objs.size f o))->eO (rn P w K t j N x (aT c) f o A a s H) E0 p (dX c) d):tR P w K t j x (k+1) l (bH K g):=by obtain⟨f,S,J,u⟩:=D.ex;refine⟨f,S,J,?_,u.binds M,u.kp⟩;obtain⟨oc,od,kV,q,v,C,o,z,E,rfl,F,W⟩:=u.ex;exact FY F W X (zi B) λA a s H Y Q G T=>Ce I B (λb h i m e=>(y b h i m e).1) (λb Z aG h=>.inr λi m e=>(y b (by rw[h];exact nofun) i m e).2) L (O f o A a s H G) T
section
variable{X:Cx}{E:XK}{e:aA}{d:List aA}{j:ak->R (List bJ)}{b:Pos}{x:Str}{k:Nat}{i:List Str}{g:ak->R Slot}{p:Pos}
theorem IZ{f:af}{y:fE}{v:Sp}{t:TA}(z:vX X.prog X.w X.K X.mg X.base k f y i v)(B:ja k X.A)(G:Gl X x)(C:X.mg x=aa (.ref f))(F:nJ X.K (.ref f)=ai)(L:Binds X.K y i [])(M:PA X (e::d) t) (K:(x==("__debug__":Str))=aj) (J:aI (e::d) X.env=(aj,aM e X.env)::aI d X.env) (O:(cg b (aI d X.env)).any (·.1)=aj):PE X (.Call (.Name x p) (e::d) [] b) (λm H Q=>t m H λn o=>v n o Q E0):=λP s m H Q I h=>by
 refine pI (pC I G C ?_ K);refine CJ (h₀:=X.base) I.ok.mod.kin F (aQ (M b P s m H _ I h) λc w ⟨n,o,l,r,q⟩=>⟨l.kIn,?_⟩) J O;have D:c.length=i.length:=by rw[<-r.length];exact z.len _ _ _ _ q
 refine rM (nI (z.run X.A X.stack w o ⟨c,[]⟩ c n Q B l.env0 (by have:=L w c l.kIn (by rw[iA];exact D);rwa[iA]at this) r q) λA S a=>?_);cases A with
 |error er=>exact(show False from a).elim
 |ok N=>
  cases N with
  |ret u=>exact l.after a
  |next=>exact fF a
  |brk=>exact fF a
  |cont=>exact fF a
theorem Dx{n m:Type}{K:aw}{E o:XK}{c:St}{F:af->Prop}{S:Nat->af->Prop}{H:Hp}{C:m->ak->(af->Prop)->(Nat->af->Prop)->Hp->Prop}{r:R n}{f:n->ak->R m}(h:Ok K E c F S H (cG (r.bind f)) C):Ok K E c F S H r λa l F S H=>Ok K o c F S H (f a l) C:=by
 cases r with
 |ok a l=>
  intro v t u s q;have h:Ok K E c F S H (cG (f a l)) C:=h;cases e:f a l with
  |ok=>rw[e]at h;exact Ok.from (E:=o) h q
  |_=>rw[e]at h;exact h.elim
 |_=>exact h.elim
theorem HU(c:tR X.prog X.w X.K X.mg X.base x k i (bH X.K g))(r:ja k X.A)(y:DG X E (e::d) j)(u:Gl X x:=by rfl)(v:(x==("__debug__":Str))=aj:=by decide) (A:aI (e::d) X.env=(aj,aM e X.env)::aI d X.env:=by rfl) (z:(cg b (aI d X.env)).any (·.1)=aj:=by rfl):DR X E (.Call (.Name x p) (e::d) [] b) (λa=>cG (a7 g j a)):=λF S a l H Q n h=>by obtain⟨f,I,s,D,w,t⟩:=c.ex;exact bO (IZ D r u s t w fv v A z) (y F S a l H _ n ((Dx h).imp λJ m M K L o B q G C=>Bw o B C q))
end
structure lU(K:aw)(C:af):Prop where
 ga:nH K (.ref C) "__getattribute__"=aa (aa (.builtin "BaseException.__getattribute__"))
 gt:nH K (.ref C) "__getattr__"=aa ae
 cl:nH K (.ref C) "__class__"=aa (aa (.builtin "object.__class__"))
 gs:CI K (.builtin "object.__class__") "__get__"=aa (aa (.builtin "getset_descriptor.__get__"))
 tk:PySem.W.takesIn K (.builtin "object.__class__")=aa ai
 ob:uW K C (.type "object")=aa ai
 be:uW K C (.type "BaseException")=aa ai
 cs:(yy K C).isSome=ai
section
variable{b:aN}{w:aD}{A:aJ}{E:ah->am->Prop}{K:aw}{h:az}{g:Array GenState}{d:Drawn}{t:Nat}{c:OsState}{a C:af}{o:Obj}
theorem J1{M:Model}{f:ah}{Q:Unit->am->Prop}(X:K.In h)(k:lU K C)(I:rK h a o C ae)(j:Q () ⟨h,g,d,t,c⟩):aq M A (C5 "BaseException.__getattribute__" ⟨[.ref a,f],[]⟩) Q E ⟨h,g,d,t,c⟩:=by
 have l:builtinKind "BaseException.__getattribute__"=aa .slot:=by decide +kernel
 have m:splitId "BaseException.__getattribute__"=aa ("BaseException","__getattribute__"):=by decide +kernel
 have p:=F.args_bexc_ga (.ref a) f;have n:=I.type (M:=M);have i:=PySem.W.looks_mroIn (M:=M) X k.be;simp only[C5,l,m];refine ap ?_
 .unfold vf
  repeat (first|with_reducible refine ap (n.at ?_)|with_reducible refine i.at ?_|with_reducible refine ap (i.at ?_)|wp_step)
  exact j
theorem IS{i:Tok}{Q:Fin->am->Prop}(X:K.In h)(k:lU K C)(I:rK h a o C ae)(j:Q (.done (.ret (.ref C))) ⟨h,g,d,t,c⟩):aq (au b w) A (Builtin.«object.__getattribute__» ⟨[.ref a,.str "__class__" i],[]⟩) Q E ⟨h,g,d,t,c⟩:=by
 have q:=I.type (M:=au b w);have l:PySem.W.findObj K C ae "__class__"=aa (.bind (.builtin "getset_descriptor.__get__") (.builtin "object.__class__")):=by obtain⟨u,m⟩:=ya.mp k.cs;unfold PySem.W.findObj;rw[m,gh,k.cl,gh];simp[k.gs,k.tk]
 have p:=PySem.W.looks_find (M:=au b w) X I l;have n:jC (au b w) A (.call (.builtin "getset_descriptor.__get__") ⟨[.builtin "object.__class__",.ref a,.ref C],[]⟩) (λr f=>r=.ok (.ret (.ref C))/\f=⟨h,g,d,t,c⟩) ⟨h,g,d,t,c⟩:=PySem.W.class_get (s:=⟨h,g,d,t,c⟩) X I k.ob ⟨rfl,rfl⟩;refine ap (aE (ap (aE (ap (q.at (ap (p.at ?_)))))));show aq _ _ (do ret (<-k8 [Value.builtin "object.__class__"] (call (.builtin "getset_descriptor.__get__") [.builtin "object.__class__",.ref a,.ref C]))) _ _ _;refine ap (ig (rM (nI n λr f z=>?_)));obtain⟨rfl,rfl⟩:=z;exact aE j
theorem Ej{i:Tok}{Q:ah->am->Prop}(X:K.In h)(k:lU K C)(I:rK h a o C ae)(q:Q (.ref C) ⟨h,g,d,t,c⟩):aq (au b w) A (getAttrBy (.ref a) (.str "__class__" i) aj) Q E ⟨h,g,d,t,c⟩:=by
 have p:=I.type (M:=au b w);have n:=PySem.W.looks_findIn (M:=au b w) X k.ga;have f:=PySem.W.looks_findIn (M:=au b w) X k.gt;have l:(Value.builtin "BaseException.__getattribute__" == Value.builtin "object.__getattribute__")=aj:=by decide +kernel
 have j:(onTheHeap (Value.ref C)&&Value.builtin "BaseException.__getattribute__" == Value.builtin "object.__getattribute__")=aj:=by rw[l];rfl
 unfold getAttrBy;refine ig (ap (p.at (ap (n.at ?_))));dsimp only;rw[j];rw[if_neg (by decide)];have f3:=F.attr_ValueError.ga.bind (.ref a);have m:(aj&&onTheHeap (Value.builtin "BaseException.__getattribute__"))=aj:=rfl
 repeat (any_goals (first|assumption|with_reducible refine f.at ?_|with_reducible refine ap (f.at ?_)|wp_step))
 refine codeAny_call_builtin F.attr_ValueError.ga.plain F.entry_bexc_ga (J1 X k I (IS X k I ?_))
 repeat (any_goals (first|assumption|wp_step))
theorem DC{Q:Option ah->am->Prop}(X:K.In h)(k:lU K C)(I:rK h a o C ae)(f:Q (aa (.ref C)) ⟨h,g,d,t+1,c⟩):aq (au b w) A (getAttr? (.ref a) "__class__") Q E ⟨h,g,d,t,c⟩:=by
 unfold getAttr? getAttrBy?
 repeat (any_goals (first|assumption|with_reducible apply Ej X k I|wp_step))
theorem FR(k:lU K C):PySem.W.KitX K (.ref a) (.ref C) (λh=>∃o,rK h a o C ae) where
 ty:=λ_ _ _ ⟨o,I⟩=>I.type
 it:=λ_ _ X _=>by
  obtain⟨x,f⟩:=ya.mp k.cs;unfold yy at f;split at f
  .rename_i y v m i l;intro J G H D r q;unfold isType loadHead;exact ap (wpAny_loadPart (r _ _ (X _ _ l)) (aE q))
  .cases f
 ne:=λh p F u n B X j=>by
  obtain⟨x,f⟩:=ya.mp k.cs;refine Bool.eq_false_iff.mpr λq=>?_;have e:C=p:=Value.ref.inj (beq_iff_eq.mp q);subst e;unfold yy at f;split at f
  .rename_i y v m i l;have z:=(X _ _ l).symm.trans j;cases z
  .cases f
 ca:=λ{_ _ _ _ _ s} X I q=>by obtain⟨o,I⟩:=I;obtain⟨h,g,d,t,c⟩:=s;exact DC X k I q
end
def uq:V->Option ah
 |.ref D=>aa (.ref D)
 |.ty T=>aa (.type T)
 |_=>ae
theorem Ez{v:V}{u a:ah}(e:uq v=aa u)(r:RelV v a):a=u:=by
 cases v <;> simp[uq]at e <;> subst e <;> exact r
section
variable{X:Cx}{K:aw}
def Cy(K:aw):List V->Hp->VK->Prop:=λxs H Q=>∃a C D u b,xs=[.ref a,D]/\H a=aa (kI a (.ref C))/\lU K C/\uq D=aa u/\fD K (.ref C) u=aa b/\Q (.bl b) H
theorem L3:d8 X (.builtin "isinstance") (Cy X.K):=by
 intro A s v H xs x Q I r h;obtain⟨a,C,D,u,b,rfl,j,k,i,e,q⟩:=h;cases r with
 |cons g f=>
  cases f with
  |cons d c=>
   cases c;cases g;have t:=Ez i d;subst t;obtain⟨⟨o,w,p,n,m,l⟩,_,_⟩:=I.hok a _ j;refine jB (FR (a:=a) k) I.kIn ⟨o,p,n,?_,?_⟩ e (by intro z;cases z) λy=>⟨.bl b,H,I.tok _,rfl,q⟩
   .unfold PySem.W.notCls;rw[m]
   .rw[l];trivial
def iw(tab:ah->V->Option Bool):List PV->Option PV
 |[.exc c,.raw D]=>(tab c D).map .bl
 |xs=>gb xs
def AB(K:aw):List V->Hp->VK->Prop:=λxs H Q=>Cy K xs H Q\/∃x t T b,xs=[x,.ty T]/\gQ K H x (.type t)/\fD K (.type t) (.type T)=aa b/\Q (.bl b) H
theorem jd:d8 X (.builtin "isinstance") (AB X.K):=L3.or mK
def wb(K:aw)(tab:ah->V->Option Bool):Prop:=∀c D b,tab c D=aa b->∃C u,c=.ref C/\lU K C/\uq D=aa u/\fD K (.ref C) u=aa b
theorem i_{tab:ah->V->Option Bool}(j:wb K tab):PL K (AB K) (iw tab):=λF H xs g Q pv f e q=>by
 unfold iw at e;split at e
 .rename_i c D;cases d:tab c D with
  |none=>rw[d]at e;cases e
  |some b=>
   rw[d]at e;cases e;obtain⟨C,u,rfl,k,i,l⟩:=j c D b d;obtain⟨v,p,rfl,⟨a,rfl,m⟩,o⟩:=f;obtain⟨h,rfl,n⟩:=gC o;rw[show h=D from n];exact .inl ⟨a,C,D,u,b,rfl,m,k,i,l,q _ F H (Al.refl ..) rfl⟩
 .exact .inr (ni F H _ g Q pv f e q)
theorem jr{E:XK}{x:Str}{D:af}{d:Pos}(a:X.mg x=aa (.ref D))(b:Gl X x:=by rfl)(c:(x==("__debug__":Str))=aj:=by decide):DE X E (.Name x d) (dC (.raw (.ref D))):=λF S g f H Q r q=>bO (wN (v:=.ref D) b a rfl c) (q F S H r (bf.refl ..) _ rfl)
variable{E:XK}{e:aA}{de:ak->R PV}{d:Pos}{y:Str}
def gB(xs:List PV)(y:PV):Option PV:=(cp y).bind λv=>(fq xs).map λa=>.int (a.countP λz=>cb z v)
def kR(xs:List PV)(y:PV):Option PV:=(cp y).bind λv=>(fq xs).bind λa=>(a.findIdx? λz=>cb z v).map λj=>.int j
def o4(f:List PV->PV->Option PV)(i:Nat)(de:ak->R PV):ak->R PV:=λb=>(aW (c0 b i) b).bind λ_ b=>(de b).bind λk a=>(aW (c0 a i) a).bind λxs a=>aW (f xs k) a
theorem FC(i:Nat){p c b:Pos}(M:DE X E e de)(P:X.N[i]?=aa y:=by rfl)(J:fN X.env.scope y:=by eq_refl)(N:(y==("__debug__":Str))=aj:=by decide)(bK:(y==("__classdict__":Str))=aj:=by decide) (Z:kc (.Name y p) "count" X.env (aM (.Name y p) X.env)=aM (.Name y p) X.env:=by rfl)(Y:((cg b (aI [e] X.env)).all (λx=>!x.1)&&(nN b (nO [] X.env)).all (λx=>x.1.isSome)&&decide ([e].length+([]:List ik).length+(if([]:List ik).isEmpty then 0 else 1)<30))=ai:=by rfl)(W:(c.endLine == b.line)=ai:=by rfl) (t:aI [e] X.env=(aj,aM e X.env)::aI [] X.env:=by rfl) (T:(cg b (aI [] X.env)).any (·.1)=aj:=by rfl):DE X E (.Call (.Attribute (.Name y p) "count" c) [e] [] b) (o4 gB i de):=λF S o z H Q r h=>by
 unfold o4 at h;cases n:c0 o i with
 |none=>rw[n]at h;exact h.elim
 |some A=>
  rw[n]at h;simp only[dP,R.bind_ok]at h;obtain⟨a,B,u,O,_,_,_⟩:=r.lstAt (gG n);refine bO (pi vn PySem.F.slot_list_count PySem.F.type_list_count FN (ix P J N bK) (gE bp iR t) Z Y W t T) ⟨.ref a,u,.inl ⟨rfl,_,b7.of O⟩,?_⟩;refine M F S o z H _ r ((Ok.bind h).imp λk j F1 S1 H1 s g1 q v D=>?_);cases m:c0 j i with
  |none=>rw[m]at q;exact q.elim
  |some xs=>
   rw[m]at q;simp only[dP,R.bind_ok]at q;obtain⟨a',C,g,I,G,_,_⟩:=s.lstAt (gG m);rw[u]at g;cases g;unfold gB at q;cases f:cp k with
   |none=>rw[f]at q;exact q.elim
   |some w=>
    cases l:fq xs with
    |none=>rw[f,l]at q;exact q.elim
    |some ws=>rw[f,l]at q;obtain⟨rfl,L⟩:=kE G l;rw[gx D f];exact⟨a,C,w,rfl,rfl,I,lI f,L,q F1 S1 H1 s (bf.refl ..) _ rfl⟩
theorem Et(i:Nat){p c b:Pos}(he:DE X E e de)(hN:X.N[i]?=aa y:=by rfl)(W:fN X.env.scope y:=by eq_refl)(hd:(y==("__debug__":Str))=aj:=by decide)(bK:(y==("__classdict__":Str))=aj:=by decide) (h1:kc (.Name y p) "index" X.env (aM (.Name y p) X.env)=aM (.Name y p) X.env:=by rfl)(h2:((cg b (aI [e] X.env)).all (λx=>!x.1)&&(nN b (nO [] X.env)).all (λx=>x.1.isSome)&&decide ([e].length+([]:List ik).length+(if([]:List ik).isEmpty then 0 else 1)<30))=ai:=by rfl)(h3:(c.endLine == b.line)=ai:=by rfl) (D:aI [e] X.env=(aj,aM e X.env)::aI [] X.env:=by rfl) (h5:(cg b (aI [] X.env)).any (·.1)=aj:=by rfl):DE X E (.Call (.Attribute (.Name y p) "index" c) [e] [] b) (o4 kR i de):=λF S u I H Q A h=>by
 unfold o4 at h;cases t:c0 u i with
 |none=>rw[t]at h;exact h.elim
 |some J=>
  rw[t]at h;simp only[dP,R.bind_ok]at h;obtain⟨a,M,G,ha,_,_,_⟩:=A.lstAt (gG t);refine bO (pi vn PySem.F.slot_list_index PySem.F.type_list_index IJ (ix hN W hd bK) (gE bp iR D) h1 h2 h3 D h5) ⟨.ref a,G,.inl ⟨rfl,_,b7.of ha⟩,?_⟩;refine he F S u I H _ A ((Ok.bind h).imp λk r F1 S1 H1 B g1 q v O=>?_);cases s:c0 r i with
  |none=>rw[s]at q;exact q.elim
  |some xs=>
   rw[s]at q;simp only[dP,R.bind_ok]at q;obtain⟨a',N,l,T,P,_,_⟩:=B.lstAt (gG s);rw[G]at l;cases l;unfold kR at q;cases f:cp k with
   |none=>rw[f]at q;exact q.elim
   |some w=>
    cases o:fq xs with
    |none=>rw[f,o]at q;exact q.elim
    |some L=>
     cases n:L.findIdx? λz=>cb z w with
     |none=>rw[f,o]at q;simp only[gh]at q;rw[n]at q;exact q.elim
     |some j=>
      rw[f,o]at q;simp only[gh]at q;rw[n]at q;obtain⟨rfl,Z⟩:=kE P o;rw[gx O f];rw[C3]at n;obtain⟨C,h6,h7⟩:=n;refine⟨a,N,w,j,rfl,rfl,T,lI f,Z,C,λz g=>?_,λm z Y g=>?_,q F1 S1 H1 B (bf.refl ..) _ rfl⟩
      .rw[dR C]at g;cases g;exact h6
      .have:=h7 m Y;rw[dR ∅]at g;cases g;simpa using this
end
theorem EC(c:Nat)(x:Tx):tm [c] x=x.contains c:=by unfold tm;have:=StrLaws.found_one (tS x) c;rw[lX]at this;rw[show(tS [c])=⟨#[c]⟩from rfl,this];simp[List.contains_eq_mem]
section
variable{X:Cx}{K:aw}
def PM(K:aw)(r:V->List V->Hp->VK->Prop)(f:Tx->List PV->Option PV):Prop:=∀(F:af->Prop) (H:Hp) (x:Tx) (xs:List PV) (b:List V) (Q:VK) (pv:PV),x.length<=cU->aZ K H F xs b->f x xs=aa pv->(∀w c a,Al F c H a->aR K a c pv w->Q w a)->r (tV x) b H Q
def wR:PV->Option Tx
 |.str x=>aa x
 |_=>ae
def qG(f:Tx->List PV->Option PV)(d:ak->R PV)(i:ak->R (List PV)):ak->R PV:=λc=>(d c).bind λx a=>(aW (wR x) a).bind λy a=>(i a).bind λg b=>aW (f y g) b
variable{E:XK}{o e:aA}{g:List aA}{d:ak->R PV}{i:ak->R (List PV)}{b:Str}{c a:Pos}{j:String}{r:V->List V->Hp->VK->Prop}{f:Tx->List PV->Option PV}
theorem G2(n:PySem.Slot "str" b j)(O:typeOf (.builtin j)=pure (.type "method_descriptor"))(hm:uQ X j r)(hp:PM X.K r f)(ho:DE X E o d)(ha:DA X E (e::g) i)(T:kc o b X.env (aM o X.env)=aM o X.env:=by rfl)(G:((cg a (aI (e::g) X.env)).all (λx=>!x.1)&&(nN a (nO [] X.env)).all (λx=>x.1.isSome)&&decide ((e::g).length+([]:List ik).length+(if([]:List ik).isEmpty then 0 else 1)<30))=ai:=by rfl)(P:(c.endLine == a.line)=ai:=by rfl) (Z:aI (e::g) X.env=(aj,aM e X.env)::aI g X.env:=by rfl) (I:(cg a (aI g X.env)).any (·.1)=aj:=by rfl):DE X E (.Call (.Attribute o b c) (e::g) [] a) (qG f d i):=λF S B s H Q L h=>by
 refine bO (pi PySem.F.plainAttrs_str n O hm bp fv T G P Z I) (ho F S B s H _ L ((Ok.bind h).imp λx m A u z N g1 q v J=>?_));cases x <;> first|exact(show False from q).elim|skip
 rename_i y;obtain⟨rfl,Y⟩:=J;refine⟨rfl,?_⟩;have q:Ok X.K E s A u z ((i m).bind λC l=>aW (f y C) l) _:=q;refine ha A u m s z _ N ((Ok.bind q).imp λxs l F2 S2 H2 M g2 p D W=>?_);cases e:f y xs with
 |none=>rw[e]at p;exact p.elim
 |some pv=>rw[e]at p;exact hp F2 H2 y xs D Q pv Y W e λw F' H' al t=>p F' S2 H' (M.al al) al.grow w t
end
def dW(a:List Nat):Nat->ak->Bool
 |_,[]=>ai
 |i,.own c::b=>a.contains i&&fW c&&dW a (i+1) b
 |i,_::b=>dW a (i+1) b
theorem lO{c:List Nat}:∀{b:ak}{k:Nat},dW c k b=ai->∀(i:Nat) a,b[i]?=aa (.own a)->k+i∈c/\fW a=ai
 |[],_,_,i,a,e=>by simp at e
 |.own q::b,k,h,0,a,e=>by simp only[List.getElem?_cons_zero,Option.some.injEq,Slot.own.injEq]at e;subst e;simp only[dW,eB]at h;exact⟨by simpa using h.1.1,h.1.2⟩
 |.own q::b,k,h,i+1,a,e=>by simp only[dW,eB]at h;have:=lO (k:=k+1) h.2 i a (by simpa using e);rwa[Db,n5]at this
 |.val q::b,k,h,0,a,e=>by simp at e
 |.none::b,k,h,0,a,e=>by simp at e
 |.val q::b,k,h,i+1,a,e=>by have:=lO (k:=k+1) (by simpa[dW]using h) i a (by simpa using e);rwa[Db,n5]at this
 |.none::b,k,h,i+1,a,e=>by have:=lO (k:=k+1) (by simpa[dW]using h) i a (by simpa using e);rwa[Db,n5]at this
def bw(len:Nat)(b:List Nat)(g:ak->R Slot):ak->R Slot:=λa=>if a.length=len/\dW b 0 a=ai then g a else .no
theorem df{q:eJ}{P:aN}{w:aD}{K:aw}{o:Str->Option ah}{g:az}{x:Str}{c:aU}{N b:List Str}{k n:Nat}{d:ak->R aP}{pin:List Nat}(D:cq K o x c)(F:b0 N b (aT c))(u:N.length=b.length+n)(v:∀(kV p t:ah) (C:Option af) (l B:ah) (m:List ah),m.length=b.length->dY (ge x x (iy c) (dX c) (aT c) .none kV p t C l B) ⟨m,[]⟩=pure (b.zip m))(y:∀(f:af) (l:ah) (A:aJ) (j:List Env) (s:am) (H:Hp) (E:XK),Room k (A.deeper (gU x (aT c) s.heap.objs.size f l))->eO (fX q P w K o g N x (aT c) f l A j s H E) E pin (dX c) d):cD q P w K o g x (k+1) b (bH K (bw b.length pin (bC n d))):=by
 have no:∀{a},bw b.length pin (bC n d) a≠.no->a.length=b.length/\dW pin 0 a=ai:=λ{a} h=>by
  unfold bw at h;by_cases z:a.length=b.length/\dW pin 0 a=ai
  .exact z
  .rw[if_neg z]at h;exact absurd rfl h
 exact Lm D F u v (λa h=>(no h).1) (λa h i r e=>by have:=lO (no h).2 i r e;rwa[r9]at this) (λa h=>by unfold bw;rw[if_pos (no h)]) y
theorem GN{f:af}{r:fE}{t:eJ}{P:aN}{w:aD}{K:aw}{q:Str->Option ah}{j:az}{x a:Str}{g:aU}{N c:List Str}{k n:Nat}{d:ak->R aP}{pin:List Nat}(I:mW K x a g f r)(G:b0 N c (aT g))(y:N.length=c.length+n)(B:∀(kV p v:ah) (F:Option af) (m D:ah) (o:List ah),o.length=c.length->dY (ge x a (iy g) (dX g) (aT g) .none kV p v F m D) ⟨o,[]⟩=pure (c.zip o))(C:∀(f:af) (m:ah) (A:aJ) (l:List Env) (s:am) (H:Hp) (E:XK),Room k (A.deeper (gU a (aT g) s.heap.objs.size f m))->eO (fX t P w K q j N a (aT g) f m A l s H E) E pin (dX g) d):jn P w K q j t (k+1) f r c (bH K (bw c.length pin (bC n d))):=by
 have no:∀{b},bw c.length pin (bC n d) b≠.no->b.length=c.length/\dW pin 0 b=ai:=λ{b} h=>by
  unfold bw at h;by_cases z:b.length=c.length/\dW pin 0 b=ai
  .exact z
  .rw[if_neg z]at h;exact absurd rfl h
 exact AQ I G y B (λb h=>(no h).1) (λb h i u e=>by have:=lO (no h).2 i u e;rwa[r9]at this) (λb h=>by unfold bw;rw[if_pos (no h)]) C
theorem Ff{P:aN}{w:aD}{K:aw}{o:Str->Option ah}{g:az}{x:Str}{c:aU}{N b:List Str}{k n:Nat}{d:ak->R aP}{pin:List Nat}(D:cq K o x c)(C:b0 N b (aT c))(t:N.length=b.length+n)(u:∀(kV p r:ah) (B:Option af) (l y:ah) (m:List ah),m.length=b.length->dY (ge x x (iy c) (dX c) (aT c) .none kV p r B l y) ⟨m,[]⟩=pure (b.zip m))(v:∀(f:af) (l:ah) (A:aJ) (j:List Env) (s:am) (H:Hp),ja k (A.deeper (gU x (aT c) s.heap.objs.size f l))->eO (rn P w K o g N x (aT c) f l A j s H) E0 pin (dX c) d):tR P w K o g x (k+1) b (bH K (bw b.length pin (bC n d))):=by
 have no:∀{a},bw b.length pin (bC n d) a≠.no->a.length=b.length/\dW pin 0 a=ai:=λ{a} h=>by
  unfold bw at h;by_cases z:a.length=b.length/\dW pin 0 a=ai
  .exact z
  .rw[if_neg z]at h;exact absurd rfl h
 exact Dy D C t u (λa h=>(no h).1) (λa h i q e=>by have:=lO (no h).2 i q e;rwa[r9]at this) (λa h=>by unfold bw;rw[if_pos (no h)]) v
theorem B4{P:List ah->Prop}(h:∀a,P [a])(c:List ah)(d:c.length=1):P c:=by
 cases c with
 |nil=>cases d
 |cons a r=>cases r with
  |nil=>exact h a
  |cons b r=>cases d
theorem Cg{P:List ah->Prop}(h:∀a b,P [a,b])(c:List ah)(d:c.length=2):P c:=by
 cases c with
 |nil=>cases d
 |cons a r=>exact B4 (P:=λr=>P (a::r)) (h a) r (Nat.succ.inj d)
theorem zJ{P:List ah->Prop}(h:∀a b c,P [a,b,c])(d:List ah)(f:d.length=3):P d:=by
 cases d with
 |nil=>cases f
 |cons a r=>exact Cg (P:=λr=>P (a::r)) (h a) r (Nat.succ.inj f)
theorem Kw{P:List ah->Prop}(h:∀a b c d,P [a,b,c,d])(f:List ah)(g:f.length=4):P f:=by
 cases f with
 |nil=>cases g
 |cons a r=>exact zJ (P:=λr=>P (a::r)) (h a) r (Nat.succ.inj g)
theorem Me{d:fE}{c:List Str}(h:∀a,dY d ⟨[a],[]⟩=pure (c.zip [a]))(b:List ah)(f:b.length=1):dY d ⟨b,[]⟩=pure (c.zip b):=B4 (P:=λb=>dY d ⟨b,[]⟩=pure (c.zip b)) h b f
theorem L4{f:fE}{d:List Str}(h:∀a b,dY f ⟨[a,b],[]⟩=pure (d.zip [a,b]))(c:List ah)(g:c.length=2):dY f ⟨c,[]⟩=pure (d.zip c):=Cg (P:=λc=>dY f ⟨c,[]⟩=pure (d.zip c)) h c g
theorem Mb{g:fE}{f:List Str}(h:∀a b c,dY g ⟨[a,b,c],[]⟩=pure (f.zip [a,b,c]))(d:List ah)(i:d.length=3):dY g ⟨d,[]⟩=pure (f.zip d):=zJ (P:=λd=>dY g ⟨d,[]⟩=pure (f.zip d)) h d i
theorem Mo{i:fE}{g:List Str}(h:∀a b c d,dY i ⟨[a,b,c,d],[]⟩=pure (g.zip [a,b,c,d]))(f:List ah)(j:f.length=4):dY i ⟨f,[]⟩=pure (g.zip f):=Kw (P:=λf=>dY i ⟨f,[]⟩=pure (g.zip f)) h f j
theorem l5{P:aN}{w:aD}{X:Cx}:o8 (ce P w) X E0:=λ_ _ _ _ _ _ _ h=>by obtain⟨a,T,c,b,_,_,_,_,_,_,_,z⟩:=h;exact z.elim
theorem gD:dy "len"=aa (.builtin "len"):=by decide +kernel
theorem xP:dy "all"=aa (.builtin "all"):=by decide +kernel
theorem uc:dy "sorted"=aa (.builtin "sorted"):=by decide +kernel
theorem fk:dy "isinstance"=aa (.builtin "isinstance"):=by decide +kernel
theorem IK:dy "int"=aa (.type "int"):=by decide +kernel
theorem IA:dy "bool"=aa (.type "bool"):=by decide +kernel
theorem Ay:dy "str"=aa (.type "str"):=by decide +kernel
theorem zG:dy "list"=aa (.type "list"):=by decide +kernel
theorem tU:dy "tuple"=aa (.type "tuple"):=by decide +kernel
theorem G6:dy "set"=aa (.type "set"):=by decide +kernel
theorem JJ:dy "ValueError"=aa (.type "ValueError"):=by decide +kernel
def kN:aA->Bool
 |.Starred _ _=>ai
 |_=>aj
theorem jR{e:aA}{es:List aA}{env:Env}(h:kN e=aj):aI (e::es) env=(aj,aM e env)::aI es env:=by
 cases e <;> first|rfl|cases h
section
variable{X:Cx}{E:XK}{e:aA}{a:List aA}{d:ak->R PV}{b:ak->R (List PV)}{c:ak->R (List bJ)}
theorem aB(g:DE X E e d)(f:DA X E a b)(h:kN e=aj:=by rfl):DA X E (e::a) (ay d b):=Hn g f (jR h)
theorem aH(g:DE X E e d)(f:DG X E a c)(h:kN e=aj:=by rfl):DG X E (e::a) (gV d c):=E3 g f (jR h)
end
def qP:List ah:=[.type "ValueError",.type "Exception",.type "BaseException",.type "object"]
theorem xE{K:aw}{h:az}{C:af}{B:List ah}{nw:String}(X:K.In h)(q:mr K C B nw=ai):∃i N v p bs D j a F c E A z y x w g,h.get? C=aa (yx v p C N bs i D j a F c E A z y x w nw)/\h.Ns N g/\g "__init__"=ae/\OwnTail h B i:=by
 unfold mr at q;split at q
 case h_2=>cases q
 case h_1 d0 cdata slots look=>
  split at q
  case h_2=>cases q
  case h_1 C2 tl s0 s1 s2 s3 nn s5 em es=>
   rw[eB,eB,eB,eB,eB]at q;obtain⟨⟨⟨⟨⟨u,t⟩,f⟩,s⟩,b⟩,r⟩:=q;have o:=beq_iff_eq.mp u;have n:=beq_iff_eq.mp t;have d:=beq_iff_eq.mp r;subst o n;cases cdata;dsimp only at em f b d;subst em;have m:=Dc _ |>.mp f
   subst m;have l:slots=#[s0,s1,s2,s3,aa (.builtin nn),s5]:=by cases slots;exact congrArg Array.mk es
   subst l;exact⟨tl,_,_,_,_,_,_,_,_,_,d0,s0,s1,s2,s3,s5,_,X _ _ look,Heap.Ns.of_isNs (PySem.W.isNs_of_in X b),PySem.W.nsMap_none_of_in X b d,PySem.W.tail_of_in X s⟩
theorem zw{K:aw}{h:az}{a:Str->Option ah}{x:Str}{C:af}{B:List ah}{nw:String}(X:K.In h)(e:a x=aa (.ref C))(q:mr K C B nw=ai):OwnCls x C B nw a h:=⟨e,xE X q⟩
theorem J_{K:aw}{h:az}{C:af}{nw:String}(X:K.In h)(q:mr K C qP nw=ai):nz h C:=by obtain⟨p,N,f,d,bs,n,c,a,r,b,o,m,l,j,i,g,s,e,_,_,t⟩:=xE X q;exact⟨p,N,f,d,bs,n,c,a,r,b,o,m,l,j,i,g,nw,e,t.hasType rfl⟩
def subB(K:aw)(D C:af):Bool:=match K.lookup C with
 |some ⟨_,_,.cls a,_⟩=>a.mro.contains (.ref D)
 |_=>aj
theorem Fy{K:aw}{h:az}{C D:af}{B:List ah}{nw:String}(X:K.In h)(q:mr K C B nw=ai)(s:subB K D C=ai):Under h D (.ref C):=by
 obtain⟨r,N,g,f,bs,o,d,a,t,c,p,n,m,l,j,i,x,e,_⟩:=xE X q;refine⟨C,r,N,g,f,bs,o,d,a,t,c,p,n,m,l,j,i,nw,rfl,e,?_⟩;unfold subB at s;split at s
 .rename_i w v y u look;have b:=X _ _ look;rw[e]at b;unfold yx at b;cases b;exact s
 .cases s
def ue(K:aw)(C:af):Bool :=
 nH K (.ref C) "__getattribute__" == aa (aa (.builtin "BaseException.__getattribute__"))&&nH K (.ref C) "__getattr__" == aa ae&&nH K (.ref C) "__class__" == aa (aa (.builtin "object.__class__")) &&
 CI K (.builtin "object.__class__") "__get__" == aa (aa (.builtin "getset_descriptor.__get__"))&&PySem.W.takesIn K (.builtin "object.__class__") == aa ai&&uW K C (.type "object") == aa ai&&uW K C (.type "BaseException") == aa ai&&(yy K C).isSome
theorem zO{K:aw}{C:af}(h:ue K C=ai):lU K C:=by simp only[ue,eB,beq_iff_eq]at h;obtain⟨⟨⟨⟨⟨⟨⟨j,i⟩,g⟩,f⟩,d⟩,c⟩,b⟩,a⟩:=h;exact⟨j,i,g,f,d,c,b,a⟩
def vD(K:aw):Bool:=K.all λp=>match p.2.cls with
 |.type t=>t != "list"
 |_=>ai
theorem BH{a:af}{o:Obj}:∀{K:aw},K.lookup a=aa o->(a,o)∈K
 |[],e=>by cases e
 | (b,u)::K,e=>by
  rw[ji]at e;cases q:a == b with
  |true=>rw[q]at e;cases e;rw[beq_iff_eq.mp q];exact jz ..
  |false=>rw[q]at e;exact jh _ (BH e)
theorem AJ{K:aw}{H:Hp}{F:af->Prop}:∀a:List Int,aZ K H F (a.map .int) (a.map V.int)
 |[]=>rfl
 |x::a=>⟨.int x,a.map V.int,rfl,rfl,AJ a⟩
theorem JP{K:aw}{H:Hp}{a:af}{xs:List V}(h:vD K=ai)(s:b7 K H a xs):Rd H a (.lst xs):=by
 rcases s with s|⟨o,c,n,b,d,_⟩
 .exact s
 .have:=lj.mp h _ (BH b);rw[d]at this;simp at this
theorem Kr{K:aw}{g:ak->R Slot}{H:Hp}{a:af}{c:List Int}{E:XK}(d:Rd H a (.lst (c.map V.int)))(h:g [.val (.lst (c.map .int))]=.ok (.val (.bl ai)) [.val (.lst (c.map .int))]):bH K g [.ref a] H (λv _=>v=.bl ai) E:=by
 refine⟨λb=>b=a,λ_ _=>False,[.val (.lst (c.map .int))],⟨rfl,λb e=>?_,λi pv e=>?_,λi l e=>?_,λi b z=>z.elim,λi j b z=>z.elim⟩,?_⟩
 .subst e;rcases d with d|⟨o,d⟩ <;> exact⟨_,d⟩
 .cases i with
  |zero=>cases e;exact⟨_,rfl,a,_,rfl,d,rfl,AJ c⟩
  |succ i=>simp at e
 .cases i with
  |zero=>cases e
  |succ i=>simp at e
 .rw[h];exact λv q n p m _ _ f _ _=>f.1
theorem Mj{K:aw}{x:Str}{i:Int}{t:Tok}(e:cm K bA x=aa (aa (.int i t))):∃t,cm K bA x=aa (aa (.int i t)):=⟨t,e⟩
theorem Mf{K:aw}{x:Str}{l:Tx}{t:Tok}(e:cm K bA x=aa (aa (.str (tS l) t))):∃t,cm K bA x=aa (aa (.str (tS l) t)):=⟨t,e⟩
def cL(K:aw)(x:Str)(a:aU):Prop:=∃f oc g kV h d j b i c,cm K bA x=aa (aa (.ref f))/\K.lookup f=aa ⟨oc,g,.func (ge x x (iy a) (dX a) (aT a) .none kV h d j b i),c⟩/\rN K b x=ai/\nJ K (.ref f)=ai
theorem LZ{K:aw}{x:Str}{b:aU}{f:af}{oc kV j h d m:ah}{i n:Option af}{g:Array (Option ah)}(a:cm K bA x=aa (aa (.ref f)))(l:K.lookup f=aa ⟨oc,i,.func (ge x x (iy b) (dX b) (aT b) .none kV j h n d m),g⟩)(c:rN K d x=ai) (k:nJ K (.ref f)=ai):cL K x b:=⟨f,oc,i,kV,j,h,n,d,m,g,a,l,c,k⟩
theorem cL.at{K:aw}{h:az}{mg:Str->Option ah}{x:Str}{st:aU}(d:cL K x st)(X:K.In h)(G:h.Ns bA mg):cq K mg x st:=by obtain⟨f,oc,i,kV,j,g,n,m,ct,b,a,l,c,k⟩:=d;exact⟨f,_,eM X G a,BA l c k⟩
def EU(a:List (bR×PV))(k:bR):Option PV:=(a.find? λb=>decide (b.1=k)).map (·.2)
def Gd:PV->Option bR
 |.int i=>aa (.inl i)
 |.str x=>aa (.inr (tS x))
 |_=>ae
section
variable{K:aw}{F:af->Prop}{S:Nat->af->Prop}{d:ak}{f:St}{H:Hp}{i:Nat}{l:List (bR×PV)}{m:List (bR×V)}{a:af}
theorem aO.updO{s po':PO}{o':HO}(r:aO K F S d f H)(e:d[i]?=aa (.own s))(P:fW s=ai)(G:f[i]?=aa (aa (.ref a)))(O:c7 o')(h:∀A,(∀x v,aR K H F x v->aR K A F x v)->(∀x v,aZ K H F x v->aZ K A F x v)->A a=aa o'->∀J:af->Prop,(∀b,J b↔b=a)->ef K A F po' a J):aO K F S (d.set i (.own po')) f (L2.upd H a o')/\bf (U S) (U S) F F H (L2.upd H a o'):=by
 obtain⟨Q,I,N⟩:=r.own i s e;rw[G]at I;cases I;have t:=zT N P;have C:S i a:=(t a).mpr rfl;have E:∀b,S i b->b=a:=λb z=>(t b).mp z;have B:i<d.length:=(cJ.mp e).1;have g:bf (U S) (U S) F F H (L2.upd H a o'):=⟨λ_ z=>z,λb o q n=>by rw[bM (by rintro rfl;exact n ⟨i,C⟩)];exact q,λb o q=>by
  by_cases D:b=a
  .subst D;exact⟨_,cI⟩
  .exact⟨o,by rw[bM D];exact q⟩,λ_ z=>.inl z,λ_ z=>.inl z⟩
 refine⟨⟨by rw[e_];exact r.len,λb z=>let ⟨o,q⟩:=r.ex b z;g.there b o q,λj pv q=>?_,λj s q=>?_,λj b z=>?_,r.dist⟩,g⟩
 .have p:i≠j:=by rintro rfl;rw[eX B]at q;cases q
  rw[dH p]at q;obtain⟨v,y,u⟩:=r.val j pv q;exact⟨v,y,u.grow g r.fit⟩
 .by_cases p:i=j
  .subst p;rw[eX B]at q;cases q;exact⟨a,G,h _ (λ_ _ z=>z.grow g r.fit) (λ_ _ z=>z.grow g r.fit) cI _ t⟩
  .rw[dH p]at q;obtain⟨c,y,u⟩:=r.own j s q;refine⟨c,y,u.mono (λ_ _ z=>z.grow g r.fit) (λ_ _ z=>z.grow g r.fit) λb o z w=>?_⟩;rw[bM (by rintro rfl;exact p (r.dist i j b C z))];exact w
 .obtain⟨⟨s,y⟩,u,o,M,L⟩:=r.foot j b z;by_cases p:i=j
  .subst p;rw[E b z];exact⟨⟨_,eX B⟩,by rw[<-E b z];exact u,_,cI,O⟩
  .exact⟨⟨s,by rw[dH p];exact y⟩,u,o,by rw[bM (by rintro rfl;exact p (r.dist i j b C z))];exact M,L⟩
end
def xC(b:ak)(i:Nat):Option (List (bR×PV)):=match b[i]? with
 |some (.own (.dK a))=>aa a
 |_=>ae
section
variable{X:Cx}{E:XK}{pin:List Nat}{e b c:aA}{de C I:ak->R PV}{A:Pos}
def BO(i:Nat)(C:ak->R PV):ak->R PV:=λd=>(aW (xC d i) d).bind λ_ d=>(C d).bind λk a=>(aW (xC a i) a).bind λf a=>aW ((Gd k).bind λk=>EU f k) a
def t4(X:Cx)(E:XK)(m:List aA)(d:ak->R (PO×List bJ)):Prop :=
 ∀F S i f H Q,aO X.K F S i f H->Ok X.K E f F S H (d i) (λp _ h n g=>∀a l j,ef X.K g h p.1 a l->(∀b,l b->H b=ae/\¬h b/\¬U n b/\∃o,g b=aa o/\c7 o)->g7 X.K (f++[aa (.ref a)]) h g p.2 j->Q j g)->mJ X m f H Q
theorem g7.app{K:aw}{g:St}{F:af->Prop}{H:Hp}(d:St):∀{l:List bJ}{j:List V},g7 K g F H l j->g7 K (g++d) F H l j
 |[],_,h=>h
 |.inl _::_,_,⟨v,r,e,a,f⟩=>⟨v,r,e,a,f.app d⟩
 |.inr i::_,_,⟨v,r,e,a,f⟩=>⟨v,r,e,by rw[ii (cJ.mp a).1];exact a,f.app d⟩
theorem ef.stay{K:aw}{O l F i:af->Prop}{H h:Hp}{j:PO}{a:af}{d:af->Prop}(q:ef K H F j a d)(g:bf O l F i H h)(fit:Fit O F H)(f:∀b,d b->¬F b/\¬O b/\∃o,H b=aa o/\c7 o):ef K h i j a d/\∀b,d b->¬i b/\¬l b/\∃o,h b=aa o/\c7 o:=by refine⟨q.mono (λ_ _ z=>z.grow g fit) (λ_ _ z=>z.grow g fit) λb o z w=>(g.stay w (f b z).2.1 (f b z).1).1,λb z=>?_⟩;obtain⟨u,t,o,s,r⟩:=f b z;obtain⟨p,n,m⟩:=g.stay s t u;exact⟨n,m,o,p,r⟩
variable{m:List aA}{dn:ak->R PO}{B:ak->R (List bJ)}{t:ak->R (PO×List bJ)}
def gN(dn:ak->R PO)(B:ak->R (List bJ)):ak->R (PO×List bJ):=λf=>(dn f).bind λg d=>(B d).bind λh a=>.ok (g,.inr a.length::h) a
theorem FQ(w:DN X E e dn)(v:DG X E m B)(u:kN e=aj:=by rfl):t4 X E (e::m) (gN dn B):=λF S q i H Q r h=>by refine mV (gE bp fv (jR u)) (w F S q i H _ r ((Ok.bind h).imp λT d P L N n W y a J s o=>?_));refine v P L d i N _ n ((Ok.bind y).imp λY p O K M l D x j G=>?_);obtain⟨f,g⟩:=s.stay D n.fit λb z=>(o b z).2;refine x O K M l (bf.refl ..) a J (.ref a::j) f (λb z=>⟨(o b z).1,g b z⟩) ⟨.ref a,j,rfl,?_,G.app _⟩;rw[l.len,nK (a8 _),Nat.sub_self];rfl
def t9(d:ak->R PV)(t:ak->R (PO×List bJ)):ak->R (PO×List bJ):=λg=>(d g).bind λx f=>(t f).bind λp a=>.ok (p.1,.inl x::p.2) a
theorem zd(y:DE X E e de)(w:t4 X E m t)(u:kN e=aj:=by rfl):t4 X E (e::m) (t9 de t):=λF S l f H Q q h=>by refine mV (gE bp fv (jR u)) (y F S l f H _ q ((Ok.bind h).imp λx d Y O T g K G v o=>?_));refine w Y O d f T _ g ((Ok.bind G).imp λp j W N P r J D a M n s i L=>?_);exact D W N P r (bf.refl ..) a M _ s (λb z=>⟨lR K (i b z).1,(i b z).2⟩) ⟨v,n,rfl,o.grow J g.fit,L⟩
theorem aO.push{K:aw}{F:af->Prop}{S:Nat->af->Prop}{d:ak}{y:St}{H:Hp}{w:PO}{a:af}{i:af->Prop}(r:aO K F S d y H)(D:ef K H F w a i)(x:∀b,i b->¬F b/\¬U S b/\∃o,H b=aa o/\c7 o):aO K F (λj b=>S j b\/(j=d.length/\i b)) (d++[.own w]) (y++[aa (.ref a)]) H:=by
 have lt:∀j b,S j b->j<d.length:=λj b z=>by obtain⟨⟨p,q⟩,_⟩:=r.foot j b z;exact(cJ.mp q).1
 refine⟨by simp[r.len],r.ex,λj pv q=>?_,λj p q=>?_,λj b z=>?_,λj k b g f=>?_⟩
 .by_cases h:j<d.length
  .rw[ii h]at q;obtain⟨v,u,l⟩:=r.val j pv q;exact⟨v,by rw[ii (by rw[<-r.len];exact h)];exact u,l⟩
  .rw[nK ∅]at q;cases s:j-d.length with
   |zero=>rw[s]at q;simp at q
   |succ n=>rw[s]at q;simp at q
 .by_cases h:j<d.length
  .rw[ii h]at q;obtain⟨v,u,l⟩:=r.own j p q;refine⟨v,by rw[ii (by rw[<-r.len];exact h)];exact u,?_⟩;have:(λb=>S j b\/(j=d.length/\i b))=S j:=by funext b;exact propext ⟨λz=>z.elim id λz=>absurd z.1 (cM h),.inl⟩
   rw[this];exact l
  .rw[nK ∅]at q;cases s:j-d.length with
   |zero=>
    rw[s]at q;simp at q;subst q;have L:j=d.length:=∅
    subst L;refine⟨a,by rw[r.len,nK (a8 _),Nat.sub_self];rfl,?_⟩;have:(λb=>S d.length b\/(d.length=d.length/\i b))=i:=by funext b;exact propext ⟨λz=>z.elim (λz=>absurd (lt _ _ z) (gR _)) (·.2),λz=>.inr ⟨rfl,z⟩⟩
    rw[this];exact D
   |succ n=>rw[s]at q;simp at q
 .rcases z with z|⟨rfl,z⟩
  .obtain⟨⟨p,q⟩,l⟩:=r.foot j b z;exact⟨⟨p,by rw[ii (lt j b z)];exact q⟩,l⟩
  .obtain⟨J,M,G⟩:=x b z;exact⟨⟨w,by rw[nK (a8 _),Nat.sub_self];rfl⟩,J,G⟩
 .rcases g with g|⟨rfl,g⟩ <;> rcases f with f|⟨rfl,f⟩
  .exact r.dist j k b g f
  .exact absurd ⟨j,g⟩ (x b f).2.1
  .exact absurd ⟨k,f⟩ (x b g).2.1
  .rfl
theorem aO.pop{K:aw}{F:af->Prop}{S:Nat->af->Prop}{d:ak}{n:Slot}{h:St}{u:Option V}{H:Hp}(r:aO K F S (d++[n]) (h++[u]) H):aO K F (λj b=>S j b/\j<d.length) d h H:=by
 have len:d.length=h.length:=by have:=r.len;simpa using this
 refine⟨len,r.ex,λj pv q=>?_,λj p q=>?_,λj b z=>?_,λj k b l i=>r.dist j k b l.1 i.1⟩
 .have a:=(cJ.mp q).1;obtain⟨v,g,f⟩:=r.val j pv (by rw[ii a];exact q);exact⟨v,by rw[ii (by rw[<-len];exact a)]at g;exact g,f⟩
 .have a:=(cJ.mp q).1;obtain⟨v,g,f⟩:=r.own j p (by rw[ii a];exact q);refine⟨v,by rw[ii (by rw[<-len];exact a)]at g;exact g,?_⟩;have:(λb=>S j b/\j<d.length)=S j:=by funext b;simp[a]
  rw[this];exact f
 .obtain⟨⟨p,q⟩,f⟩:=r.foot j b z.1;exact⟨⟨p,by rw[ii z.2]at q;exact q⟩,f⟩
def Ai{d:Type}:R d->R d
 |.ok s a=>.ok s a.dropLast
 |.er c a=>.er c a.dropLast
 |.no=>.no
def tq(g:ak->R Slot)(t:ak->R (PO×List bJ)):ak->R Slot:=λd=>(t d).bind λp a=>(aW (if(cr p.2).Nodup then et (a++[.own p.1]) p.2 else ae) a).bind λf a=>Ai (gu (a++[.own p.1]) p.2 (g f))
theorem y6{a:ak}{n:Nat}(h:a.length=n+1):∃l x,a=l++[x]/\l.length=n:=by
 refine⟨a.dropLast,a.getLast (by intro z;rw[z]at h;cases h),(List.dropLast_concat_getLast _).symm,by rw[List.length_dropLast,h];rfl⟩
theorem bf.pushed{K:aw}{F s:af->Prop}{S i:Nat->af->Prop}{f H p:Hp}{n:Nat}{h:af->Prop}(g:bf (U λj b=>S j b\/(j=n/\h b)) (U i) F s H p){r:af->Prop}{l:Nat->af->Prop}(a:bf (U l) (U S) r F f H)(d:∀b,h b->f b=ae):bf (U l) (U λj b=>i j b/\j<n) r s f p where
 fro:=λb z=>g.fro b (a.fro b z)
 keep:=λb o q no=>g.keep b o (a.keep b o q no) λ⟨j,z⟩=>by
  rcases z with z|⟨_,z⟩
  .rcases a.onew b ⟨j,z⟩with w|w
   .exact no w
   .rw[w]at q;cases q
  .rw[d b z]at q;cases q
 there:=λb o q=>let ⟨o',q'⟩:=a.there b o q;g.there b o' q'
 fnew:=λb z=>by
  rcases g.fnew b z with w|w|⟨j,w|⟨_,w⟩⟩
  .exact a.fnew b w
  .exact .inr (.inl (lR a w))
  .exact .inr ((a.onew b ⟨j,w⟩).symm)
  .exact .inr (.inl (d b w))
 onew:=λb ⟨j,z,_⟩=>by
  rcases g.onew b ⟨j,z⟩with⟨k,w|⟨_,w⟩⟩|w
  .exact a.onew b ⟨k,w⟩
  .exact .inr (d b w)
  .exact .inr (lR a w)
variable{D:eJ}{x:Str}{k:Nat}{G:List Str}{g:ak->R Slot}{p:Pos}
theorem JL(c:cD D X.prog X.w X.K X.mg X.base x k G (bH X.K g))(hr:Room k X.A)(hx:o8 D X E)(ha:t4 X E (e::m) t)(hg:Gl X x:=by rfl)(hd:(x==("__debug__":Str))=aj:=by decide) (h1:aI (e::m) X.env=(aj,aM e X.env)::aI m X.env:=by rfl) (h2:(cg A (aI m X.env)).any (·.1)=aj:=by rfl):DR X E (.Call (.Name x p) (e::m) [] A) (tq g t):=λF S ε W H Q rl h=>by
 obtain⟨f,fd,hm,Fn,hb,hk⟩:=c.ex;refine bO (zI Fn hr hg hm hk hb .nil hx fv hd h1 h2) (ha F S ε W H _ rl ?_);unfold tq at h;cases ed:t ε with
 |no=>rw[ed]at h;exact h.elim
 |er cv d=>rw[ed]at h;exact h
 |ok pa d=>
  obtain⟨P,q⟩:=pa;rw[ed]at h;simp only[R.bind_ok]at h;intro F1 S1 H1 r1 g1 a Sa vs ow Z T;dsimp only at h T ow;have O:=r1.push ow λb z=>(Z b z).2;by_cases L:(cr q).Nodup
  .rw[if_pos L]at h;cases m:et (d++[.own P]) q with
   |none=>rw[m]at h;exact h.elim
   |some ss=>
    rw[m]at h;simp only[dP,R.bind_ok]at h;rw[iA];refine⟨F1,j5 q _,ss,O.cal T m L,?_⟩;have len:∀n,(g6 (d++[.own P]) q n).length=d.length+1:=λn=>by rw[tN];simp
    cases eg:g ss with
    |no=>rw[eg]at h;exact h.elim
    |er cv n=>
     rw[eg]at h;intro y F' S' H' Y g';unfold gu at h;dsimp only at h;by_cases u:gH q n=ai
     .rw[if_pos u]at h;obtain⟨S2,J,g2,_⟩:=O.called T m L Y g' (λ_ z=>z) (kM u);obtain⟨l,sl,N,ll⟩:=y6 (len n);rw[N]at J;have h:Ok X.K E W F S H (R.er cv (g6 (d++[.own P]) q n).dropLast:R Slot) _:=h;rw[N,List.dropLast_concat]at h;have M:=bf.pushed (K:=X.K) g2 g1 λb z=>(Z b z).1;rw[<-ll]at M;exact h y F' _ H' J.pop M
     .rw[if_neg u]at h;exact h.elim
    |ok s n=>
     rw[eg]at h;intro v F' S' H' Sr Y g' rv r fr;unfold gu at h;dsimp only at h;by_cases u:gH q n=ai
     .rw[if_pos u]at h;obtain⟨S2,J,g2,u2⟩:=O.called T m L Y g' (λ_ z=>.inl z) (kM u);obtain⟨l,sl,N,ll⟩:=y6 (len n);rw[N]at J;have h:Ok X.K E W F S H (R.ok s (g6 (d++[.own P]) q n).dropLast:R Slot) _:=h;rw[N,List.dropLast_concat]at h;have M:=bf.pushed (K:=X.K) g2 g1 λb z=>(Z b z).1;rw[<-ll]at M;refine h F' _ H' J.pop M v Sr rv λb z=>⟨lR g1 (fr b z),(r b z).1,λ⟨j,w,_⟩=>?_,(r b z).2.2⟩
      rcases u2 b ⟨j,w⟩with w|⟨i,w⟩
      .exact(r b z).2.1 w
      .obtain⟨_,_,o,y1,_⟩:=O.foot i b w;rw[fr b z]at y1;cases y1
     .rw[if_neg u]at h;exact h.elim
  .rw[if_neg L]at h;exact h.elim
end
section
variable{X:Cx}{E:XK}{pin:List Nat}{e b c o:aA}{de m l d:ak->R PV}{j:ak->R (List PV)}{i p q g:Pos}
def Gj(K:aw)(r:V->List V->Hp->VK->Prop)(h:TE)(t:TA):TE:=λa H Q=>h a H λx f=>(∃p xs,x=.ref p/\f p=aa (.tup xs))/\t a f λxs n=>r x xs n Q
theorem y0{n:Str}{y:String}{r:V->List V->Hp->VK->Prop}{C:TE}{t:TA}{u f:Pos}{es:List aA}(w:PySem.Slot "tuple" n y)(mx:typeOf (.builtin y)=pure (.type "method_descriptor"))(hm:uQ X y r)(ho:PE X o C)(ha:PA X (e::es) t)(jH:kc o n X.env (aM o X.env)=aM o X.env:=by rfl)(M:((cg f (aI (e::es) X.env)).all (λx=>!x.1)&&(nN f (nO [] X.env)).all (λx=>x.1.isSome)&&decide ((e::es).length+([]:List ik).length+(if([]:List ik).isEmpty then 0 else 1)<30))=ai:=by rfl)(jI:(u.endLine == f.line)=ai:=by rfl) (hs:aI (e::es) X.env=(aj,aM e X.env)::aI es X.env:=by rfl) (N:(cg f (aI es X.env)).any (·.1)=aj:=by rfl):PE X (.Call (.Attribute o n u) (e::es) [] f) (Gj X.K r C t):=by
 intro B s A H Q I h;refine wpAny_Call_method_late jH M jI rfl (aQ (ho B s A H _ I h) λv D h'=>?_);obtain⟨x,J,G,S,⟨p,xs,rfl,hp⟩,W⟩:=h';cases S;obtain⟨_,its,_,⟨Y,e1,e2,_⟩,Z,e3,e4⟩:=(show c_ X.prog X.w J D.heap p (.tup xs)from G.hok p _ hp)
 refine⟨"tuple",y,PySem.F.plainAttrs_tuple,w,mx,⟨Y,e1,e2⟩,λa z=>?_,?_⟩
 .cases z;exact⟨Z,e3,e4⟩
 have F:=ha f B D A J _ G W;rw[hs]at F ⊢;refine Calls.callWith_builtin (by show(aj||(cg f (aI es X.env)).any (·.1))=aj;rw[N] <;> rfl) (CT ?_);exact aQ F λL O h2=>by obtain⟨K,H2,I2,P,T⟩:=h2;exact hm B O A H2 (.ref p) K (.ref p) L Q I2 rfl P T
def iP(f:List PV->PV->Option PV)(d de:ak->R PV):ak->R PV:=λε=>(d ε).bind λx h=>match x with
 |.tup xs=>(de h).bind λk a=>aW (f xs k) a
 |_=>.no
theorem wH{f a:Pos}(T:DE X E o d)(Y:DE X E e de)(P:kc o "count" X.env (aM o X.env)=aM o X.env:=by rfl)(O:(f.endLine == a.line)=ai:=by rfl) (Z:kN e=aj:=by rfl):DE X E (.Call (.Attribute o "count" f) [e] [] a) (iP gB d de):=λF S J B H Q M h=>by
 have y:=jR (es:=[]) (env:=X.env) Z;refine bO (y0 PySem.F.slot_tuple_count PySem.F.type_tuple_count DK bp (gE bp iR y) P (by rw[y];rfl) O y rfl) (T F S J B H _ M ((Ok.bind h).imp λx r F1 S1 H1 t g1 A v K=>?_));split at A
 .rename_i xs;obtain⟨p,C,rfl,D,L⟩:=K;refine⟨⟨p,C,rfl,D⟩,Y F1 S1 r B H1 _ t ((Ok.bind A).imp λk I F2 S2 H2 N G q w s=>?_)⟩;unfold gB at q;cases n:cp k with
  |none=>rw[n]at q;exact q.elim
  |some z=>
   cases u:fq xs with
   |none=>rw[n,u]at q;exact q.elim
   |some ws=>rw[n,u]at q;obtain⟨rfl,W⟩:=kE (L.grow G t.fit) u;rw[gx s n];exact⟨p,C,z,rfl,rfl,b_.of (G.imm t.fit D id),lI n,W,q F2 S2 H2 N (bf.refl ..) _ rfl⟩
 .exact A.elim
end
section
variable{X:Cx}
def Bj:List (bR×PV)->Option (List Tx)
 |[]=>aa []
 | (.inr k,_)::r=>(Bj r).map (k.cps.toList::·)
 |_=>ae
def Gx(b:List (bR×PV)):Option PO:=(Bj b).bind λa=>if a.length<64/\(∀x∈a,x.length<=cU)then aa (.lst (ao (bx a)))else ae
def K9(i:Nat):ak->R PO:=λa=>(aW (xC a i) a).bind λb a=>aW (Gx b) a
end
end Pu
namespace L2
def uf:Bool->Keyed->Array Keyed->Nat->Nat->Nat->StateT bi Sem (Option Nat):=sortPriv% PySem.Builtin.gallop
def Bs:Array Keyed->Array Keyed->StateT bi Sem (Array Keyed):=sortPriv% PySem.Builtin.mergeLo
def Bu:Array Keyed->Array Keyed->StateT bi Sem (Array Keyed):=sortPriv% PySem.Builtin.mergeHi
def kO(a:KeyKind)(p:Keyed):a.α:=(a.keyOf p.1).getD a.dflt
def fh(b:KeyKind)(p:Keyed):Prop:=∃a,b.keyOf p.1=aa a
theorem fh.k{κ:KeyKind}{p:Keyed}(h:fh κ p):κ.keyOf p.1=aa (kO κ p):=by obtain⟨a,e⟩:=h;unfold kO;rw[e];rfl
def hZ(κ:KeyKind)(kz:gX)(c:aN)(w:aD)(A:aJ)(s:am):Prop :=
 ∀(E:ah->am->Prop) (x y:ah) (a b:κ.α) {Q:Bool->am->Prop},κ.keyOf x=aa a->κ.keyOf y=aa b->Q (κ.blt a b) s->aq (au c w) A (keyLt' kz x y) Q E s
theorem OneLt.ok{κ:KeyKind}(f:κ.OneLt){prog:aN}{w:aD}{A:aJ}{s:am}:hZ κ oneType' prog w A s:=λE x y a b _ d c h=>by rw[keyLt'_oneType];exact f prog w A E s x y a b d c h
structure SB(kz:gX)(st:bi):Prop where
 kind:kindOf st=kz
 failed:failedOf st=ae
section
variable{a:aN}{w:aD}{A:aJ}{E:ah->am->Prop}{s:am}{d:KeyKind}{f:gX}
theorem rF(j:hZ d f a w A s){b:bi}{x y:Keyed}{Q:Option Bool->bi->Prop}(i:SB f b)(g:fh d x)(c:fh d y)(h:Q (aa (d.blt (kO d x) (kO d y))) b):wpS (au a w) A E s (lt' x y) Q b:=by rw[lt'_eq];refine aC (jF ?_);rw[i.kind];exact aC (pV (wpAny_attempt (j _ x.1 y.1 _ _ g.k c.k ⟨rfl,aL h⟩)))
theorem dJ{c:bi}{b:Array Keyed}{i:Nat}(g:i<b.size){Q:Keyed->bi->Prop}(h:Q b[i] c):wpS (au a w) A E s (elem' b i) Q c:=by rw[elem'_eq,getElem?_pos b i g];exact aL h
def yW(c:Bool)(g:Keyed)(j:Array Keyed)(h i:Nat):StateT bi Sem (Option Bool) :=elem' j (h+i) >>= λx=>if c=ai then lt' x g else lt' g x >>= λb=>pure (b.map (!·))
def jV(d:KeyKind)(b:Bool)(c x:Keyed):Bool:=if b=ai then d.blt (kO d x) (kO d c)else !d.blt (kO d c) (kO d x)
theorem GH(p:hZ d f a w A s){l:bi}{c:Bool}{j:Keyed}{g:Array Keyed}{b i:Nat}{Q:Option Bool->bi->Prop}(o:SB f l)(n:fh d j)(q:b+i<g.size)(m:fh d g[b+i])(h:Q (aa (jV d c j g[b+i])) l):wpS (au a w) A E s (yW c j g b i) Q l:=by
 refine aC (dJ q ?_);cases c
 .rw[if_neg (by simp)];exact aC (rF p o n m (aL h))
 .rw[if_pos rfl];exact rF p o m n h
theorem Bz(hO:hZ d f a w A s){J:bi}(hk:SB f J){F:Bool}{K:Keyed}{y:Array Keyed}{t n b:Nat}{Q:Option Nat->bi->Prop}(eD:fh d K)(hn:t+n<=y.size)(hA:∀i (g:i<y.size),fh d y[i]) (B:Nat->Bool) (hB:∀i (g:i<n),B i=jV d F K (y[t+i]'∅))(mono:∀i j,i<=j->j<n->B j=ai->B i=ai) (hh:b<n)(h:∀r,r<=n->(∀i,i<r->B i=ai)->(∀i,r<=i->i<n->B i=aj)->Q (aa r) J):wpS (au a w) A E s (uf F K y t n b) Q J:=by
 have N:∀{i:Nat}{Q:Option Bool->bi->Prop},i<n->Q (aa (B i)) J->wpS (au a w) A E s (yW F K y t i) Q J:=λ{i Q} g q=>GH hO hk eD ∅ (hA _ _) (by rw[<-hB i g];exact q);have dn:∀{i j:Nat},i<=j->j<n->B i=aj->B j=aj:=λ{i j} bj hj hf=>by
  cases e:B j with
  |false=>rfl
  |true=>rw[mono i j bj hj e]at hf;cases hf
 unfold uf;refine aC (N hh ?_);cases hr:B b with
 |true=>
  dsimp only;rw[if_pos rfl];refine aC (fc (fe (I:=λx c m=>m=J/\∃l o,c=(ae,l,o)/\l<o/\x<o/\l<n-b/\B (b+l)=ai) (Q:=λc m=>m=J/\∃l o,c=(ae,l,o)/\l<o/\l<n-b/\B (b+l)=ai/\(n-b<=o\/(o<n-b/\B (b+o)=aj))) ?_ ?_ ?_) ?_)
  .rintro x c m _ O ⟨rfl,l,o,rfl,H,S,G,p⟩;dsimp only;by_cases u:o ≥ n-b
   .rw[if_pos u];exact aL ⟨rfl,l,o,rfl,H,G,p,.inl u⟩
   .rw[if_neg u];refine aC (N ∅ ?_);cases e:B (b+o)with
    |true=>exact aL ⟨rfl,o,2*o+1,rfl,∅,∅,∅,e⟩
    |false=>exact aL ⟨rfl,l,o,rfl,H,G,p,.inr ⟨∅,e⟩⟩
  .rintro c m ⟨rfl,l,o,rfl,H,S,G,p⟩;exact⟨rfl,l,o,rfl,H,G,p,.inl ∅⟩
  .exact⟨rfl,0,1,rfl,∅,∅,∅,hr⟩
  rintro c m ⟨rfl,l,o,rfl,H,G,p,L⟩;dsimp only;have Y:b+l+1<=b+min o (n-b):=∅
  have X:b+min o (n-b)<=n:=∅
  have W:∀i,i<b+l+1->B i=ai:=λi g=>mono i (b+l) ∅ ∅ p;have T:∀i,b+min o (n-b)<=i->i<n->B i=aj:=by
   intro i g M;rcases L with L|⟨L,P⟩
   .lia
   .exact dn (i:=b+o) ∅ M P
  clear L;generalize b+l+1=lo at *;generalize b+min o (n-b)=g at *;refine aC (fc (fe (I:=λx c v=>v=m/\∃l r,c=(ae,l,r)/\l<=r/\r<=n/\r-l<=n-x/\(∀i,i<l->B i=ai)/\(∀i,r<=i->i<n->B i=aj)) (Q:=λc v=>v=m/\∃l r,c=(ae,l,r)/\r<=n/\(∀i,i<r->B i=ai)/\(∀i,r<=i->i<n->B i=aj)) ?_ ?_ ?_) ?_)
  .rintro x c v _ O ⟨rfl,l,r,rfl,a1,D,Z,C,z⟩;dsimp only;by_cases u:l ≥ r
   .rw[if_pos u];have:l=r:=∅
    subst this;exact aL ⟨rfl,l,l,rfl,D,C,z⟩
   .rw[if_neg u];refine aC (N ∅ ?_);cases e:B (l+(r-l) / 2)with
    |true=>exact aL ⟨rfl,_,r,rfl,∅,D,∅,λi g=>mono _ _ ∅ ∅ e,z⟩
    |false=>exact aL ⟨rfl,l,_,rfl,∅,∅,∅,C,λi g M=>dn (i:=l+(r-l) / 2) g M e⟩
  .rintro c v ⟨rfl,l,r,rfl,a1,D,Z,C,z⟩;have:l=r:=∅
   subst this;exact⟨rfl,l,l,rfl,D,C,z⟩
  .exact⟨rfl,lo,g,rfl,Y,X,∅,W,T⟩
  .rintro c v ⟨rfl,l,r,rfl,D,C,z⟩;exact aL (h r D C z)
 |false=>
  dsimp only;rw[if_neg (by simp)];refine aC (fc (fe (I:=λx c m=>m=J/\∃l o,c=(ae,l,o)/\l<o/\x<o/\l<=b/\B (b-l)=aj) (Q:=λc m=>m=J/\∃l o,c=(ae,l,o)/\l<o/\l<=b/\B (b-l)=aj/\(b+1<=o\/(o<=b/\B (b-o)=ai))) ?_ ?_ ?_) ?_)
  .rintro x c m _ O ⟨rfl,l,o,rfl,H,S,G,p⟩;dsimp only;by_cases u:o ≥ b+1
   .rw[if_pos u];exact aL ⟨rfl,l,o,rfl,H,G,p,.inl u⟩
   .rw[if_neg u];refine aC (N ∅ ?_);cases e:B (b-o)with
    |false=>exact aL ⟨rfl,o,2*o+1,rfl,∅,∅,∅,e⟩
    |true=>exact aL ⟨rfl,l,o,rfl,H,G,p,.inr ⟨∅,e⟩⟩
  .rintro c m ⟨rfl,l,o,rfl,H,S,G,p⟩;exact⟨rfl,l,o,rfl,H,G,p,.inl ∅⟩
  .exact⟨rfl,0,1,rfl,∅,∅,∅,hr⟩
  rintro c m ⟨rfl,l,o,rfl,H,G,p,L⟩;dsimp only;have Y:b+1-min o (b+1)<=b-l:=∅
  have X:b-l<=n:=∅
  have W:∀i,i<b+1-min o (b+1)->B i=ai:=by
   intro i g;rcases L with L|⟨L,P⟩
   .lia
   .exact mono i (b-o) ∅ ∅ P
  have T:∀i,b-l<=i->i<n->B i=aj:=λi g M=>dn (i:=b-l) ∅ M p;clear L p;generalize b+1-min o (b+1)=lo at *;generalize b-l=g at *;refine aC (fc (fe (I:=λx c v=>v=m/\∃l r,c=(ae,l,r)/\l<=r/\r<=n/\r-l<=n-x/\(∀i,i<l->B i=ai)/\(∀i,r<=i->i<n->B i=aj)) (Q:=λc v=>v=m/\∃l r,c=(ae,l,r)/\r<=n/\(∀i,i<r->B i=ai)/\(∀i,r<=i->i<n->B i=aj)) ?_ ?_ ?_) ?_)
  .rintro x c v _ O ⟨rfl,l,r,rfl,a1,D,Z,C,z⟩;dsimp only;by_cases u:l ≥ r
   .rw[if_pos u];have:l=r:=∅
    subst this;exact aL ⟨rfl,l,l,rfl,D,C,z⟩
   .rw[if_neg u];refine aC (N ∅ ?_);cases e:B (l+(r-l) / 2)with
    |true=>exact aL ⟨rfl,_,r,rfl,∅,D,∅,λi g=>mono _ _ ∅ ∅ e,z⟩
    |false=>exact aL ⟨rfl,l,_,rfl,∅,∅,∅,C,λi g M=>dn (i:=l+(r-l) / 2) g M e⟩
  .rintro c v ⟨rfl,l,r,rfl,a1,D,Z,C,z⟩;have:l=r:=∅
   subst this;exact⟨rfl,l,l,rfl,D,C,z⟩
  .exact⟨rfl,lo,g,rfl,Y,X,∅,W,T⟩
  .rintro c v ⟨rfl,l,r,rfl,D,C,z⟩;exact aL (h r D C z)
end
section
variable{κ:KeyKind}{kz:gX}
def bo(κ:KeyKind)(x y:Keyed):Prop:=κ.kle (kO κ x) (kO κ y)
theorem bo.trans{x y z:Keyed}(b:bo κ x y)(a:bo κ y z):bo κ x z:=r_ b a
structure MS(κ:KeyKind)(T o ra rb:List Keyed):Prop where
 perm:(o++(ra++rb)).Perm T
 so:o.Pairwise (bo κ)
 sa:ra.Pairwise (bo κ)
 sb:rb.Pairwise (bo κ)
 oa:∀x∈o,∀y∈ra,bo κ x y
 ob:∀x∈o,∀y∈rb,bo κ x y
theorem MS.stepA{T o x f d:List Keyed}(h:MS κ T o (x++f) d)(i:∀u∈x,∀v∈d,bo κ u v):MS κ T (o++x) f d:=by
 obtain⟨n,m,c,l,g,j⟩:=h;rw[Dd]at c;refine⟨by simpa[kh]using n,?_,c.2.1,l,?_,?_⟩
 .rw[Dd];exact⟨m,c.1,λu a v b=>g u a v (xV _ b)⟩
 .intro u a v b;rcases ie.mp a with a|a
  .exact g u a v (ka _ b)
  .exact c.2.2 u a v b
 .intro u a v b;rcases ie.mp a with a|a
  .exact j u a v b
  .exact i u a v b
theorem MS.swap{T o b a:List Keyed}(h:MS κ T o b a):MS κ T o a b :=⟨(C6 _ List.perm_append_comm).trans h.perm,h.so,h.sb,h.sa,h.ob,h.oa⟩
theorem MS.stepB{T o x a b:List Keyed}(h:MS κ T o a (x++b))(c:∀u∈x,∀v∈a,bo κ u v):MS κ T (o++x) a b :=(h.swap.stepA c).swap
def eW(κ:KeyKind)(T:List Keyed)(r:Array Keyed):Prop:=r.toList.Perm T/\r.toList.Pairwise (bo κ)
theorem MS.endA{T o a:List Keyed}{r:Array Keyed}(h:MS κ T o a [])(e:r.toList=o++a):eW κ T r:=by obtain⟨f,d,c,i,b,g⟩:=h;refine⟨by rw[e];simpa using f,?_⟩;rw[e,Dd];exact⟨d,c,b⟩
theorem MS.last{T o b a:List Keyed}{r:Array Keyed}(h:MS κ T o b a)(c:∀u∈a,∀v∈b,bo κ u v)(e:r.toList=o++(a++b)):eW κ T r:=by
 have d:MS κ T o b (a++[]):=by simpa using h
 exact(d.stepB c).endA (by rw[e];simp)
theorem ju(a:Array Keyed)(i j:Nat):(a.extract i j).toList=(a.toList.drop i).take (j-i):=by simp[Array.toList_extract,List.extract_eq_take_drop]
theorem o7(a:Array Keyed)(i:Nat):(a.extract i a.size).toList=a.toList.drop i:=by rw[ju,nU];simp
theorem AA{a:Array Keyed}{i:Nat}(h:i<a.size):a.toList.drop i=a[i]::a.toList.drop (i+1):=by rw[vm (by simpa using h)];simp
theorem Ck(a:Array Keyed)(i k:Nat):a.toList.drop i=(a.extract i (i+k)).toList++a.toList.drop (i+k):=by rw[ju,show i+k-i=k by lia,<-List.drop_drop,rT]
theorem oD{a:Array Keyed}{i:Nat}{x:Keyed}(h:x∈a.toList.drop i):∃j,∃d:j<a.size,i<=j/\a[j]=x:=by
 obtain⟨k,c,e⟩:=vp h;rw[De]at e;have b:i+k<a.size:=by simp at c;lia
 exact⟨i+k,b,∅,by simpa using e⟩
theorem At{a:Array Keyed}{i k:Nat}{x:Keyed}(h:x∈(a.extract i (i+k)).toList):∃j,∃c:j<a.size,i<=j/\j<i+k/\a[j]=x:=by
 rw[ju]at h;obtain⟨m,b,e⟩:=vp h;rw[Df,De]at e;refine⟨i+m,?_,∅,?_,by simpa using e⟩
 all_goals simp at b;lia
def qO(κ:KeyKind)(a:Array Keyed):Prop:=∀i j (b:j<a.size) (c:i<=j),bo κ (a[i]'∅) a[j]
theorem qO.pw{a:Array Keyed}(h:qO κ a):a.toList.Pairwise (bo κ):=by rw[List.pairwise_iff_getElem];intro i j c b d;have:=h i j (by simpa using b) ∅;simpa using this
structure d_(κ:KeyKind)(a b c:Array Keyed)(d f:Nat):Prop where
 ms:MS κ (a.toList++b.toList) c.toList (a.toList.drop d) (b.toList.drop f)
 la:d<=a.size
 lb:f<=b.size
variable{a b c:Array Keyed}{d f:Nat}
theorem d_.pushA(h:d_ κ a b c d f)(i:d<a.size)(l:∀j (g:j<b.size),f<=j->bo κ a[d] b[j]):d_ κ a b (c.push a[d]) (d+1) f:=by refine⟨?_,i,h.lb⟩;rw[rX];refine MS.stepA (by rw[yz,<-AA i];exact h.ms) λu n v m=>?_;obtain⟨j,g,o,rfl⟩:=oD m;rw[fJ.mp n];exact l j g o
theorem d_.pushB(h:d_ κ a b c d f)(i:f<b.size)(l:∀j (g:j<a.size),d<=j->bo κ b[f] a[j]):d_ κ a b (c.push b[f]) d (f+1):=by refine⟨?_,h.la,i⟩;rw[rX];refine MS.stepB (by rw[yz,<-AA i];exact h.ms) λu n v m=>?_;obtain⟨j,g,o,rfl⟩:=oD m;rw[fJ.mp n];exact l j g o
theorem d_.extA{k:Nat}(h:d_ κ a b c d f)(p:d+k<=a.size)(m:∀i (l:i<a.size),d<=i->i<d+k->∀j (g:j<b.size),f<=j->bo κ a[i] b[j]):d_ κ a b (c++a.extract d (d+k)) (d+k) f:=by refine⟨?_,p,h.lb⟩;rw[gi];refine MS.stepA (by rw[<-Ck];exact h.ms) λu o v n=>?_;obtain⟨j,g,s,rfl⟩:=oD n;obtain⟨i,l,r,q,rfl⟩:=At o;exact m i l r q j g s
theorem d_.extB{k:Nat}(h:d_ κ a b c d f)(p:f+k<=b.size)(m:∀i (l:i<b.size),f<=i->i<f+k->∀j (g:j<a.size),d<=j->bo κ b[i] a[j]):d_ κ a b (c++b.extract f (f+k)) d (f+k):=by refine⟨?_,h.la,p⟩;rw[gi];refine MS.stepB (by rw[<-Ck];exact h.ms) λu o v n=>?_;obtain⟨j,g,s,rfl⟩:=oD n;obtain⟨i,l,r,q,rfl⟩:=At o;exact m i l r q j g s
theorem d_.doneA(h:d_ κ a b c d f)(e:f=b.size):eW κ (a.toList++b.toList) (c++a.extract d a.size++b.extract f b.size):=by have:=h.ms;rw[show b.toList.drop f=[] by rw[yA];simp[e]]at this;refine this.endA ?_;rw[gi,gi,o7,o7,show b.toList.drop f=[] by rw[yA];simp[e],iA]
theorem d_.doneB(h:d_ κ a b c d f)(e:d=a.size):eW κ (a.toList++b.toList) (c++a.extract d a.size++b.extract f b.size):=by have:=h.ms;rw[show a.toList.drop d=[] by rw[yA];simp[e]]at this;refine this.swap.endA ?_;rw[gi,gi,o7,o7,show a.toList.drop d=[] by rw[yA];simp[e],iA]
theorem d_.last(h:d_ κ a b c d f)(e:d+1=a.size)(n:∀j (g:j<b.size),bo κ b[j] (a[d]'∅)):eW κ (a.toList++b.toList) (c++b.extract f b.size++a.extract d a.size):=by
 refine h.ms.last (λu m v l=>?_) (by rw[gi,gi,o7,o7,kh]);obtain⟨j,g,q,rfl⟩:=oD m;obtain⟨i,o,p,rfl⟩:=oD l;have:i=d:=∅
 subst this;exact n j g
end
section
variable{b:aN}{w:aD}{A:aJ}{E:ah->am->Prop}{s:am}{a:KeyKind}{c:gX}
theorem xf(x:hZ a c b w A s){l:bi}(t:SB c l){f:Keyed}{d:Array Keyed}{base n hint:Nat}{Q:Option Nat->bi->Prop}(C:fh a f)(q:base+n<=d.size)(y:∀i (g:i<d.size),fh a d[i]) (o:∀i j (D:i<=j) (m:j<base+n),base<=i->bo a (d[i]'∅) (d[j]'∅)) (u:hint<n)(h:∀r,r<=n->(∀i (g:i<d.size),base<=i->i<base+r->bo a d[i] f)->(∀i (g:i<d.size),base+r<=i->i<base+n->a.klt (kO a f) (kO a d[i]))->Q (aa r) l):wpS (au b w) A E s (uf aj f d base n hint) Q l:=by
 refine Bz x t C q y (λi=>if g:i<n then jV a aj f (d[base+i]'∅)else aj) (λi g=>by rw[dif_pos g]) ?_ u ?_
 .intro i j D m e;rw[dif_pos m]at e;rw[dif_pos ∅];simp only[jV,kg,if_false,Dc]at e ⊢;exact r_ (o (base+i) (base+j) ∅ ∅ ∅) e
 .intro r p B z;refine h r p (λi g v F=>?_) (λi g v F=>?_)
  .have:=B (i-base) ∅;rw[dif_pos ∅]at this;simp only[jV,kg,if_false,Dc,show base+(i-base)=i by lia]at this;exact this
  .have:=z (i-base) ∅ ∅;rw[dif_pos ∅]at this;simp only[jV,kg,if_false,Bool.not_eq_false',show base+(i-base)=i by lia]at this;exact this
theorem wD(x:hZ a c b w A s){l:bi}(t:SB c l){f:Keyed}{d:Array Keyed}{base n hint:Nat}{Q:Option Nat->bi->Prop}(C:fh a f)(q:base+n<=d.size)(y:∀i (g:i<d.size),fh a d[i]) (o:∀i j (D:i<=j) (m:j<base+n),base<=i->bo a (d[i]'∅) (d[j]'∅)) (u:hint<n)(h:∀r,r<=n->(∀i (g:i<d.size),base<=i->i<base+r->a.klt (kO a d[i]) (kO a f))->(∀i (g:i<d.size),base+r<=i->i<base+n->bo a f d[i])->Q (aa r) l):wpS (au b w) A E s (uf ai f d base n hint) Q l:=by
 refine Bz x t C q y (λi=>if g:i<n then jV a ai f (d[base+i]'∅)else aj) (λi g=>by rw[dif_pos g]) ?_ u ?_
 .intro i j D m e;rw[dif_pos m]at e;rw[dif_pos ∅];simp only[jV,if_true]at e ⊢;exact KeyOrd.klt_of_kle_of_klt (o (base+i) (base+j) ∅ ∅ ∅) e
 .intro r p B z;refine h r p (λi g v F=>?_) (λi g v F=>?_)
  .have:=B (i-base) ∅;rw[dif_pos ∅]at this;simp only[jV,if_true,show base+(i-base)=i by lia]at this;exact this
  .have:=z (i-base) ∅ ∅;rw[dif_pos ∅]at this;simp only[jV,if_true,show base+(i-base)=i by lia]at this;exact this
end
structure eU(st ax:bi):Prop where
 kind:kindOf ax=kindOf st
 arr:arrOf ax=arrOf st
 pend:a6 ax=a6 st
 failed:failedOf ax=failedOf st
theorem eU.rfl{st:bi}:eU st st:=⟨_root_.rfl,_root_.rfl,_root_.rfl,_root_.rfl⟩
theorem eU.sb{b:gX}{a c:bi}(h:eU a c)(k:SB b a):SB b c:=⟨h.kind.trans k.kind,h.failed.trans k.failed⟩
section
variable{prog:aN}{w:aD}{A:aJ}{E:ah->am->Prop}{s:am}{κ:KeyKind}{kz:gX}
theorem b9{a d:Type}{M:Model}{c:Prop}[Decidable c]{t e:StateT a Sem d}{Q:d->a->Prop}{b:a}(g:c->wpS M A E s t Q b)(f:¬c->wpS M A E s e Q b):wpS M A E s (if c then t else e) Q b:=by
 split
 .exact g ‹_›
 .exact f ‹_›
def Ij:Nat->StateT bi Sem Unit:=sortPriv% PySem.Builtin.setMinGallop
theorem eU.trans{a b c:bi}(f:eU a b)(d:eU b c):eU a c:=⟨d.kind.trans f.kind,d.arr.trans f.arr,d.pend.trans f.pend,d.failed.trans f.failed⟩
theorem wc{a b:bi}{g:Nat}{Q:Unit->bi->Prop}(d:eU b a)(h:∀c,eU b c->Q () c):wpS (au prog w) A E s (Ij g) Q a :=lr (h _ (d.trans ⟨rfl,rfl,rfl,rfl⟩))
theorem Jn(hO:hZ κ kz prog w A s){K:bi}(hk:SB kz K){a b:Array Keyed}{Q:Array Keyed->bi->Prop}(ha:0<a.size)(hb:0<b.size)(hA:∀i (N:i<a.size),fh κ a[i]) (hB:∀i (N:i<b.size),fh κ b[i]) (Y:qO κ a) (sb:qO κ b)(h0:bo κ b[0] a[0]) (hl:∀j (p:j<b.size),bo κ b[j] a[a.size-1])(h:∀r D,eU K D->eW κ (a.toList++b.toList) r->Q r D):wpS (au prog w) A E s (Bs a b) Q K:=by
 have kw:∀{i:Nat} (N:i<a.size),i+1=a.size->∀j (p:j<b.size),bo κ b[j] a[i]:=λ{i} N e j p=>by
  have:i=a.size-1:=∅
  subst this;exact hl j p
 have I0:d_ κ a b #[b[0]] 0 1:=by
  have v:d_ κ a b #[] 0 0:=⟨⟨by simp,by simp,by simpa using Y.pw,by simpa using sb.pw,by simp,by simp⟩,∅,∅⟩
  exact v.pushB hb λj p _=>h0.trans (Y 0 j p ∅)
 unfold Bs;refine aC (pV (lm ⟨rfl,?_⟩));refine aC (dJ hb ?_);by_cases e1:1=b.size
 .rw[if_pos (by simp[<-e1])];exact aL (h _ _ .rfl (I0.doneA e1))
 rw[if_neg (by simpa using e1)];by_cases e2:0+1=a.size
 .rw[if_pos (by simp[<-e2])];exact aL (h _ _ .rfl (I0.last e2 (kw ∅ ∅)))
 rw[if_neg (by simpa using e2)];refine aC (jF ?_);refine aC (fc (fe (I:=λx c D=>eU K D/\∃d f l H,c=(ae,d,f,l,H)/\d_ κ a b d f l/\f+1<a.size/\l<b.size/\x+1<=f+l) (Q:=λc D=>eU K D/\∃r,c.1=aa r/\eW κ (a.toList++b.toList) r) ?_ ?_ ?_) ?_);rotate_left
 .rintro c D ⟨_,d,f,l,H,rfl,u,v,q,L⟩;lia
 .exact⟨.rfl,_,0,1,_,rfl,I0,∅,∅,∅⟩
 .rintro⟨c1,c⟩ D ⟨t,r,rfl,W⟩;exact aL (h r D t W)
 rintro x c D _ hx ⟨t,d,f,l,H,rfl,u,v,q,L⟩;refine aC (fc (fe (I:=λy c B=>B=D/\∃d f l C z,c=(ae,d,f,l,C,z)/\d_ κ a b d f l/\f+1<a.size/\l<b.size/\x+1+y<=f+l) (Q:=λc B=>B=D/\((∃r X,c=(aa r,X)/\eW κ (a.toList++b.toList) r)\/∃d f l C z,c=(ae,d,f,l,C,z)/\d_ κ a b d f l/\f+1<a.size/\l<b.size/\x+1+1<=f+l)) ?_ ?_ ?_) ?_)
 .rintro y c B _ hy ⟨rfl,d,f,l,C,z,rfl,u,v,q,L⟩;dsimp only;refine aC (dJ q (aC (dJ ∅ (aC (rF hO (t.sb hk) (hB l q) (hA f ∅) ?_)))));cases e:κ.blt (kO κ b[l]) (kO κ (a[f]'∅))with
  |true=>
   dsimp only;rw[if_pos rfl];refine aC (dJ q ?_);have M:=u.pushB q λj p d7=>bo.trans (jG e) (Y f j p d7);by_cases G:l+1=b.size
   .rw[if_pos (by simp[G])];exact aL ⟨rfl,.inl ⟨_,_,rfl,M.doneA G⟩⟩
   rw[if_neg (by simpa using G)];split
   .exact aL ⟨rfl,.inr ⟨_,_,_,_,_,rfl,M,∅,∅,∅⟩⟩
   .exact aL ⟨rfl,_,_,_,_,_,rfl,M,∅,∅,∅⟩
  |false=>
   dsimp only;rw[if_neg (by simp)];refine aC (dJ ∅ ?_);have M:=u.pushA ∅ λj p d7=>bo.trans (show bo κ (a[f]'∅) b[l] from e) (sb l j p d7);by_cases G:f+1+1=a.size
   .rw[if_pos (by simp[G])];exact aL ⟨rfl,.inl ⟨_,_,rfl,M.last G (kw ∅ ∅)⟩⟩
   rw[if_neg (by simpa using G)];split
   .exact aL ⟨rfl,.inr ⟨_,_,_,_,_,rfl,M,∅,∅,∅⟩⟩
   .exact aL ⟨rfl,_,_,_,_,_,rfl,M,∅,∅,∅⟩
 .rintro c B ⟨rfl,d,f,l,C,z,rfl,u,v,q,L⟩;lia
 .exact⟨rfl,_,_,_,_,_,rfl,u,v,q,∅⟩
 rintro c B ⟨rfl,⟨r,X,rfl,W⟩|⟨d,f,l,C,z,rfl,u,v,q,L⟩⟩
 .exact aL ⟨t,r,rfl,W⟩
 refine aC (pV (lm ⟨rfl,?_⟩));refine aC (fc (fe (I:=λy c B=>eU K B/\∃d f l H C z,c=(ae,d,f,l,H,C,z)/\d_ κ a b d f l/\f+1<a.size/\l<b.size/\x+2+y<=f+l) (Q:=λc B=>eU K B/\((∃r X,c=(aa r,X)/\eW κ (a.toList++b.toList) r)\/∃d f l H C z,c=(ae,d,f,l,H,C,z)/\d_ κ a b d f l/\f+1<a.size/\l<b.size/\x+1+1<=f+l)) ?_ ?_ ?_) ?_);rotate_left
 .rintro c B ⟨_,d,f,l,H,C,z,rfl,u,v,q,L⟩;lia
 .exact⟨t,_,_,_,_,_,_,rfl,u,v,q,∅⟩
 .rintro c B ⟨t,⟨r,X,rfl,W⟩|⟨d,f,l,H,C,z,rfl,u,v,q,L⟩⟩
  .exact aL ⟨t,r,rfl,W⟩
  .dsimp only;refine aC (lr (aL ⟨⟨t.kind,t.arr,t.pend,t.failed⟩,_,_,_,_,rfl,u,v,q,∅⟩))
 clear v q L u t I0 e1 e2;rintro y c B _ hy ⟨t,d,f,l,H,C,z,rfl,u,v,q,L⟩;clear hx hy;have iZ:∀{i j:Nat} (J:i<=j) (p:j<b.size),bo κ (b[i]'∅) b[j]:=λ{i j} J p=>sb i j p J;have ot:∀{i j:Nat} (J:i<=j) (p:j<a.size),bo κ (a[i]'∅) a[j]:=λ{i j} J p=>Y i j p J;refine(?_:wpS (au prog w) A E s _ ?Q _);extract_lets -merge x1 x2 x3 x4 x5 x6 x7 x8 x9 xa xb xc jp;have p:∀g S,eU K S->wpS (au prog w) A E s (jp () g) ?Q S:=by
  intro g S F;dsimp -zeta only[jp,x1,x2,x3,x4,x5,x6,x7,x8,x9,xa,xb,xc];refine aC (wc F λS F=>?_);refine aC (dJ q ?_);refine aC (xf hO (F.sb hk) (base:=f) (n:=a.size-f) (hint:=0) (hB l q) ∅ hA (λi j J p _=>ot J ∅) ∅ λk fL bZ eH=>?_);dsimp -zeta only;extract_lets -merge y1 jp2;have sK:∀o n,d_ κ a b o n l->f+k<=n->n+1<a.size->wpS (au prog w) A E s (jp2 () o n) ?Q S:=by
   intro o n T mG e4;dsimp -zeta only[jp2,y1];refine aC (dJ q ?_);have O:=T.pushB q λj p g=>jG (eH j p ∅ ∅);refine b9 (λe5=>?_) λe5=>?_
   .exact aL ⟨F,.inl ⟨_,_,rfl,O.doneA (by simpa using e5)⟩⟩
   have e5':l+1≠b.size:=by simpa using e5
   refine aC (dJ ∅ ?_);refine aC (wD hO (F.sb hk) (base:=l+1) (n:=b.size-(l+1)) (hint:=0) (hA _ _) ∅ hB (λi j J p _=>iZ J ∅) ∅ λk' m1 m2 m3=>?_);dsimp -zeta only;extract_lets -merge z1 z2 jp3;have sM:∀o m,d_ κ a b o n m->l+1+k'<=m->m<b.size->wpS (au prog w) A E s (jp3 () o m) ?Q S:=by
    intro o m Z e6 e7;dsimp -zeta only[jp3,z1,z2];refine aC (dJ ∅ ?_);have sO:=Z.pushA ∅ (λj p g=>m3 j p ∅ ∅);refine b9 (λe7=>?_) λe7=>?_
    .have P:n+1+1=a.size:=by simpa using e7
     exact aL ⟨F,.inl ⟨_,_,rfl,sO.last P (kw ∅ P)⟩⟩
    have P:n+1+1≠a.size:=by simpa using e7
    refine b9 (λe8=>?_) λe8=>?_
    .exact aL ⟨F,.inr ⟨_,_,_,_,_,_,rfl,sO,∅,∅,∅⟩⟩
    .exact aL ⟨F,_,_,_,_,_,_,rfl,sO,∅,∅,∅⟩
   clear_value jp3;refine b9 (λyM=>?_) (λyM=>?_)
   .have Z:=O.extB (k:=k') ∅ (λi N g1 g2 j p g3=>bo.trans (jG (m2 i N g1 g2)) (ot g3 p));refine b9 (λe6=>?_) λe6=>?_
    .exact aL ⟨F,.inl ⟨_,_,rfl,Z.doneA (by simpa using e6)⟩⟩
    have e6':l+1+k'≠b.size:=by simpa using e6
    exact sM _ _ Z ∅ ∅
   .exact sM _ _ O ∅ ∅
  clear_value jp2;refine b9 (λhk0=>?_) (λhk0=>?_)
  .have T:d_ κ a b (d++a.extract f (f+k)) (f+k) l:=u.extA ∅ λi N g1 g2 j p g3=>(bZ i N g1 g2).trans (iZ g3 p);refine b9 (λG=>?_) λG=>?_
   .have mG:f+k+1=a.size:=by simpa using G
    exact aL ⟨F,.inl ⟨_,_,rfl,T.last mG (kw ∅ mG)⟩⟩
   have mG:f+k+1≠a.size:=by simpa using G
   refine b9 (λe4=>?_) λe4=>?_
   .exact aL ⟨F,.inl ⟨_,_,rfl,T.doneB (by simpa using e4)⟩⟩
   have e4':f+k≠a.size:=by simpa using e4
   exact sK _ _ T ∅ ∅
  .exact sK _ _ u ∅ ∅
 exact b9 (λ_=>p _ _ t) λ_=>p _ _ t
end
def w6(d:KeyKind):KeyKind where
 α:=d.α
 blt:=λa b=>d.blt b a
 irrefl:=d.irrefl
 trans:=λa b c g f=>d.trans c b a f g
 negTrans:=λa b c h=>(d.negTrans c b a h).symm
 total:=λa b g f=>d.total a b f g
 keyOf:=d.keyOf
 dflt:=d.dflt
section
variable{κ:KeyKind}{g:gX}
theorem qg{x y:Keyed}(h:bo κ y x):bo (w6 κ) x y:=h
theorem yX{a:Array Keyed}{n:Nat}(h:0<n)(b:n<=a.size):(a.toList.take n).reverse=(a[n-1]'∅)::(a.toList.take (n-1)).reverse:=by
 obtain⟨m,rfl⟩:∃m,n=m+1:=⟨n-1,∅⟩
 rw[List.take_succ_eq_append_getElem (by simp;lia),Dg];simp
theorem BP(a:Array Keyed)(p n:Nat)(b:p<=n):a.toList.take n=a.toList.take p++(a.extract p n).toList:=by
 rw[ju]
 conv=>lhs;rw[show n=p+(n-p) by lia]
 rw[List.take_add]
theorem oO{a:Array Keyed}{n:Nat}(d:n<=a.size){x:Keyed}(h:x∈a.toList.take n):∃j,∃f:j<a.size,j<n/\a[j]=x:=by
 obtain⟨m,b,e⟩:=vp h;rw[Df]at e;have c:m<n:=by simp at b;lia
 exact⟨m,∅,c,by simpa using e⟩
theorem wG{a:Array Keyed}{p n:Nat}(d:n<=a.size){x:Keyed}(h:x∈(a.extract p n).toList):∃j,∃f:j<a.size,p<=j/\j<n/\a[j]=x:=by
 rw[ju]at h;obtain⟨m,b,e⟩:=vp h;rw[Df,De]at e;have c:p+m<n:=by simp at b;lia
 exact⟨p+m,∅,∅,c,by simpa using e⟩
theorem m8(a:Array Keyed)(n:Nat):(a.extract 0 n).toList=a.toList.take n:=by rw[ju];simp
structure eh(κ:KeyKind)(a b c:Array Keyed)(f d:Nat):Prop where
 ms:MS (w6 κ) (a.toList++b.toList) c.toList (a.toList.take f).reverse (b.toList.take d).reverse
 la:f<=a.size
 lb:d<=b.size
variable{a b c:Array Keyed}{f d:Nat}
theorem eh.pushA(h:eh κ a b c f d)(o:0<f)(p:f-1<a.size)(l:∀j (i:j<b.size),j<d->bo κ b[j] a[f-1]):eh κ a b (c.push a[f-1]) (f-1) d:=by refine⟨?_,∅,h.lb⟩;rw[rX];refine MS.stepA (by rw[yz,<-yX o h.la];exact h.ms) λu n v m=>?_;obtain⟨j,i,q,rfl⟩:=oO h.lb (n6.mp m);rw[fJ.mp n];exact qg (l j i q)
theorem eh.pushB(h:eh κ a b c f d)(o:0<d)(p:d-1<b.size)(l:∀j (i:j<a.size),j<f->bo κ a[j] b[d-1]):eh κ a b (c.push b[d-1]) f (d-1):=by refine⟨?_,h.la,∅⟩;rw[rX];refine MS.stepB (by rw[yz,<-yX o h.lb];exact h.ms) λu n v m=>?_;obtain⟨j,i,q,rfl⟩:=oO h.la (n6.mp m);rw[fJ.mp n];exact qg (l j i q)
theorem eh.extA{p:Nat}(h:eh κ a b c f d)(l:p<=f)(o:∀i (n:i<a.size),p<=i->i<f->∀j (m:j<b.size),j<d->bo κ b[j] a[i]):eh κ a b (c++(a.extract p f).reverse) p d:=by refine⟨?_,cA l h.la,h.lb⟩;rw[gi,Array.toList_reverse];refine MS.stepA (by rw[<-Dg,<-BP _ _ _ l];exact h.ms) λu r v q=>?_;obtain⟨j,m,w,rfl⟩:=oO h.lb (n6.mp q);obtain⟨i,n,t,s,rfl⟩:=wG h.la (n6.mp r);exact qg (o i n t s j m w)
theorem eh.extB{p:Nat}(h:eh κ a b c f d)(l:p<=d)(o:∀i (n:i<b.size),p<=i->i<d->∀j (m:j<a.size),j<f->bo κ a[j] b[i]):eh κ a b (c++(b.extract p d).reverse) f p:=by refine⟨?_,h.la,cA l h.lb⟩;rw[gi,Array.toList_reverse];refine MS.stepB (by rw[<-Dg,<-BP _ _ _ l];exact h.ms) λu r v q=>?_;obtain⟨j,m,w,rfl⟩:=oO h.la (n6.mp q);obtain⟨i,n,t,s,rfl⟩:=wG h.lb (n6.mp r);exact qg (o i n t s j m w)
theorem vM{T:List Keyed}{r q:Array Keyed}(h:eW (w6 κ) T q)(e:r.toList=q.toList.reverse):eW κ T r:=by refine⟨by rw[e];exact(Dh _).trans h.1,?_⟩;rw[e,Di];exact h.2
theorem eh.doneA(h:eh κ a b c f d)(e:f=0):eW κ (a.toList++b.toList) (a.extract 0 f++b.extract 0 d++c.reverse):=by have:=h.ms;rw[e,yv,List.reverse_nil]at this;refine vM (q:=(c.toList++(b.toList.take d).reverse).toArray) (this.swap.endA (by simp)) ?_;rw[gi,gi,m8,m8,e];simp
theorem eh.doneB(h:eh κ a b c f d)(e:d=0):eW κ (a.toList++b.toList) (a.extract 0 f++b.extract 0 d++c.reverse):=by have:=h.ms;rw[e,yv,List.reverse_nil]at this;refine vM (q:=(c.toList++(a.toList.take f).reverse).toArray) (this.endA (by simp)) ?_;rw[gi,gi,m8,m8,e];simp
theorem eh.first(h:eh κ a b c f d)(e:d=1)(p:∀j (n:j<a.size),bo κ (b[0]'(by have:=h.lb;lia)) a[j]):eW κ (a.toList++b.toList) (b.extract 0 d++a.extract 0 f++c.reverse):=by
 refine vM (q:=(c.toList++((a.toList.take f).reverse++(b.toList.take d).reverse)).toArray) (h.ms.swap.last (λu m v l=>?_) (by simp)) ?_
 .obtain⟨i,o,s,rfl⟩:=oO h.la (n6.mp m);obtain⟨j,n,r,rfl⟩:=oO h.lb (n6.mp l);have:j=0:=∅
  subst this;exact qg (p i o)
 .rw[gi,gi,m8,m8];simp
end
section
variable{f:aN}{w:aD}{A:aJ}{E:ah->am->Prop}{s:am}{d:KeyKind}{l:gX}
theorem F9(hO:hZ d l f w A s){S:bi}(hk:SB l S){a b:Array Keyed}{Q:Array Keyed->bi->Prop}(ha:0<a.size)(hb:0<b.size)(hA:∀i (hi:i<a.size),fh d a[i]) (hB:∀i (hi:i<b.size),fh d b[i]) (sa:qO d a) (sb:qO d b)(h0:bo d b[0] a[0]) (hl:∀j (v:j<b.size),bo d b[j] a[a.size-1])(h:∀r J,eU S J->eW d (a.toList++b.toList) r->Q r J):wpS (au f w) A E s (Bu a b) Q S:=by
 have iZ:∀{i j:Nat} (P:i<=j) (v:j<b.size),bo d (b[i]'∅) b[j]:=λ{i j} P v=>sb i j v P;have ot:∀{i j:Nat} (P:i<=j) (v:j<a.size),bo d (a[i]'∅) a[j]:=λ{i j} P v=>sa i j v P;have hf:∀j (v:j<a.size),bo d b[0] a[j]:=λj v=>h0.trans (ot ∅ v);have I0:eh d a b #[a[a.size-1]] (a.size-1) b.size:=by
  have B:eh d a b #[] a.size b.size:=by
   refine⟨⟨?_,by simp,?_,?_,by simp,by simp⟩,∅,∅⟩
   .simp only[<-k9,Dj,kj];exact List.Perm.append (Dh _) (Dh _)
   .simp only[<-k9,Dj,Di];exact sa.pw
   .simp only[<-k9,Dj,Di];exact sb.pw
  exact B.pushA ha ∅ λj v _=>hl j v
 unfold Bu;refine aC (pV (lm ⟨rfl,?_⟩));refine aC (dJ ∅ ?_);refine b9 (λe1=>aL (h _ _ .rfl (I0.doneA (by simpa using e1)))) λe1=>?_;have p7:a.size-1≠0:=by simpa using e1
 refine b9 (λe2=>?_) λe2=>?_
 .have jL:b.size=1:=by simpa using e2
  exact aL (h _ _ .rfl (I0.first jL hf))
 have jL:b.size≠1:=by simpa using e2
 refine aC (jF ?_);refine aC (fc (fe (I:=λx c J=>eU S J/\∃t u q O,c=(ae,u,q,t,O)/\eh d a b t u q/\0<u/\u<=a.size/\1<q/\q<=b.size/\x+1+u+q<=a.size+b.size) (Q:=λc J=>eU S J/\∃r,c.1=aa r/\eW d (a.toList++b.toList) r) ?_ ?_ ?_) ?_);rotate_left
 .rintro c J ⟨_,t,u,q,O,rfl,z,B,N,K,M,T⟩;lia
 .exact⟨.rfl,_,_,_,_,rfl,I0,∅,∅,∅,∅,∅⟩
 .rintro⟨c1,c⟩ J ⟨H,r,rfl,hD⟩;exact aL (h r J H hD)
 rintro x c J _ hx ⟨H,t,u,q,O,rfl,z,B,N,K,M,T⟩;refine aC (fc (fe (I:=λy c F=>F=J/\∃t u q G D,c=(ae,u,q,t,G,D)/\eh d a b t u q/\0<u/\u<=a.size/\1<q/\q<=b.size/\x+1+y+u+q<=a.size+b.size) (Q:=λc F=>F=J/\((∃r c',c=(aa r,c')/\eW d (a.toList++b.toList) r)\/∃t u q G D,c=(ae,u,q,t,G,D)/\eh d a b t u q/\0<u/\u<=a.size/\1<q/\q<=b.size/\x+1+1+u+q<=a.size+b.size)) ?_ ?_ ?_) ?_)
 .rintro y c F _ hy ⟨rfl,t,u,q,G,D,rfl,z,B,N,K,M,T⟩;dsimp only;refine aC (dJ ∅ (aC (dJ ∅ (aC (rF hO (H.sb hk) (hB (q-1) ∅) (hA (u-1) ∅) ?_)))));cases e:d.blt (kO d (b[q-1]'∅)) (kO d (a[u-1]'∅))with
  |true=>
   dsimp only;rw[if_pos rfl];refine aC (dJ ∅ ?_);have W:=z.pushA B ∅ λj v d7=>bo.trans (iZ (show j<=q-1 by lia) ∅) (jG e);refine b9 (λL=>?_) λL=>?_
   .exact aL ⟨rfl,.inl ⟨_,_,rfl,W.doneA (by simpa using L)⟩⟩
   have mG:u-1≠0:=by simpa using L
   refine b9 (λe4=>?_) λe4=>?_
   .exact aL ⟨rfl,.inr ⟨_,_,_,_,_,rfl,W,∅,∅,∅,∅,∅⟩⟩
   .exact aL ⟨rfl,_,_,_,_,_,rfl,W,∅,∅,∅,∅,∅⟩
  |false=>
   dsimp only;rw[if_neg (by simp)];refine aC (dJ ∅ ?_);have W:=z.pushB ∅ ∅ λj v d7=>bo.trans (ot (show j<=u-1 by lia) ∅) (show bo d (a[u-1]'∅) (b[q-1]'∅)from e);refine b9 (λL=>?_) λL=>?_
   .exact aL ⟨rfl,.inl ⟨_,_,rfl,W.first (by simpa using L) hf⟩⟩
   have mG:q-1≠1:=by simpa using L
   refine b9 (λe4=>?_) λe4=>?_
   .exact aL ⟨rfl,.inr ⟨_,_,_,_,_,rfl,W,∅,∅,∅,∅,∅⟩⟩
   .exact aL ⟨rfl,_,_,_,_,_,rfl,W,∅,∅,∅,∅,∅⟩
 .rintro c F ⟨rfl,t,u,q,G,D,rfl,z,B,N,K,M,T⟩;lia
 .exact⟨rfl,_,_,_,_,_,rfl,z,B,N,K,M,∅⟩
 rintro c F ⟨rfl,⟨r,c',rfl,hD⟩|⟨t,u,q,G,D,rfl,z,B,N,K,M,T⟩⟩
 .exact aL ⟨H,r,rfl,hD⟩
 refine aC (pV (lm ⟨rfl,?_⟩));refine aC (fc (fe (I:=λy c F=>eU S F/\∃t u q O G D,c=(ae,u,q,t,O,G,D)/\eh d a b t u q/\0<u/\u<=a.size/\1<q/\q<=b.size/\x+2+y+u+q<=a.size+b.size) (Q:=λc F=>eU S F/\((∃r c',c=(aa r,c')/\eW d (a.toList++b.toList) r)\/∃t u q O G D,c=(ae,u,q,t,O,G,D)/\eh d a b t u q/\0<u/\u<=a.size/\1<q/\q<=b.size/\x+1+1+u+q<=a.size+b.size)) ?_ ?_ ?_) ?_);rotate_left
 .rintro c F ⟨_,t,u,q,O,G,D,rfl,z,B,N,K,M,T⟩;lia
 .exact⟨H,_,_,_,_,_,_,rfl,z,B,N,K,M,∅⟩
 .rintro c F ⟨H,⟨r,c',rfl,hD⟩|⟨t,u,q,O,G,D,rfl,z,B,N,K,M,T⟩⟩
  .exact aL ⟨H,r,rfl,hD⟩
  .dsimp only;exact aC (wc H λY C=>aL ⟨C,_,_,_,_,rfl,z,B,N,K,M,∅⟩)
 clear B N K M T z H I0 e1 e2;rintro y c F _ hy ⟨H,t,u,q,O,G,D,rfl,z,B,N,K,M,T⟩;clear hx hy;refine(?_:wpS (au f w) A E s _ ?Q _);extract_lets -merge x1 x2 x3 x4 x5 x6 x7 x8 x9 xa xb xc jp;have v:∀g Y,eU S Y->wpS (au f w) A E s (jp () g) ?Q Y:=by
  intro g Y C;dsimp -zeta only[jp,x1,x2,x3,x4,x5,x6,x7,x8,x9,xa,xb,xc];refine aC (wc C λY C=>?_);refine aC (dJ ∅ ?_);refine aC (xf hO (C.sb hk) (base:=0) (n:=u) (hint:=u-1) (hB (q-1) ∅) ∅ hA (λi j P v _=>ot P ∅) ∅ λp fL bZ eH=>?_);dsimp -zeta only;extract_lets -merge y1 y2 jp2;have sK:∀n o,eh d a b o n q->0<n->n<=p->wpS (au f w) A E s (jp2 () n o) ?Q Y:=by
   intro n o sL mG e4;dsimp -zeta only[jp2,y1,y2];refine aC (dJ ∅ ?_);have X:=sL.pushB ∅ ∅ λj v g=>bZ j v ∅ ∅;refine b9 (λe5=>?_) λe5=>?_
   .exact aL ⟨C,.inl ⟨_,_,rfl,X.first (by simpa using e5) hf⟩⟩
   have e5':q-1≠1:=by simpa using e5
   refine aC (dJ ∅ ?_);refine aC (wD hO (C.sb hk) (base:=0) (n:=q-1) (hint:=q-1-1) (hA _ _) ∅ hB (λi j P v _=>iZ P ∅) ∅ λp' m1 m2 m3=>?_);dsimp -zeta only;extract_lets -merge z1 z2 z3 jp3;have sM:∀m o,eh d a b o n m->1<m->m<=p'->wpS (au f w) A E s (jp3 () m o) ?Q Y:=by
    intro m o Z e6 e7;dsimp -zeta only[jp3,z1,z2,z3];refine aC (dJ ∅ ?_);have sO:=Z.pushA ∅ ∅ (λj v g=>jG (m2 j v ∅ ∅));refine b9 (λe7=>?_) λe7=>?_
    .exact aL ⟨C,.inl ⟨_,_,rfl,sO.doneA (by simpa using e7)⟩⟩
    have e7':n-1≠0:=by simpa using e7
    refine b9 (λe8=>?_) λe8=>?_
    .exact aL ⟨C,.inr ⟨_,_,_,_,_,_,rfl,sO,∅,∅,∅,∅,∅⟩⟩
    .exact aL ⟨C,_,_,_,_,_,_,rfl,sO,∅,∅,∅,∅,∅⟩
   clear_value jp3;refine b9 (λyM=>?_) (λyM=>?_)
   .have Z:=X.extB (p:=p') ∅ (λi hi g1 g2 j v g3=>bo.trans (ot (show j<=n-1 by lia) ∅) (m3 i hi ∅ ∅));refine b9 (λe6=>?_) λe6=>?_
    .exact aL ⟨C,.inl ⟨_,_,rfl,Z.first (by simpa using e6) hf⟩⟩
    refine b9 (λe9=>?_) λe9=>?_
    .exact aL ⟨C,.inl ⟨_,_,rfl,Z.doneB (by simpa using e9)⟩⟩
    have e6':p'≠1:=by simpa using e6
    have e9':p'≠0:=by simpa using e9
    exact sM _ _ Z ∅ ∅
   .exact sM _ _ X ∅ ∅
  clear_value jp2;refine b9 (λhk0=>?_) (λhk0=>?_)
  .have sL:eh d a b (t++(a.extract p u).reverse) p q:=z.extA ∅ λi hi g1 g2 j v g3=>bo.trans (iZ (show j<=q-1 by lia) ∅) (jG (eH i hi ∅ ∅));refine b9 (λL=>?_) λL=>?_
   .exact aL ⟨C,.inl ⟨_,_,rfl,sL.doneA (by simpa using L)⟩⟩
   have mG:p≠0:=by simpa using L
   exact sK _ _ sL ∅ ∅
  .exact sK _ _ z ∅ ∅
 exact b9 (λ_=>v _ _ H) λ_=>v _ _ H
end
def putL(a:Array Keyed)(c:Nat)(l:List Keyed):Array Keyed:=l.zipIdx.foldl (λa (b:Keyed×Nat)=>a.setIfInBounds (c+b.2) b.1) a
theorem vU:∀(l:List Keyed) (n b:Nat) (a:Array Keyed),b+n+l.length<=a.size -> ((l.zipIdx n).foldl (λa (c:Keyed×Nat)=>a.setIfInBounds (b+c.2) c.1) a).size=a.size /\ ∀k,((l.zipIdx n).foldl (λa (c:Keyed×Nat)=>a.setIfInBounds (b+c.2) c.1) a)[k]?=if b+n<=k/\k<b+n+l.length then l[k-(b+n)]? else a[k]?
 |[],n,b,a,_=>⟨rfl,λk=>by rw[if_neg (by simp)];rfl⟩
 |x::l,n,b,a,h=>by
  have g:b+(n+1)+l.length<=(a.setIfInBounds (b+n) x).size:=by simp at h ⊢;lia
  obtain⟨j,i⟩:=vU l (n+1) b (a.setIfInBounds (b+n) x) g;rw[List.zipIdx_cons,nW];refine⟨by rw[j];simp,λk=>?_⟩;rw[i];by_cases f:b+n=k
  .subst f;rw[if_neg ∅,if_pos (by simp)];rw[Array.getElem?_setIfInBounds_self_of_lt (by simp at h;lia)];simp
  .by_cases d:b+(n+1)<=k/\k<b+(n+1)+l.length
   .rw[if_pos d,if_pos (by simp;lia)];rw[show k-(b+n)=k-(b+(n+1))+1 by lia,List.getElem?_cons_succ]
   .rw[if_neg d,if_neg (by simp;lia),Array.getElem?_setIfInBounds_ne f]
theorem Fe{a:Array Keyed}{b:Nat}{l:List Keyed}(h:b+l.length<=a.size):(putL a b l).size=a.size:=(vU l 0 b a ∅).1
theorem wL{a:Array Keyed}{b:Nat}{l:List Keyed}(h:b+l.length<=a.size)(k:Nat):(putL a b l)[k]?=if b<=k/\k<b+l.length then l[k-b]? else a[k]? :=(vU l 0 b a ∅).2 k
theorem Jo{a:Array Keyed}{b n:Nat}{l:List Keyed}(h:b+n<=a.size)(d:l.Perm ((a.toList.drop b).take n)):(putL a b l).toList.Perm a.toList:=by
 have f:l.length=n:=by rw[d.length_eq,lc,pL];simp;lia
 have e:(putL a b l).toList=a.toList.take b++(l++a.toList.drop (b+n)):=by
  apply yt;intro k;rw[yB,wL ∅,List.getElem?_append,List.getElem?_append,lc,List.getElem?_take,List.getElem?_drop,f];simp only[k9,yB];rw[show min b a.size=b by lia];by_cases c:k<b
  .rw[if_neg ∅,if_pos c,if_pos c]
  .rw[if_neg c];by_cases i:k<b+n
   .rw[if_pos ∅,if_pos ∅]
   .rw[if_neg ∅,if_neg ∅];congr 1;lia
 rw[e];have g:a.toList=a.toList.take b++((a.toList.drop b).take n++a.toList.drop (b+n)):=by rw[<-List.drop_drop,rT,rT]
 conv=>rhs;rw[g]
 exact C6 _ (List.Perm.append_right _ d)
section
variable{κ:KeyKind}{kz:gX}
def Run(κ:KeyKind)(a:Array Keyed)(b n:Nat):Prop:=∀i j x y,b<=i->i<=j->j<b+n->a[i]?=aa x->a[j]?=aa y->bo κ x y
theorem bo.refl(x:Keyed):bo κ x x:=kl _
structure Wr(a a':Array Keyed)(lo n:Nat):Prop where
 perm:a'.toList.Perm a.toList
 size:a'.size=a.size
 out:∀k,k<lo\/lo+n<=k->a'[k]?=a[k]?
theorem Run.keep{a m:Array Keyed}{c n b f:Nat}(h:Run κ a c n)(w:Wr a m b f)(d:c+n<=b\/b+f<=c):Run κ m c n:=by intro i j x y q p o l g;rw[w.out i ∅]at l;rw[w.out j ∅]at g;exact h i j x y q p o l g
end
section
variable{b:aN}{w:aD}{A:aJ}{E:ah->am->Prop}{s:am}{κ:KeyKind}{c:gX}
theorem J5{a:Type}{M:Model}{Q:PUnit->a->Prop}{f d:a}(h:Q ⟨⟩ d):wpS M A E s (set d:StateT a Sem PUnit) Q f:=by unfold wpS;rw[StateT.run_set];exact aE ⟨rfl,h⟩
theorem Lz(a:Array Keyed){p q t:Nat}(f:p<=q)(d:q<=t):(a.extract p q).toList++(a.extract q t).toList=(a.extract p t).toList:=by rw[ju,ju,ju,show t-p=(q-p)+(t-q) by lia,List.take_add,List.drop_drop,show p+(q-p)=q by lia]
theorem KO{a:Array Keyed}{d f p k g:Nat}(hsz:d+f+p<=a.size)(hk:k<f)(h0:0<g)(hnb:g<=p)(Z:Run κ a d f)(Y:Run κ a (d+f) p)(a1:∀i (o:i<a.size),d<=i->i<d+k->bo κ a[i] (a[d+f]'∅)) (b2:∀i (o:i<a.size),d+f+g<=i->i<d+f+p->bo κ (a[d+f-1]'∅) a[i]){r:Array Keyed} (v:eW κ ((a.extract (d+k) (d+f)).toList++(a.extract (d+f) (d+f+g)).toList) r):Wr a (putL a (d+k) r.toList) d (f+p)/\Run κ (putL a (d+k) r.toList) d (f+p):=by
 rw[Lz _ ∅ ∅]at v;have bn:r.toList.length=f-k+g:=by rw[v.1.length_eq,ju,lc,pL,k9];lia
 have F:d+k+r.toList.length<=a.size:=∅
 have C:∀m∈r.toList,∃t,∃D:t<a.size,d+k<=t/\t<d+f+g/\a[t]=m:=λm C=>wG ∅ (v.1.mem_iff.mp C);have H:∀{i j:Nat} (B:i<=j) (l:j<d+f),d<=i->bo κ (a[i]'∅) (a[j]'∅):=λ{i j} B l o=>Z i j _ _ o B l (getElem?_pos _ _ _) (getElem?_pos _ _ _);have G:∀{i j:Nat} (B:i<=j) (l:j<d+f+p),d+f<=i->bo κ (a[i]'∅) (a[j]'∅):=λ{i j} B l o=>Y i j _ _ o B l (getElem?_pos _ _ _) (getElem?_pos _ _ _);have K:∀i (o:i<a.size) j (l:j<a.size),d<=i->i<d+k->d+f<=j->j<d+f+p->bo κ a[i] a[j]:=λi o j l c1 J O c4=>(a1 i o c1 J).trans (G O c4 (a8 _));refine⟨⟨?_,Fe F,λq hq=>?_⟩,?_⟩
 .refine Jo (n:=f-k+g) ∅ ?_;have:=v.1;rwa[ju,show d+f+g-(d+k)=f-k+g by lia]at this
 .rw[wL F,if_neg ∅]
 .intro i j x y h1 L h3 u h;rw[wL F]at u h;by_cases N:d+k<=i/\i<d+k+r.toList.length
  .rw[if_pos N]at u;obtain⟨t,D,X,W,rfl⟩:=C x (uY u);by_cases z:d+k<=j/\j<d+k+r.toList.length
   .rw[if_pos z]at h;by_cases I:i=j
    .subst I;rw[u]at h;cases h;exact bo.refl _
    .obtain⟨T,S⟩:=cJ.mp u;obtain⟨Q,P⟩:=cJ.mp h;have:=List.pairwise_iff_getElem.mp v.2 (i-(d+k)) (j-(d+k)) T Q ∅;rw[S,P]at this;exact this
   .rw[if_neg z]at h;obtain⟨l,rfl⟩:=nR.mp h;by_cases M:t<d+f
    .exact(H (show t<=d+f-1 by lia) ∅ ∅).trans (b2 j l ∅ ∅)
    .exact G ∅ ∅ ∅
  .rw[if_neg N]at u;obtain⟨o,rfl⟩:=nR.mp u;by_cases z:d+k<=j/\j<d+k+r.toList.length
   .rw[if_pos z]at h;obtain⟨t,D,X,W,rfl⟩:=C y (uY h);by_cases M:t<d+f
    .exact H ∅ M ∅
    .exact K i o t D ∅ ∅ ∅ ∅
   .rw[if_neg z]at h;obtain⟨l,rfl⟩:=nR.mp h;by_cases J:i<d+k
    .by_cases O:j<d+k
     .exact H L ∅ h1
     .exact K i o j l ∅ J ∅ ∅
    .exact G L ∅ ∅
theorem zb{a:Array Keyed}{f d g:Nat}(q:f+d+g<=a.size)(t:0<d)(r:0<g)(n:Run κ a f d)(m:Run κ a (f+d) g)(u:bo κ (a[f+d-1]'∅) (a[f+d]'∅)):Run κ a f (d+g):=by
 intro i j x y p o z l h;by_cases v:j<f+d
 .exact n i j x y p o v l h
 .by_cases B:i<f+d
  .exact((n i (f+d-1) x _ p ∅ ∅ l (getElem?_pos _ _ _)).trans u).trans (m (f+d) j _ y ∅ ∅ ∅ (getElem?_pos _ _ _) h)
  .exact m i j x y ∅ o ∅ l h
theorem Wr.same{a:Array Keyed}{lo n:Nat}:Wr a a lo n:=⟨rW _,rfl,λ_ _=>rfl⟩
theorem Jl(J:hZ κ c b w A s){o:bi}(hk:SB c o)(v:∀i (m:i<(arrOf o).size),fh κ (arrOf o)[i]){i d a pw g D:Nat}(M:(a6 o)[i]?=aa (d,a,pw)) (L:(a6 o)[i+1]?=aa (d+a,g,D)) (x:0<a) (F:0<g) (p:d+a+g<=(arrOf o).size)(z:Run κ (arrOf o) d a) (y:Run κ (arrOf o) (d+a) g) {Q:Bool->bi->Prop}(h:∀t,SB c t->a6 t=((a6 o).setIfInBounds i (d,a+g,pw)).eraseIdxIfInBounds (i+1)->Wr (arrOf o) (arrOf t) d (a+g)->Run κ (arrOf t) d (a+g)->Q ai t):wpS (au b w) A E s (mergeAt' i) Q o:=by
 obtain⟨kd,f,I,mg,fl⟩:=o;have P:c=kd:=hk.kind.symm;have oj:fl=ae:=hk.failed;subst oj;subst P;replace v:∀i (m:i<f.size),fh κ f[i]:=v;replace p:d+a+g<=f.size:=p;replace z:Run κ f d a:=z;replace y:Run κ f (d+a) g:=y;replace M:I[i]?=aa (d,a,pw):=M;replace L:I[i+1]?=aa (d+a,g,D):=L;replace h:∀t,SB c t->a6 t=(I.setIfInBounds i (d,a+g,pw)).eraseIdxIfInBounds (i+1)->Wr f (arrOf t) d (a+g)->Run κ (arrOf t) d (a+g)->Q ai t:=h;have g1:∀{i j:Nat} (q:i<=j) (l:j<d+a),d<=i->bo κ (f[i]'∅) (f[j]'∅):=λ{i j} q l m=>z i j _ _ m q l (getElem?_pos _ _ _) (getElem?_pos _ _ _);have g2:∀{i j:Nat} (q:i<=j) (l:j<d+a+g),d+a<=i->bo κ (f[i]'∅) (f[j]'∅):=λ{i j} q l m=>y i j _ _ m q l (getElem?_pos _ _ _) (getElem?_pos _ _ _);unfold mergeAt';refine aC (jF ?_);dsimp only;rw[M,L];dsimp only;refine aC (J5 ?_);generalize (I.setIfInBounds i (d,a+g,pw)).eraseIdxIfInBounds (i+1)=pend at *;refine aC (dJ ∅ ?_);refine aC (xf J ⟨rfl,rfl⟩ (base:=d) (n:=a) (hint:=0) (v _ _) ∅ v (λi j q l m=>g1 q l m) x λk m1 Z m3=>?_);dsimp only;refine b9 (λW=>?_) λW=>?_
 .have X:a<=k:=by have:a-k=0:=(by simpa using W);lia
  refine aL (h _ ⟨rfl,rfl⟩ rfl Wr.same (zb p x F z y (Z _ _ ∅ ∅)))
 have X:k<a:=by have:a-k≠0:=(by simpa using W);lia
 refine aC (dJ ∅ ?_);refine aC (wD J ⟨rfl,rfl⟩ (base:=d+a) (n:=g) (hint:=g-1) (v _ _) ∅ v (λi j q l m=>g2 q l m) ∅ λu n1 Y N=>?_);dsimp only;have G:d+k+(a-k)-1=d+a-1:=∅
 simp only[G]at Y N;refine b9 (λT=>?_) λT=>?_
 .have jL:u=0:=by simpa using T
  refine aL (h _ ⟨rfl,rfl⟩ rfl Wr.same (zb p x F z y (N _ _ ∅ ∅)))
 have jL:u≠0:=by simpa using T
 have xs:(f.extract (d+k) (d+a)).size=a-k:=by simp;lia
 have ys:(f.extract (d+a) (d+a+u)).size=u:=by simp;lia
 refine b9 (λ_=>?_) λ_=>?_
 all_goals
  first
   |refine aC (Jn J ⟨rfl,rfl⟩ ∅ ∅ ?_ ?_ ?_ ?_ ?_ ?_ ?_)
   |refine aC (F9 J ⟨rfl,rfl⟩ ∅ ∅ ?_ ?_ ?_ ?_ ?_ ?_ ?_)
  .intro j l;rw[lu];exact v _ _
  .intro j l;rw[lu];exact v _ _
  .intro i j l q;rw[lu,lu];exact g1 ∅ ∅ ∅
  .intro i j l q;rw[lu,lu];exact g2 ∅ ∅ ∅
  .rw[lu,lu];exact jG (m3 _ _ ∅ ∅)
  .intro j l;rw[lu,lu];have:=Y (d+a+j) ∅ ∅ ∅;have e:d+k+((f.extract (d+k) (d+a)).size-1)=d+a-1:=∅
   simp only[e];exact jG this
  .rintro r ⟨O,H,K,mg',S⟩ ⟨C,B,c3,c4⟩ hD;change O=c at C;change H=f at B;change K=pend at c3;change S=ae at c4;subst C B c3 c4;refine aC (lr ?_);refine aC (jF ?_);obtain⟨w1,w2⟩:=KO p X ∅ n1 z y (λi m C B=>Z i m C B) (λi m C B=>N i m C B) hD;exact aL (h _ ⟨rfl,rfl⟩ rfl w1 w2)
end
section
variable{κ:KeyKind}{kz:gX}
theorem v8{a:Array Keyed}{i:Nat}{x:Keyed}(h:a[i]?=aa x):KK κ a i=kO κ x:=by unfold KK kO;rw[h]
theorem uw{a:Array Keyed}{i:Nat}(h:i<a.size):KK κ a i=kO κ a[i]:=v8 (getElem?_pos _ _ _)
def fM(κ:KeyKind)(a:Array Keyed)(lo n:Nat):Prop:=∀i j,lo<=i->i<=j->j<lo+n->κ.kle (KK κ a i) (KK κ a j)
def lK(κ:KeyKind)(a:Array Keyed)(lo n:Nat):Prop:=∀i j,lo<=i->i<=j->j<lo+n->κ.kle (KK κ a j) (KK κ a i)
theorem fM.run{a:Array Keyed}{b n:Nat}(h:fM κ a b n):Run κ a b n:=by intro i j x y l g f d c;have:=h i j l g f;rw[v8 d,v8 c]at this;exact this
theorem Wr.trans{a b c:Array Keyed}{d n:Nat}(g:Wr a b d n)(f:Wr b c d n):Wr a c d n :=⟨f.perm.trans g.perm,f.size.trans g.size,λk h=>(f.out k h).trans (g.out k h)⟩
theorem Wr.mono{a b:Array Keyed}{d n c f:Nat}(h:Wr a b d n)(j:c<=d)(i:d+n<=c+f):Wr a b c f :=⟨h.perm,h.size,λk g=>h.out k ∅⟩
theorem DQ{a:Array Keyed}{i j:Nat}(b:j<=a.size)(d:i<=j):Wr a (mirror a i j ((j-i) / 2)) i (j-i) :=⟨Dk.mp (mirror_perm _ _ _ _),mirror_size _ _ _ _,λk c=>by rw[getElem?_mirror_all b,if_neg ∅]⟩
theorem Ht{a:Array Keyed}{b d:Nat}(c:b<a.size)(f:d<=b):Wr a (bubble a b d) (b-d) (d+1) :=⟨Dk.mp (bubble_perm _ _ _),bubble_size _ _ _,λk g=>by rw[getElem?_bubble c d f,if_neg ∅,if_neg ∅]⟩
def AllK(κ:KeyKind)(a:Array Keyed):Prop:=∀i (b:i<a.size),fh κ a[i]
theorem AllK.of{a b:Array Keyed}(h:AllK κ a)(p:b.toList.Perm a.toList):AllK κ b:=by intro i f;have c:b[i]∈a.toList:=p.mem_iff.mp (by simp);obtain⟨j,d,e⟩:=vp c;rw[<-e];simpa using h j (by simpa using d)
end
section
variable{d:aN}{w:aD}{A:aJ}{E:ah->am->Prop}{s:am}{κ:KeyKind}{f:gX}
theorem mR(m:hZ κ f d w A s){a:bi}(l:SB f a)(g:AllK κ (arrOf a)){i j:Nat}{Q:Option Bool->bi->Prop}(c:i<(arrOf a).size)(b:j<(arrOf a).size)(h:Q (aa (κ.blt (KK κ (arrOf a) i) (KK κ (arrOf a) j))) a):wpS (au d w) A E s (ltAt' i j) Q a:=by rw[uw c,uw b]at h;rw[ltAt'_eq];refine aC (jF ?_);exact aC (dJ c (aC (dJ b (rF m l (g i c) (g j b) h))))
theorem qQ{b a:bi}{lo n i j:Nat}{Q:Unit->bi->Prop}(m:SB f a)(o:a6 a=a6 b)(l:Wr (arrOf b) (arrOf a) lo n)(r:i<=j)(p:j<=(arrOf b).size)(q:lo<=i)(t:j<=lo+n)(h:∀c,SB f c->a6 c=a6 b->Wr (arrOf b) (arrOf c) lo n->(∀k,KK κ (arrOf c) k=if i<=k/\k<j then KK κ (arrOf a) (i+j-1-k)else KK κ (arrOf a) k)->Q () c):wpS (au d w) A E s (reverseSlice' i j) Q a:=by
 have g:j<=(arrOf a).size:=by rw[l.size];exact p
 exact wpS_reverse (h _ ⟨m.kind,m.failed⟩ o (l.trans ((DQ g r).mono q ∅)) λk=>KK_mirror g k)
theorem Lr{i:Type}{c:Prop}[Decidable c]{j h:StateT bi Sem i}{Q:i->bi->Prop}{g:bi}{J:bi->Prop}(l:¬c->J g)(a:∀b,J b->wpS (au d w) A E s h Q b)(m:c->(∀b,J b->wpS (au d w) A E s h Q b)->wpS (au d w) A E s j Q g):wpS (au d w) A E s (if c then j else h) Q g :=b9 (λe=>m e a) λe=>a g (l e)
theorem wE{a:Array Keyed}{lo x:Nat}(b:fM κ a lo x)(h:1<=x)(e:κ.kle (KK κ a (lo+x-1)) (KK κ a (lo+x))):fM κ a lo (x+1):=λi j c n o=>by
 by_cases l:j<lo+x
 .exact b i j c n l
 .have g:j=lo+x:=∅
  subst g;by_cases m:i=lo+x
  .subst m;exact kl _
  .exact r_ (b i (lo+x-1) c ∅ ∅) e
theorem y3{a:Array Keyed}{lo x:Nat}(b:lK κ a lo x)(h:1<=x)(e:κ.kle (KK κ a (lo+x)) (KK κ a (lo+x-1))):lK κ a lo (x+1):=λi j c n o=>by
 by_cases l:j<lo+x
 .exact b i j c n l
 .have g:j=lo+x:=∅
  subst g;by_cases m:i=lo+x
  .subst m;exact kl _
  .exact r_ e (b i (lo+x-1) c ∅ ∅)
theorem GQ{a:Array Keyed}{lo x b:Nat}(g:∀i,lo+x-(b+1)<=i->i<lo+x->KK κ a i=KK κ a (lo+x-1))(h:KK κ a (lo+x)=KK κ a (lo+x-1)):∀i,lo+(x+1)-(b+1+1)<=i->i<lo+(x+1)->KK κ a i=KK κ a (lo+(x+1)-1):=λi l j=>by
 rw[show lo+(x+1)-1=lo+x by lia];by_cases c:i=lo+x
 .rw[c]
 .rw[g i ∅ ∅,h]
theorem zx{a b:Array Keyed}{i j n:Nat}(g:∀k,KK κ b k=if i<=k/\k<j then KK κ a (i+j-1-k)else KK κ a k)(c:∀k,i<=k->k<j->KK κ a k=KK κ a n):∀k,KK κ b k=KK κ a k:=λk=>by
 rw[g];split
 .rw[c _ ∅ ∅,c k ∅ ∅]
 .rfl
theorem EE(P:hZ κ f d w A s){u:bi}(O:SB f u)(S:AllK κ (arrOf u)){lo a:Nat}(h1:1<=a)(hsz:lo+a<=(arrOf u).size){Q:Option Nat->bi->Prop}(h:∀n p,SB f p->a6 p=a6 u->Wr (arrOf u) (arrOf p) lo a->1<=n->n<=a->fM κ (arrOf p) lo n->Q (aa n) p):wpS (au d w) A E s (countRun' lo a) Q u:=by
 have one:fM κ (arrOf u) lo 1:=λi j r v C=>by
  have:i=j:=∅
  subst this;exact kl _
 have go:∀{t:bi},Wr (arrOf u) (arrOf t) lo a->(arrOf t).size=(arrOf u).size:=λw=>w.size;unfold countRun';refine aC (fc (fe (I:=λx c g=>g=u/\c=(ae,x)/\fM κ (arrOf u) lo x) (Q:=λc g=>g=u/\∃n,c=(ae,n)/\1<=n/\n<=a/\fM κ (arrOf u) lo n/\(n=a\/κ.klt (KK κ (arrOf u) (lo+n)) (KK κ (arrOf u) (lo+n-1)))) ?_ ?_ ?_) ?_)
 .rintro x c g oq om ⟨rfl,rfl,o⟩;dsimp only;refine aC (mR P O S ∅ ∅ ?_);cases e:κ.blt (KK κ (arrOf g) (lo+x)) (KK κ (arrOf g) (lo+x-1))with
  |true=>exact aL ⟨rfl,x,rfl,∅,∅,o,.inr e⟩
  |false=>exact aL ⟨rfl,rfl,wE o ∅ e⟩
 .rintro c g ⟨rfl,rfl,o⟩;rw[show max 1 a=a by lia]at o ⊢;exact⟨rfl,a,rfl,∅,∅,o,.inl rfl⟩
 .exact⟨rfl,rfl,one⟩
 rintro c p ⟨rfl,n,rfl,n1,n2,o,hn⟩;dsimp only;refine b9 (λe1=>aL (h n p O rfl Wr.same n1 n2 o)) λe1=>?_;have p7:n≠a:=by simpa using e1
 replace hn:κ.klt (KK κ (arrOf p) (lo+n)) (KK κ (arrOf p) (lo+n-1)):=hn.resolve_left p7;refine Lr (J:=λB=>SB f B/\a6 B=a6 p/\Wr (arrOf p) (arrOf B) lo a/\lK κ (arrOf B) lo (n+1)) (λen=>⟨O,rfl,Wr.same,λi j r v C=>?_⟩) (λB ⟨bZ,gZ,p8,hD⟩=>?_) λen key=>?_
 .have en':n=1:=∅
  by_cases hi:i=j
  .subst hi;exact kl _
  .have e1:i=lo+n-1:=∅
   have e2:j=lo+n:=∅
   rw[e1,e2];exact jG hn
 .refine aC (pV (lm ⟨rfl,?_⟩));refine aC (fc (fe (I:=λx c l=>∃b,c=(ae,x,b)/\SB f l/\a6 l=a6 p/\Wr (arrOf p) (arrOf l) lo a/\lK κ (arrOf l) lo x/\b+1<=x/\(∀i,lo+x-(b+1)<=i->i<lo+x->KK κ (arrOf l) i=KK κ (arrOf l) (lo+x-1))) (Q:=λc l=>∃m b,c=(ae,m,b)/\SB f l/\a6 l=a6 p/\Wr (arrOf p) (arrOf l) lo a/\1<=m/\m<=a/\lK κ (arrOf l) lo m/\b+1<=m/\(∀i,lo+m-(b+1)<=i->i<lo+m->KK κ (arrOf l) i=KK κ (arrOf l) (lo+m-1))) ?_ ?_ ?_) ?_)
  .rintro x c l oq om ⟨b,rfl,z,F,y,D,hq,G⟩;have sz3:=y.size;dsimp only;refine aC (mR P z (S.of y.perm) ∅ ∅ ?_);cases e3:κ.blt (KK κ (arrOf l) (lo+x)) (KK κ (arrOf l) (lo+x-1))with
   |true=>
    have hd':lK κ (arrOf l) lo (x+1):=y3 D ∅ (jG e3);dsimp only;rw[if_pos rfl];refine b9 (λyN=>?_) λyN=>?_
    .refine aC (qQ (κ:=κ) (lo:=lo) (n:=a) z F y ∅ ∅ ∅ ∅ λbB Z gq X yO=>?_);have W:=zx yO G;exact aL ⟨0,rfl,Z,gq,X,λi j r v C=>by rw[W,W];exact hd' i j r v C,∅,λi r v=>by congr 1;lia⟩
    .exact aL ⟨0,rfl,z,F,y,hd',∅,λi r v=>by congr 1;lia⟩
   |false=>
    dsimp only;rw[if_neg (by simp)];refine aC (mR P z (S.of y.perm) ∅ ∅ ?_);cases e4:κ.blt (KK κ (arrOf l) (lo+x-1)) (KK κ (arrOf l) (lo+x))with
    |true=>exact aL ⟨x,b,rfl,z,F,y,∅,∅,D,hq,G⟩
    |false=>have ex:KK κ (arrOf l) (lo+x)=KK κ (arrOf l) (lo+x-1):=KeyOrd.kle_antisymm e4 e3;exact aL ⟨b+1,rfl,z,F,y,y3 D ∅ (by rw[ex];exact kl _),∅,GQ G ex⟩
  .rintro c l ⟨b,rfl,z,F,y,D,hq,G⟩;rw[show max (n+1) a=a by lia]at D hq G ⊢;exact⟨a,b,rfl,z,F,y,∅,∅,D,hq,G⟩
  .exact⟨0,rfl,bZ,gZ,p8,hD,∅,λi r v=>by congr 1;lia⟩
  rintro c l ⟨m,b,rfl,z,F,y,m1,m2,D,hq,G⟩;dsimp only;refine b9 (λyN=>?_) λyN=>?_
  .refine aC (qQ (κ:=κ) (lo:=lo) (n:=a) z F y ∅ ∅ ∅ ∅ λbB Z gq X yO=>?_);have W:=zx yO G;have N:lK κ (arrOf bB) lo m:=λi j r v C=>by rw[W,W];exact D i j r v C
   refine aC (qQ (κ:=κ) (lo:=lo) (n:=a) Z gq X ∅ ∅ ∅ ∅ λt Y M H T=>?_);have L:fM κ (arrOf t) lo m:=λi j r v C=>by rw[T,T,if_pos ⟨r,∅⟩,if_pos ⟨∅,C⟩];exact N _ _ ∅ ∅ ∅
   have sz5:=H.size;refine aC (fc (fe (I:=λx c g=>g=t/\c=(ae,x)/\fM κ (arrOf t) lo x) (Q:=λc g=>g=t/\∃n,c=(ae,n)/\1<=n/\n<=a/\fM κ (arrOf t) lo n/\(n=a\/κ.klt (KK κ (arrOf t) (lo+n)) (KK κ (arrOf t) (lo+n-1)))) ?_ ?_ ?_) ?_)
   .rintro x c g oq om ⟨rfl,rfl,o⟩;dsimp only;refine aC (mR P Y (S.of H.perm) ∅ ∅ ?_);cases e:κ.blt (KK κ (arrOf g) (lo+x)) (KK κ (arrOf g) (lo+x-1))with
    |true=>exact aL ⟨rfl,x,rfl,∅,∅,o,.inr e⟩
    |false=>exact aL ⟨rfl,rfl,wE o ∅ e⟩
   .rintro c g ⟨rfl,rfl,o⟩;rw[show max m a=a by lia]at o ⊢;exact⟨rfl,a,rfl,∅,∅,o,.inl rfl⟩
   .exact⟨rfl,rfl,L⟩
   rintro c g ⟨rfl,q,rfl,q1,q2,K,_⟩;exact aL (h q g Y M H q1 q2 K)
  .have Z:=z;have gq:=F;have X:=y;have N:=D;refine aC (qQ (κ:=κ) (lo:=lo) (n:=a) Z gq X ∅ ∅ ∅ ∅ λt Y M H T=>?_);have L:fM κ (arrOf t) lo m:=λi j r v C=>by rw[T,T,if_pos ⟨r,∅⟩,if_pos ⟨∅,C⟩];exact N _ _ ∅ ∅ ∅
   have sz5:=H.size;refine aC (fc (fe (I:=λx c g=>g=t/\c=(ae,x)/\fM κ (arrOf t) lo x) (Q:=λc g=>g=t/\∃n,c=(ae,n)/\1<=n/\n<=a/\fM κ (arrOf t) lo n/\(n=a\/κ.klt (KK κ (arrOf t) (lo+n)) (KK κ (arrOf t) (lo+n-1)))) ?_ ?_ ?_) ?_)
   .rintro x c g oq om ⟨rfl,rfl,o⟩;dsimp only;refine aC (mR P Y (S.of H.perm) ∅ ∅ ?_);cases e:κ.blt (KK κ (arrOf g) (lo+x)) (KK κ (arrOf g) (lo+x-1))with
    |true=>exact aL ⟨rfl,x,rfl,∅,∅,o,.inr e⟩
    |false=>exact aL ⟨rfl,rfl,wE o ∅ e⟩
   .rintro c g ⟨rfl,rfl,o⟩;rw[show max m a=a by lia]at o ⊢;exact⟨rfl,a,rfl,∅,∅,o,.inl rfl⟩
   .exact⟨rfl,rfl,L⟩
   rintro c g ⟨rfl,q,rfl,q1,q2,K,_⟩;exact aL (h q g Y M H q1 q2 K)
 .refine aC (mR P O S ∅ ∅ ?_);cases e2:κ.blt (KK κ (arrOf p) lo) (KK κ (arrOf p) (lo+n-1))with
  |true=>exact aL (h n p O rfl Wr.same n1 n2 o)
  |false=>
   dsimp only;rw[if_neg (by simp)];have iF:∀i,lo<=i->i<lo+n->KK κ (arrOf p) i=KK κ (arrOf p) lo:=λi r v=>KeyOrd.kle_antisymm (r_ (o i (lo+n-1) r ∅ ∅) e2) (o lo i (a8 _) r v);refine aC (qQ (κ:=κ) (lo:=lo) (n:=a) O rfl Wr.same ∅ ∅ ∅ ∅ λB bZ gZ p8 lC=>?_);have hD:lK κ (arrOf B) lo (n+1):=by
    have hv:∀i,lo<=i->i<lo+n->KK κ (arrOf B) i=KK κ (arrOf p) lo:=λi r v=>by rw[lC,if_pos ⟨r,v⟩];exact iF _ ∅ ∅
    have hl:κ.klt (KK κ (arrOf B) (lo+n)) (KK κ (arrOf p) lo):=by rw[lC,if_neg ∅,<-iF (lo+n-1) ∅ ∅];exact hn
    intro i j r v C;by_cases hj:j<lo+n
    .rw[hv i r ∅,hv j ∅ hj];exact kl _
    .have ir:j=lo+n:=∅
     subst ir;by_cases hi:i=lo+n
     .subst hi;exact kl _
     .rw[hv i r ∅];exact jG hl
   exact key B ⟨bZ,gZ,p8,hD⟩
theorem IM{g c:bi}{lo n a b:Nat}{Q:Unit->bi->Prop}(m:SB f c)(o:a6 c=a6 g)(l:Wr (arrOf g) (arrOf c) lo n)(t:b<=a)(p:a<(arrOf g).size)(r:lo<=b)(q:a<lo+n)(h:∀i,SB f i->a6 i=a6 g->Wr (arrOf g) (arrOf i) lo n->(∀k,KK κ (arrOf i) k=if k=b then KK κ (arrOf c) a else if b<k/\k<=a then KK κ (arrOf c) (k-1)else KK κ (arrOf c) k)->Q () i):wpS (au d w) A E s (moveDown' a b) Q c:=by
 have j:a<(arrOf c).size:=by rw[l.size];exact p
 rw[moveDown'_eq];refine lr (h _ ⟨m.kind,m.failed⟩ o (l.trans ((Ht j (show a-b<=a by lia)).mono ∅ ∅)) λk=>?_);have:=KK_bubble (κ:=κ) j (show a-b<=a by lia) k;rw[show a-(a-b)=b by lia]at this;exact this
theorem D4(M:hZ κ f d w A s){b:bi}(L:SB f b)(N:AllK κ (arrOf b)){lo n ok:Nat}(K:ok<=n)(H:lo+n<=(arrOf b).size)(J:fM κ (arrOf b) lo ok){Q:Bool->bi->Prop}(h:∀v,SB f v->a6 v=a6 b->Wr (arrOf b) (arrOf v) lo n->fM κ (arrOf v) lo n->Q ai v):wpS (au d w) A E s (binarySort' lo n ok) Q b:=by
 unfold binarySort';refine aC (fc (fe (I:=λk c a=>c=(ae,())/\SB f a/\a6 a=a6 b/\Wr (arrOf b) (arrOf a) lo n/\fM κ (arrOf a) lo (min k n)) (Q:=λc a=>c=(ae,())/\SB f a/\a6 a=a6 b/\Wr (arrOf b) (arrOf a) lo n/\fM κ (arrOf a) lo n) ?_ ?_ ?_) ?_)
 .rintro k c a fL bZ ⟨rfl,p,u,o,g⟩;have sz:=o.size;rw[show min k n=k by lia]at g;refine aC (fc (fe (I:=λx c m=>m=a/\∃l r,c=(ae,l,r)/\l<=r/\r<=k/\r-l<=k-x /\ (∀i,i<l->κ.kle (KK κ (arrOf a) (lo+i)) (KK κ (arrOf a) (lo+k)))/\(∀i,r<=i->i<k->κ.klt (KK κ (arrOf a) (lo+k)) (KK κ (arrOf a) (lo+i)))) (Q:=λc m=>m=a/\∃l r,c=(ae,l,r)/\l<=k /\ (∀i,i<l->κ.kle (KK κ (arrOf a) (lo+i)) (KK κ (arrOf a) (lo+k)))/\(∀i,l<=i->i<k->κ.klt (KK κ (arrOf a) (lo+k)) (KK κ (arrOf a) (lo+i)))) ?_ ?_ ?_) ?_)
  .rintro x c m _ Y ⟨rfl,l,r,rfl,X,y,W,t,q⟩;dsimp only;refine b9 (λP=>?_) λP=>?_
   .have:l=r:=∅
    subst this;exact aL ⟨rfl,l,l,rfl,y,t,q⟩
   .refine aC (mR M p (N.of o.perm) ∅ ∅ ?_);cases e:κ.blt (KK κ (arrOf m) (lo+k)) (KK κ (arrOf m) (lo+(l+r) / 2))with
    |true=>exact aL ⟨rfl,l,(l+r) / 2,rfl,∅,∅,∅,t,λi B O=>KeyOrd.klt_of_klt_of_kle e (g _ _ ∅ ∅ ∅)⟩
    |false=>exact aL ⟨rfl,(l+r) / 2+1,r,rfl,∅,∅,∅,λi B=>r_ (g (lo+i) (lo+(l+r) / 2) ∅ ∅ ∅) e,q⟩
  .rintro c m ⟨rfl,l,r,rfl,X,y,W,t,q⟩;have:l=r:=∅
   subst this;exact⟨rfl,l,l,rfl,y,t,q⟩
  .exact⟨rfl,0,k,rfl,∅,∅,∅,λi Z=>∅,λi B O=>∅⟩
  .rintro c m ⟨rfl,l,r,rfl,y,t,q⟩;dsimp only;refine aC (IM (κ:=κ) (lo:=lo) (n:=n) p u o ∅ ∅ ∅ ∅ λbg z S G C=>aL ⟨rfl,z,S,G,?_⟩);rw[show min (k+1) n=k+1 by lia];intro i j F D T;rw[C,C]
   repeat' split
   all_goals first
    | (exfalso;lia)
    |exact kl _
    | (have:=t (i-lo) ∅;rw[show lo+(i-lo)=i by lia]at this;exact this)
    | (have:=q (j-1-lo) ∅ ∅;rw[show lo+(j-1-lo)=j-1 by lia]at this;exact jG this)
    |exact g _ _ ∅ ∅ ∅
 .rintro c a ⟨rfl,p,u,o,g⟩;rw[show min (max (max ok 1) n) n=n by lia]at g;exact⟨rfl,p,u,o,g⟩
 .refine⟨rfl,L,rfl,Wr.same,λi j F D T=>?_⟩;by_cases B:ok=0
  .have:i=j:=∅
   subst this;exact kl _
  .exact J i j F D ∅
 .rintro c a ⟨rfl,p,u,o,g⟩;exact aL (h a p u o g)
end
theorem IH{c:Prop}[Decidable c]{a b n:Nat}(f:a+1<n)(d:b+1<n):(if c then a else b)+1<n:=by split <;> assumption
def jf:Nat->List (Nat×Nat)->Nat->Prop
 |f,[],t=>f=t
 |f,(a,n)::l,t=>a=f/\0<n/\jf (f+n) l t
theorem jf.app:∀{l1:List (Nat×Nat)}{f t:Nat}{b:List (Nat×Nat)},jf f (l1++b) t↔∃m,jf f l1 m/\jf m b t
 |[],f,t,b=>by simp[jf]
 | (a,n)::l1,f,t,b=>by
  simp only[n8,jf,jf.app (l1:=l1)];constructor
  .rintro⟨h,g,m,d,c⟩;exact⟨m,⟨h,g,d⟩,c⟩
  .rintro⟨m,⟨h,g,d⟩,c⟩;exact⟨h,g,m,d,c⟩
theorem jf.le:∀{l:List (Nat×Nat)}{f t:Nat},jf f l t->f+l.length<=t/\∀e∈l,f<=e.1/\e.1+e.2<=t
 |[],f,t,h=>⟨by cases h;simp,by simp⟩
 | (a,n)::l,f,t,⟨g,j,d⟩=>by
  obtain⟨i,c⟩:=jf.le d;refine⟨by simp;lia,λe b=>?_⟩;rcases bT.mp b with rfl|b
  .subst g;exact⟨a8 _,by simp;lia⟩
  .have:=c e b;exact⟨∅,this.2⟩
def PL(a:Array (Nat×Nat×Nat)):List (Nat×Nat):=a.toList.map λe=>(e.1,e.2.1)
structure gJ(κ:KeyKind)(arr:Array Keyed)(pd:Array (Nat×Nat×Nat))(lo:Nat):Prop where
 ch:jf 0 (PL pd) lo
 run:∀e∈PL pd,Run κ arr e.1 e.2
theorem uo(a:Array (Nat×Nat×Nat)):(PL a).length=a.size:=by simp[PL]
theorem lM(a:Array (Nat×Nat×Nat))(e:Nat×Nat×Nat):PL (a.push e)=PL a++[(e.1,e.2.1)]:=by simp[PL]
theorem t6(a:Array (Nat×Nat×Nat))(k pw:Nat):PL (a.modify k λx=>(x.1,x.2.1,pw))=PL a:=by
 apply yt;intro i;simp only[PL,jE,yB,Array.getElem?_modify];split
 .cases a[i]? <;> rfl
 .rfl
theorem Hx{j:Array (Nat×Nat×Nat)}{i:Nat}(h:i+1<j.size):∃a f b d g sb c m,j[i]?=aa (b,d,g)/\j[i+1]?=aa (sb,c,m)/\PL j=a++(b,d)::(sb,c)::f /\ PL ((j.setIfInBounds i (b,d+c,g)).eraseIdxIfInBounds (i+1))=a++(b,d+c)::f:=by
 obtain⟨l⟩:=j;simp only[bY]at h;have e:l=l.take i++l[i]::l[i+1]::l.drop (i+2):=by rw[<-vm,<-vm,rT]
 obtain⟨a,x,y,f,n,p⟩:∃a x y f,a.length=i/\l=a++x::y::f:=⟨l.take i,l[i],l[i+1],l.drop (i+2),by simp;lia,e⟩
 subst n p;obtain⟨b,d,g⟩:=x;obtain⟨sb,c,m⟩:=y;refine⟨a.map λe=>(e.1,e.2.1),f.map λe=>(e.1,e.2.1),b,d,g,sb,c,m,by simp,by simp[nK],by simp[PL],?_⟩;have o:((a++(b,d,g)::(sb,c,m)::f).toArray.setIfInBounds a.length (b,d+c,g)).eraseIdxIfInBounds (a.length+1)=(a++(b,d+c,g)::f).toArray:=by rw[List.setIfInBounds_toArray,List.set_append_right _ _ (a8 _),List.eraseIdxIfInBounds_toArray];congr 1;rw[List.eraseIdx_append_of_length_le ∅];simp
 rw[o];simp[PL]
section
variable{prog:aN}{w:aD}{A:aJ}{E:ah->am->Prop}{s:am}{κ:KeyKind}{kz:gX}
theorem gJ.keep{a f:Array Keyed}{c:Array (Nat×Nat×Nat)}{b n:Nat}(h:gJ κ a c b)(w:Wr a f b n):gJ κ f c b :=⟨h.ch,λe d=>(h.run e d).keep w (.inl (h.ch.le.2 e d).2)⟩
theorem wO(H:hZ κ kz prog w A s){a:bi}(F:SB kz a)(I:AllK κ (arrOf a)){i l:Nat}(g:gJ κ (arrOf a) (a6 a) l)(D:l<=(arrOf a).size)(G:i+1<(a6 a).size){Q:Bool->bi->Prop}(h:∀c,SB kz c->Wr (arrOf a) (arrOf c) 0 l->gJ κ (arrOf c) (a6 c) l->(a6 c).size+1=(a6 a).size->Q ai c):wpS (au prog w) A E s (mergeAt' i) Q a:=by
 obtain⟨W,T,f,j,S,sb,t,P,K,J,d,p⟩:=Hx G;have u:=g.ch;rw[d]at u;obtain⟨m,x,O,N,M,L,v⟩:=jf.app.mp u;subst O M;have b1:=x.le;have b2:=v.le;have z:Run κ (arrOf a) f j:=g.run (f,j) (by rw[d];simp);have y:Run κ (arrOf a) (f+j) t:=g.run (f+j,t) (by rw[d];simp);refine Jl H F I K J N L ∅ z y λc B n o C=>h c B (o.mono ∅ ∅) ⟨?_,?_⟩ ?_
 .rw[n,p];exact jf.app.mpr ⟨f,x,rfl,∅,by rw[<-n5];exact v⟩
 .rw[n,p];intro e b;rcases ie.mp b with b|b
  .exact(g.run e (by rw[d];exact xV _ b)).keep o (.inl (b1.2 e b).2)
  .rcases bT.mp b with rfl|b
   .exact C
   .exact(g.run e (by rw[d];simp[b])).keep o (.inr (by have:=(b2.2 e b).1;lia))
 .have r:=uo (a6 c);have q:=uo (a6 a);rw[n,p]at r;rw[d]at q;rw[n,<-r,<-q];simp;lia
theorem ER(hO:hZ κ kz prog w A s){st:bi}(hk:SB kz st)(hA:AllK κ (arrOf st))(hp:a6 st=#[]){Q:Unit->bi->Prop}(h:∀ax,SB kz ax->(arrOf ax).toList.Perm (arrOf st).toList->Run κ (arrOf ax) 0 (arrOf st).size->Q () ax):wpS (au prog w) A E s sortRuns' Q st:=by
 unfold sortRuns';refine aC (jF ?_);dsimp only;obtain⟨b,LU⟩:∃b,b=(arrOf st).size:=⟨_,rfl⟩
 have LM:((sortPriv% PySem.Builtin.SortState.a) st).size=b:=LU.symm;simp only[LM];refine aC (fc (fe (I:=λx c o=>∃f,c=(ae,f)/\x<=f/\f<=b/\SB kz o/\(arrOf o).toList.Perm (arrOf st).toList/\(arrOf o).size=b/\gJ κ (arrOf o) (a6 o) f) (Q:=λc o=>c=(ae,b)/\SB kz o/\(arrOf o).toList.Perm (arrOf st).toList/\(arrOf o).size=b/\gJ κ (arrOf o) (a6 o) b) ?_ ?_ ?_) ?_);rotate_left
 .rintro c o ⟨f,rfl,b1,b2,fL,J,S,N⟩;have:f=b:=∅
  subst this;exact⟨rfl,fL,J,S,N⟩
 .exact⟨0,rfl,∅,∅,hk,rW _,LU.symm,by rw[hp];exact⟨rfl,by simp[PL]⟩⟩
 .rintro c o ⟨rfl,fL,J,S,N⟩;dsimp only;refine aC (fc (fe (I:=λx c l=>c=(ae,())/\SB kz l/\(arrOf l).toList.Perm (arrOf st).toList/\(arrOf l).size=b/\gJ κ (arrOf l) (a6 l) b/\(a6 l).size+x<=b+1) (Q:=λc l=>c=(ae,())/\SB kz l/\(arrOf l).toList.Perm (arrOf st).toList/\(arrOf l).size=b/\gJ κ (arrOf l) (a6 l) b/\(a6 l).size<=1) ?_ ?_ ?_) ?_)
  .rintro x c l _ hx ⟨rfl,D,gZ,kx,O,hb⟩;refine aC (jF ?_);refine b9 (λe1=>aL ⟨rfl,D,gZ,kx,O,e1⟩) λe1=>?_;have p7:1<(a6 l).size:=Nat.lt_of_not_le e1;refine aC (wO hO D (hA.of gZ) O ∅ ?_ λM L iJ F hq=>?_)
   .exact IH (show(a6 l).size-2-1+1<(a6 l).size by lia) (show(a6 l).size-2+1<(a6 l).size by lia)
   .exact aL ⟨rfl,L,iJ.perm.trans gZ,iJ.size.trans kx,F,∅⟩
  .rintro c l ⟨rfl,D,gZ,kx,O,hb⟩;exact⟨rfl,D,gZ,kx,O,∅⟩
  .have:=N.ch.le.1;rw[uo]at this;exact⟨rfl,fL,J,S,N,∅⟩
  .rintro c l ⟨rfl,D,gZ,kx,O,hb⟩;refine aL (h l D gZ ?_);rw[<-LU];have hc:=O.ch;have hr:=O.run;have hl:=uo (a6 l)
   match hq:PL (a6 l),hc,hr,hl with
   |[],hc,hr,hl=>
    cases hc;intro i j x y a1 a2 a3;lia
   |[(a,n)],hc,hr,hl=>
    obtain⟨d1,d2,d3⟩:=hc;cases d1;have d3':0+n=b:=d3;have:=hr (0,n) (by simp);rw[show b=n by lia];exact this
   |_::_::_,hc,hr,hl=>simp at hl;lia
 rintro x c o _ hx ⟨f,rfl,b1,b2,fL,J,S,N⟩;dsimp only;refine b9 (λe1=>?_) λe1=>?_
 .have:f=b:=∅
  subst this;exact aL ⟨rfl,fL,J,S,N⟩
 refine aC (EE hO fL (hA.of J) ∅ ∅ λr l D Y p8 f1 f2 p9=>?_);dsimp only;refine b9 (λe2=>?_) λe2=>?_
 .refine aC (pV (lm ⟨rfl,?_⟩));refine aC (D4 hO D ((hA.of J).of p8.perm) ∅ (by rw[p8.size];lia) p9 λM L hq3 iJ X=>?_);rw[if_neg (by simp)];have K:Wr (arrOf o) (arrOf M) f (b-f):=p8.trans (iJ.mono ∅ ∅);have sT:a6 M=a6 o:=hq3.trans Y;generalize hn:min (b-f) _=n at *;have n1:0<n:=∅
  have n2:f+n<=b:=∅
  clear D p8 p9 Y iJ hq3;have F:gJ κ (arrOf M) (a6 M) f:=by rw[sT];exact N.keep K
  have eF:(arrOf M).toList.Perm (arrOf st).toList:=K.perm.trans J;have mC:(arrOf M).size=b:=K.size.trans S;have hR:Run κ (arrOf M) f n:=X.run;clear K sT;refine aC (jF ?_);obtain⟨kd,arr,P,mg,fl⟩:=M;dsimp only;cases hbk:P.back? with
  |none=>
   dsimp only;refine aC (lr (aL ⟨f+n,rfl,∅,n2,⟨L.kind,L.failed⟩,eF,mC,?_⟩));refine⟨?_,?_⟩
   .show jf 0 (PL (P.push (f,n,0))) _;rw[lM];exact jf.app.mpr ⟨f,F.ch,rfl,n1,rfl⟩
   .show ∀e∈PL (P.push (f,n,0)),_;rw[lM];intro e m;rcases ie.mp m with m|m
    .exact F.run e m
    .rw[fJ.mp m];exact hR
  |some bk=>
   obtain⟨s1,m1,q1⟩:=bk;dsimp only;refine aC (fc (fe (I:=λx c g=>c=(ae,())/\SB kz g/\(arrOf g).toList.Perm (arrOf st).toList/\(arrOf g).size=b/\gJ κ (arrOf g) (a6 g) f/\Run κ (arrOf g) f n) (Q:=λc g=>c=(ae,())/\SB kz g/\(arrOf g).toList.Perm (arrOf st).toList/\(arrOf g).size=b/\gJ κ (arrOf g) (a6 g) f/\Run κ (arrOf g) f n) ?_ (λ_ _ hh=>hh) ?_) ?_)
   .rintro y c g _ hy ⟨rfl,z,B,H,t,G⟩;refine aC (jF ?_);have sj:∀{p:bi},p=g->((ae,()):Option Unit×Unit)=(ae,())/\SB kz p/\(arrOf p).toList.Perm (arrOf st).toList/\(arrOf p).size=b/\gJ κ (arrOf p) (a6 p) f/\Run κ (arrOf p) f n:=λe=>by subst e;exact⟨rfl,z,B,H,t,G⟩
    by_cases hg:1<(a6 g).size
    .obtain⟨v,q,d,u,C⟩:=g;have W:d.size > 1:=hg;dsimp only;rw[if_pos W,getElem?_pos d (d.size-2) ∅];obtain⟨u1,u2,u3⟩:=d[d.size-2];dsimp only;refine b9 (λ_=>aL (sj rfl)) λ_=>?_;refine aC (wO hO z (hA.of B) t ∅ (show d.size-2+1<d.size by lia) λp lD T Z _=>?_);exact aL ⟨rfl,lD,T.perm.trans B,T.size.trans H,Z,G.keep T (.inr ∅)⟩
    .obtain⟨v,q,d,u,C⟩:=g;have W:¬d.size > 1:=hg;dsimp only;rw[if_neg W];exact aL (sj rfl)
   .exact⟨rfl,L,eF,mC,F,hR⟩
   rintro c g ⟨rfl,z,B,H,t,G⟩;obtain⟨v,q,d,u,C⟩:=g;dsimp only;refine aC (lr (aC (lr (aL ⟨f+n,rfl,∅,n2,⟨z.kind,z.failed⟩,B,H,?_⟩))));refine⟨?_,?_⟩
   .show jf 0 (PL ((d.modify (d.size-1) λx=>(x.1,x.2.1,_)).push (f,n,0))) _;rw[lM,t6];exact jf.app.mpr ⟨f,t.ch,rfl,n1,rfl⟩
   .show ∀e∈PL ((d.modify (d.size-1) λx=>(x.1,x.2.1,_)).push (f,n,0)),_;rw[lM,t6];intro e m;rcases ie.mp m with m|m
    .exact t.run e m
    .rw[fJ.mp m];exact G
 .have L:=D;have X:=p9;have K:Wr (arrOf o) (arrOf l) f (b-f):=p8;have sT:a6 l=a6 o:=Y;have n1:0<r:=∅
  have n2:f+r<=b:=∅
  have F:gJ κ (arrOf l) (a6 l) f:=by rw[sT];exact N.keep K
  have eF:(arrOf l).toList.Perm (arrOf st).toList:=K.perm.trans J;have mC:(arrOf l).size=b:=K.size.trans S;have hR:Run κ (arrOf l) f r:=X.run;clear K sT;refine aC (jF ?_);obtain⟨kd,arr,P,mg,fl⟩:=l;dsimp only;cases hbk:P.back? with
  |none=>
   dsimp only;refine aC (lr (aL ⟨f+r,rfl,∅,n2,⟨L.kind,L.failed⟩,eF,mC,?_⟩));refine⟨?_,?_⟩
   .show jf 0 (PL (P.push (f,r,0))) _;rw[lM];exact jf.app.mpr ⟨f,F.ch,rfl,n1,rfl⟩
   .show ∀e∈PL (P.push (f,r,0)),_;rw[lM];intro e m;rcases ie.mp m with m|m
    .exact F.run e m
    .rw[fJ.mp m];exact hR
  |some bk=>
   obtain⟨s1,m1,q1⟩:=bk;dsimp only;refine aC (fc (fe (I:=λx c g=>c=(ae,())/\SB kz g/\(arrOf g).toList.Perm (arrOf st).toList/\(arrOf g).size=b/\gJ κ (arrOf g) (a6 g) f/\Run κ (arrOf g) f r) (Q:=λc g=>c=(ae,())/\SB kz g/\(arrOf g).toList.Perm (arrOf st).toList/\(arrOf g).size=b/\gJ κ (arrOf g) (a6 g) f/\Run κ (arrOf g) f r) ?_ (λ_ _ hh=>hh) ?_) ?_)
   .rintro y c g _ hy ⟨rfl,z,B,H,t,G⟩;refine aC (jF ?_);have sj:∀{p:bi},p=g->((ae,()):Option Unit×Unit)=(ae,())/\SB kz p/\(arrOf p).toList.Perm (arrOf st).toList/\(arrOf p).size=b/\gJ κ (arrOf p) (a6 p) f/\Run κ (arrOf p) f r:=λe=>by subst e;exact⟨rfl,z,B,H,t,G⟩
    by_cases hg:1<(a6 g).size
    .obtain⟨v,q,d,u,C⟩:=g;have W:d.size > 1:=hg;dsimp only;rw[if_pos W,getElem?_pos d (d.size-2) ∅];obtain⟨u1,u2,u3⟩:=d[d.size-2];dsimp only;refine b9 (λ_=>aL (sj rfl)) λ_=>?_;refine aC (wO hO z (hA.of B) t ∅ (show d.size-2+1<d.size by lia) λp lD T Z _=>?_);exact aL ⟨rfl,lD,T.perm.trans B,T.size.trans H,Z,G.keep T (.inr ∅)⟩
    .obtain⟨v,q,d,u,C⟩:=g;have W:¬d.size > 1:=hg;dsimp only;rw[if_neg W];exact aL (sj rfl)
   .exact⟨rfl,L,eF,mC,F,hR⟩
   rintro c g ⟨rfl,z,B,H,t,G⟩;obtain⟨v,q,d,u,C⟩:=g;dsimp only;refine aC (lr (aC (lr (aL ⟨f+r,rfl,∅,n2,⟨z.kind,z.failed⟩,B,H,?_⟩))));refine⟨?_,?_⟩
   .show jf 0 (PL ((d.modify (d.size-1) λx=>(x.1,x.2.1,_)).push (f,r,0))) _;rw[lM,t6];exact jf.app.mpr ⟨f,t.ch,rfl,n1,rfl⟩
   .show ∀e∈PL ((d.modify (d.size-1) λx=>(x.1,x.2.1,_)).push (f,r,0)),_;rw[lM,t6];intro e m;rcases ie.mp m with m|m
    .exact t.run e m
    .rw[fJ.mp m];exact G
end
theorem wq{n:Nat}(h:n<=1000000):n<a_:=yh h (by decide)
theorem Run.sortedTo{κ:KeyKind}{a:Array Keyed}{n:Nat}(h:Run κ a 0 n)(c:n<=a.size):SortedToK κ a n:=by intro i j b d;have:=h i j _ _ (li _) b ∅ (getElem?_pos a i ∅) (getElem?_pos a j ∅);rw[uw (show i<a.size by lia),uw (show j<a.size by lia)];exact this
theorem KeysOf.all{κ:KeyKind}{a:Array Keyed}(h:KeysOf κ a):AllK κ a:=λi b=>h _ (by simp)
section
variable{P:aN}{w:aD}{A:aJ}{E:ah->am->Prop}{s:am}
theorem EX{κ:KeyKind}{kz:gX}{a:af}{c:List ah}{n:Nat}{F:Fin->am->Prop}(q:s.heap.get? a=aa (dI "list" c.toArray n))(I:KeysOf κ (km c))(B:c.length<=1000000)(C:∀r:az,(∀b o,b≠a->s.heap.get? b=aa o->r.get? b=aa o)->2<=c.length->hZ κ kz P w A {s with heap:=r}/\∀{E:ah->am->Prop}{Q:gX->am->Prop},Q kz {s with heap:=r}->aq (au P w) A (keyKind' c.toArray) Q E {s with heap:=r})(h:∀d:bi,(arrOf d).Perm (km c)->SortedToK κ (arrOf d) (km c).size->F (.done (.ret .none)) {s with heap:=sortedHeap s.heap a c ((arrOf d).map (·.2))}):aq (au P w) A (Builtin.«list.sort» ⟨[.ref a],[]⟩) F E s:=by
 rw[list_sort_plain];have y:a<s.heap.objs.size:=bE q;have x:c.length<=a_:=kZ (wq B);refine ap (listItems_at q rfl ?_);refine ap (yu q rfl ?_);obtain⟨t,v⟩:∃t,(s.heap.update a (fH λ_=>#[])).get? a=aa (dI "list" #[] t):=⟨_,vk q (λ_=>#[])⟩
 refine ap (seqEpoch_at v rfl ?_);refine ap (wpAny_newTuple ?_ (hsz:=by rw[va];exact x));refine ap (wpAny_newList ?_);refine ig ?_;have l:(((s.heap.update a (fH λ_=>#[])).push (dI "tuple" c.toArray 0)).push (dI "list" #[] 0)).get? a=aa (dI "list" #[] t):=by rw[Heap.get?_push_ne _ _ _ (by rw[iC,C_];exact cM (ki y)),Heap.get?_push_ne _ _ _ (by rw[C_];exact cM y)];exact v
 have keep:∀b o,b≠a->s.heap.get? b=aa o->(((s.heap.update a (fH λ_=>#[])).push (dI "tuple" c.toArray 0)).push (dI "list" #[] 0)).get? b=aa o:=λb o m e=>bd _ (bd _ (by rw[C9 _ _ _ _ m];exact e));show aq (au P w) A _ F E {s with heap:=((s.heap.update a (fH λ_=>#[])).push (dI "tuple" c.toArray 0)).push (dI "list" #[] 0)};dsimp only;have f:∀d:bi,failedOf d=ae->(arrOf d).Perm (km c)->SortedToK κ (arrOf d) (km c).size ->
   aq (au P w) A (do
    let touched:=(<-seqEpoch a) != t
    Builtin.List.listUpdate (.ref a) λ_=>(arrOf d).map (·.2)
    if let aa e:=failedOf d then rule "list.sort.comparison-raised";throw e
    if touched then rule "list.sort.modified";raiseError "ValueError" "list modified during sort"
    ret .none) F E {s with heap:=((s.heap.update a (fH λ_=>#[])).push (dI "tuple" c.toArray 0)).push (dI "list" #[] 0)}:=λd m p u=>by
  refine ap (seqEpoch_at l rfl ?_);refine ap (yu l rfl ?_ (hsz2:=by refine cA (ke ((Array.size_map ..).trans (p.size_eq.trans (pairsOf_size _)))) (Nat.le_succ_of_le x)));rw[m];simp only[bne_self_eq_false,kg,if_false];exact aE (h d p u)
 by_cases g:c.toArray.size<2
 .rw[if_pos g,if_pos g];refine ap (aE ?_);refine ap (aE ?_);refine f (SortSt.mk' general' (c.toArray.zip c.toArray) #[] 7 ae) rfl (Array.Perm.refl _) λi j M D=>?_;have:i=j:=by rw[pairsOf_size]at D;rw[bY]at g;lia
  subst this;exact kl _
 .rw[if_neg g,if_neg g];obtain⟨G,H⟩:=C _ keep (by rw[bY]at g;lia);refine ap (H ?_);refine ap (cW (ER (κ:=κ) (kz:=kz) G (st:=SortSt.mk' kz (c.toArray.zip c.toArray) #[] 7 ae) (Q:=λ_ d=>SB kz d/\(arrOf d).toList.Perm (km c).toList/\Run κ (arrOf d) 0 (km c).size) ⟨rfl,rfl⟩ (KeysOf.all I) rfl λd L K J=>⟨L,K,J⟩) ?_ λ_ _ e=>e);rintro⟨⟨⟩,d⟩ s' ⟨rfl,m,p,u⟩;have z:(arrOf d).Perm (km c):=Dk.mpr p;exact f d m.failed z (u.sortedTo (by rw[z.size_eq];exact a8 _))
theorem Kl{g:KeyKind}(o:g.OneLt){a:af}{d:List ah}{n:Nat}{F:Fin->am->Prop}(m:s.heap.get? a=aa (dI "list" d.toArray n))(p:KeysOf g (km d)) (j:∀c b rest,d=c::b::rest->keyKind' (c::b::rest).toArray=pure oneType') (l:d.length<=1000000)(h:∀i:bi,(arrOf i).Perm (km d)->SortedToK g (arrOf i) (km d).size->F (.done (.ret .none)) {s with heap:=sortedHeap s.heap a d ((arrOf i).map (·.2))}):aq (au P w) A (Builtin.«list.sort» ⟨[.ref a],[]⟩) F E s :=
 EX m p l (λr _ f=>⟨OneLt.ok o,λq=>by
  obtain⟨c,b,rest,rfl⟩:∃c b rest,d=c::b::rest:=by
   match d,f with
   |[],f=>simp at f
   |[_],f=>simp at f
   |c::b::rest,_=>exact⟨c,b,rest,rfl⟩
  rw[j _ _ _ rfl];exact aE q⟩) h
theorem AD{v:ah}{Q:ah->am->Prop}(u:aq (au P w) A.in1 (collect v) (λd s1=>∃ss:List Str,dz d ss/\d.length<=1000000/\∀(i:az) (out:Array ah) (f:List Str) (e:Nat),(∀b o,s1.heap.get? b=aa o->i.get? b=aa o) -> i.get? s1.heap.objs.size=aa (dI "list" out e)->dz out.toList f->f.Perm ss->sortedS f=ai->Q (.ref s1.heap.objs.size) {s1 with heap:=i}) E s):aq (au P w) A (call (.builtin "sorted") [v]) Q E s:=by refine Calls.call_function_entry kind_sorted plain_sorted entry_sorted (args_sorted1 _) ?_;unfold Builtin.«sorted»;refine ap (m:=checkCount "sorted" 1 1 _) (aE ?_);refine ap (aQ u λd s1 ⟨ss,h,p,j⟩=>?_);refine ap (wpAny_newList ?_);have g:(s1.heap.push (dI "list" d.toArray 0)).get? s1.heap.objs.size=aa (dI "list" d.toArray 0):=cu _ rfl;refine ap (ig (rP slot_list_sort ⟨_,g,rfl⟩ entry_list_sort (Kl strKind_oneLt g h.keysOf (λa b c e=>keyKind_strs (by rw[<-e];exact h)) p λx r q=>⟨_,rfl,?_⟩) (args_list_sort _)));obtain⟨f,B,z,y⟩:=sorted_out_str h r q;obtain⟨e,t⟩:=sortedHeap_at (out:=(arrOf x).map (·.2)) g;refine aE ⟨_,rfl,j _ _ f e (λb o l=>?_) t B z y⟩;have n:b<s1.heap.objs.size:=bE l;rw[sortedHeap_old (cM n) (by rw[iC];exact ki n)];exact bd _ l
end
section
variable{X:Cx}
theorem Inv.sorted2{h:List (af×Obj)}{g:St}{H:Hp}{s1:am}{c:List Tx}{ss d:List Str}{f:az}{a:Array ah}{e:Nat}(I:Inv X h g H s1)(l:ss=c.map tS)(s:c.length<=1000000)(k:∀b o,s1.heap.get? b=aa o->f.get? b=aa o) (j:f.get? s1.heap.objs.size=aa (dI "list" a e)) (r:dz a.toList d) (q:d.Perm ss) (p:sortedS d=ai):Inv X h g (upd H s1.heap.objs.size (.lst (cE (bx c)))) {s1 with heap:=f}:=by
 have n:d.map (λz=>z.cps.toList)=bx c:=by
  refine BB ?_ (K6 p);have:=q.map λz=>z.cps.toList;rw[l,iE]at this;have m:(c.map ((λz:Str=>z.cps.toList) ∘ tS))=c:=by simp[Function.comp_def,lX]
  rw[m]at this;exact this
 have i:bq (cE (bx c)) a.toList:=by rw[<-n];exact A9 r
 refine I.laid (t':=s1.toks) k (a8 _) ⟨?_,a.toList,e,i,?_⟩
 .rw[xn,w8];exact kZ (wq ∅)
 .rw[Array.toArray_toList];exact j
theorem vR:d8 X (.builtin "sorted") (λxs H Q=>∃(p:af) (d:List Tx),xs=[.ref p]/\(b7 X.K H p (cE d)\/b_ X.K H p (cE d))/\d.length<=1000000/\∀l,H l=ae->Q (.ref l) (upd H l (.lst (cE (bx d))))):=by
 intro E s v H xs K Q I r h;obtain⟨p,d,rfl,f,z,q⟩:=h;obtain⟨u,rfl,w⟩:=vals1 r;cases w;have b:∀(T:String) (o:Obj) (a:List ah) (n:Nat),(T = "list"\/T = "tuple")->s.heap.get? p=aa o->o.cls=.type T->o.data=.seq a.toArray n->bq (cE d) a ->
   aq (au X.prog X.w) X.A (call (.builtin "sorted") [Value.ref p]) (EP X E v Q) X.xe s:=λT o a n D j i g c=>by
  have C:=c.length;rw[xn]at C;have m:=wq (n:=a.length) ∅;refine AD (wpAny_collect_seq p D j i g (λL A=>?_) (by rw[bY];lia));have t:=I.kept (t':=s.toks) A;refine⟨_,vF c,by rw[va];lia,λM y N e k j J G F=>?_⟩;exact⟨.ref _,_,Inv.sorted2 t rfl z k j J G F,rfl,q _ t.fresh⟩
 rcases f with f|f
 .obtain⟨a,c,x,B⟩:=I.list f;obtain⟨o,e,i,n,g⟩:=x.isList;exact b "list" o a n (.inl rfl) e i g c
 .obtain⟨a,c,⟨o,e,i,n,g⟩,B⟩:=I.tuple f;exact b "tuple" o a n (.inr rfl) e i g c
end
end L2
namespace Pu
open L2
section
variable{X:Cx}{K:aw}
def nq:List PV->Option PO
 |[.lst xs]=>(fz xs).bind λa=>if a.length<=1000000 then aa (.lst (ao (bx a)))else ae
 |[.tup xs]=>(fz xs).bind λa=>if a.length<=1000000 then aa (.lst (ao (bx a)))else ae
 |_=>ae
theorem xK:kH K (λxs H Q=>∃(p:af) (b:List Tx),xs=[.ref p]/\(b7 K H p (cE b)\/b_ K H p (cE b))/\b.length<=1000000/\∀l,H l=ae->Q (.ref l) (upd H l (.lst (cE (bx b))))) nq:=λF H xs w Q n u m e q=>by
 have f:∀{g:List PV}{c:List V}{a:af},((fz g).bind λb=>if b.length<=1000000 then aa (PO.lst (ao (bx b)))else ae)=aa n->aZ K H F g c->(b7 K H a c\/b_ K H a c) ->
   ∃(p:af) (b:List Tx),[V.ref a]=[.ref p]/\(b7 K H p (cE b)\/b_ K H p (cE b))/\b.length<=1000000/\∀l,H l=ae->Q (.ref l) (upd H l (.lst (cE (bx b)))):=λ{g c a} e d s=>by
  cases h:fz g with
  |none=>rw[h]at e;cases e
  |some b=>
   rw[h]at e;simp only[gh]at e;split at e
   .rename_i o;cases e;rw[qh h]at d;obtain⟨rfl,t⟩:=L7.mp d;refine⟨a,b,rfl,s,o,λl i=>q l F _ _ (Al.new0 i) (tX i (L7.mpr ⟨rfl,λx r=>t x ((iL b).mem_iff.mp r)⟩)) (ub i u trivial)⟩
   .cases e
 unfold nq at e;split at e
 .obtain⟨v,rfl,a,c,rfl,j,_,d⟩:=gC m;exact f e d (.inl (.inl j))
 .obtain⟨v,rfl,a,c,rfl,j,d⟩:=gC m;exact f e d (.inr (b_.of j))
 .cases e
end
end Pu
namespace L2
def tG(a:Int)(n:Nat):It:=⟨λi _=>i<n,λi H x b=>b=H/\x=.int (a-i),λi _=>n<=i⟩
theorem GY{P:aN}{w:aD}{K:aw}{G:aA}(c:af)(f:Int)(n:Nat):oR P w K G (tG f n) [c] c (λi h=>xY h c (f+(i:Nat) * -1) ((n:Int)-(i:Nat)) (-1)) where
 mem:=by simp
 obj:=λi h a b d=>by
  have e:b=c:=by simpa using d
  subst e;exact⟨_,a,λv z=>by
   have F:Data.fields _=Data.cell v:=z;cases F⟩
 keep:=λi h j a k=>k c (by simp) _ a
 item:=by intro X q l r p i D s A H E I g a m;subst q l r;obtain⟨y,x,f2,f3,f4,u⟩:=g c (by simp);have W:=Walks.range (prog:=X.prog) (w:=X.w) (I.ok.hd p) c f (-1) n;refine W.item i s _ _ m a λv j B L C J=>?_;obtain⟨t,rfl⟩:=L;have N:Inv X D A H {s with heap:=j,toks:=B}:=I.turned (λb o d e=>J b o (by simpa using d) e) y x f3 f4 u;refine⟨_,rfl,qi (s:={s with heap:=j,toks:=B}) (n:="range_iterator") C rfl rfl (by decide) ⟨.int (f-i),H,N,⟨t,?_⟩,⟨rfl,rfl⟩,C,λb d=>(g b d).1⟩⟩;rw[show f+(i:Int) * -1=f-i by lia]
 done:=by intro X q l r p i D s A H E I g a m;subst q l r;obtain⟨y,x,f2,f3,f4,u⟩:=g c (by simp);exact wpAny_pyNext_range_end (I.ok.hd p) a (by have:n<=i:=m;lia) λj M=>⟨rfl,I.turned (t':=s.toks) (λb o d e=>M b o d e) y x f3 f4 u⟩
 self:=λ_ _ _ _ _ a h=>wpAny_pyIter_rangeiter a h
theorem rangeSize_down(a b:Int):xZ a b (-1)=if a > b then a-b else 0:=by
 unfold xZ;rw[if_neg (by decide)];split
 .rw[show(- -1:Int)=1 from rfl,Int.ediv_one];lia
 .rfl
theorem small_down{a b:Int}(g:-(2^62)<=a)(c:a<2^62)(f:-(2^62)<=b)(d:b<2^62):Builtin.Range.small a b (-1)=ai:=by unfold Builtin.Range.small;rw[rangeSize_down];simp only[Builtin.Range.rangeFitsLong,eB,vd,decide_eq_true_eq,beq_iff_eq,show ¬((-1:Int) > 0) by decide,if_false];split <;> lia
section
variable{X:Cx}{d:aA}
theorem Ke{h:List (af×Obj)}{f:St}{H:Hp}{s:am}{R:It->Hp->Prop}{E:ah->am->Prop}{c a:Int}{t u v:Tok}{g:Nat}(I:Inv X h f H s)(p:-(2^62)<=a)(n:a<2^62)(m:-(2^62)<=c)(l:c<2^62)(q:R (tG a (a-c).toNat) H):aq (au X.prog X.w) X.A (k_ (.ref s.heap.objs.size)) (ql X h f d R) E {s with heap:=s.heap.push {cls:=.type "range",data:=.fields #[.int a t,.int c u,.int (-1) v]},toks:=g}:=by
 refine wpAny_pyIter_range (IsRange.new ..) (small_down p n m l) ?_;have i:Inv X h f H {s with heap:=s.heap.push {cls:=.type "range",data:=.fields #[.int a t,.int c u,.int (-1) v]},toks:=g}:=I.kept λb o e=>bd _ e;refine⟨(s.heap.push {cls:=.type "range",data:=.fields #[.int a t,.int c u,.int (-1) v]}).objs.size,[(s.heap.push {cls:=.type "range",data:=.fields #[.int a t,.int c u,.int (-1) v]}).objs.size],_,_,H,rfl,i.kept (t':=g) λb o e=>bd _ e,GY _ a (a-c).toNat,?_,λb j=>?_,q⟩
 .have w:a+((0:Nat):Int) * -1=a:=by simp
  have r:(((a-c).toNat:Nat):Int)-((0:Nat):Int)=xZ a c (-1):=by rw[rangeSize_down];split <;> lia
  show xY _ _ (a+((0:Nat):Int) * -1) ((((a-c).toNat:Nat):Int)-((0:Nat):Int)) (-1);rw[w,r];exact cu _ rfl
 .have e:b=(s.heap.push {cls:=.type "range",data:=.fields #[.int a t,.int c u,.int (-1) v]}).objs.size:=by simpa using j
  subst e;exact i.fpOk (a8 _) (i.hok.fresh (a8 _))
def HP(c:TA):TI:=λa H R=>c a H λb f=>∃i j:Int,b=[.int i,.int j,.int (-1)]/\(-(2^62)<=i/\i<2^62/\-(2^62)<=j/\j<2^62)/\R (tG i (i-j).toNat) f
theorem IY{a b c:aA}{n:TA}{p g:Pos}(D:Gl X "range")(C:X.mg "range"=ae)(E:PA X [a,b,c] n)(B:aI [a,b,c] X.env=[(aj,aM a X.env),(aj,aM b X.env),(aj,aM c X.env)]:=by rfl)(o:aI [b,c] X.env=[(aj,aM b X.env),(aj,aM c X.env)]:=by rfl):PI X d (.Call (.Name "range" p) [a,b,c] [] g) (HP n):=by
 intro F s u H R I h;refine Call_ (pq I D C boot_range (CG (aQ (E g F s u H _ I h) λK M ⟨J,N,G,w,m⟩=>?_) (by rw[B,o]) (by rw[o];rfl)));obtain⟨i,j,e,⟨m,A,z,y⟩,q⟩:=m;subst e;cases w with
 |cons r f=>
  cases f with
  |cons x f=>
   cases f with
   |cons l f=>
    cases f;obtain⟨t,rfl⟩:=r;obtain⟨L,rfl⟩:=x;obtain⟨v,rfl⟩:=l;exact call_range_3 (by decide) (Ke G m A z y q) (.inl (PyProof.noPylong_small (by decide)))
def py(a:Int)(n:Nat):List V:=(cz n).map λi=>V.int (a-(i:Nat))
theorem v4(a:Int)(n:Nat):(py a n).length=n:=by simp[py]
theorem Gq{a:Int}{n:Nat}:Walk (tG a n) (py a n) (λ_=>True):=λH _ i=>by
 refine⟨λx b=>?_,λa=>by rw[v4]at a;exact ke a.symm⟩;have c:i<n:=by have:=(cJ.mp b).1;rw[v4]at this;exact this
 refine⟨c,λy g z=>⟨z.1,?_⟩⟩;unfold py at b;rw[jE,CY c]at b;have f:V.int (a-(i:Nat))=x:=dw b;rw[z.2,<-f]
end
end L2
namespace Pu
open L2
section
variable{X:Cx}{K:aw}{E:XK}{m l a b c e:aA}{d:ak->R PV}{g:ak->R (List PV)}{p f o:Pos}
def j8(h:Int)(n:Nat):List PV:=(cz n).map λi=>PV.int (h-(i:Nat))
theorem Jv{H:Hp}{F:af->Prop}(h:Int)(n:Nat):aZ K H F (j8 h n) (py h n):=by
 unfold j8 py
 induction (cz n)with
 |nil=>rfl
 |cons x xs i=>exact⟨_,_,rfl,rfl,i⟩
def qo:List PV->Option (List PV)
 |[.int i,.int j,.int c]=>if c=-1/\j<=1000000/\-1000000<=j/\i<=1000000/\-1000000<=i then aa (j8 i (i-j).toNat)else ae
 |_=>ae
theorem ED(D:X.mg "range"=ae)(I:DA X E [a,b,c] g)(G:Gl X "range":=by rfl)(C:aI [a,b,c] X.env=[(aj,aM a X.env),(aj,aM b X.env),(aj,aM c X.env)]:=by rfl)(A:aI [b,c] X.env=[(aj,aM b X.env),(aj,aM c X.env)]:=by rfl):DI X E m (.Call (.Name "range" p) [a,b,c] [] f) (dL qo g):=λF S w r H Rr x h=>by
 refine zS (IY G D fv C A) (I F S w r H _ x ((Ok.bind h).imp λxs s T P Q y Z n W B=>?_));unfold qo at n;split at n
 .rename_i i j c;split at n
  .rename_i q;obtain⟨v,Y,rfl,O,N⟩:=B;obtain⟨u,z,rfl,M,L⟩:=N;obtain⟨t,rfl,J⟩:=gC L;obtain⟨rfl,q⟩:=q;refine⟨i,j,by rw[show v=V.int i from O,show u=V.int j from M,show t=V.int (-1)from J],⟨∅,∅,∅,∅⟩,n T P Q y (bf.refl ..) _ _ _ (Jv i (i-j).toNat) (by rw[v4,nG];lia) Gq λ_ _ _ _=>trivial⟩
  .exact n.elim
 .exact n.elim
end
end Pu
namespace L2
section
variable{X:Cx}
theorem Ho(v:X.calm=ai):d8 X (.builtin "sorted") (λxs H Q=>∃(p:af) (a:List Tx),xs=[.ref p]/\H p=aa (mO X p a)/\a.length<4000/\∀l,H l=ae->Q (.ref l) (upd H l (.lst (cE (bx a))))):=by
 intro A s f H xs E Q I r h;obtain⟨p,a,rfl,o,F,q⟩:=h;obtain⟨u,rfl,i⟩:=vals1 r;cases i;obtain⟨S,_,_⟩:=(show c_ X.prog X.w H s.heap p (mO X p a)from I.hok p _ o)
 refine AD (Hr (yV (I.ok.hd v)) S λg D ss C B K k y x=>?_);obtain⟨c,g',d',t',m⟩:=g;obtain rfl:g'=s.gens:=y;obtain rfl:m=s.os:=x;have d:Inv X A f H {s with heap:=c,drawn:=d',toks:=t'}:=by have:=Inv.call (ch:=[]) I (g':=s.gens) (d':=d') (t':=t') (Un.kept (fs:=dU X.stack) (ex:=[]) k) (I.hok.kept k) I.bare (λb w=>absurd w (by simp));exact this
 refine⟨ss,C,∅,λG j J e n t b1 b2 z=>?_⟩;exact⟨.ref _,_,Inv.sorted2 (s1:={s with heap:=c,drawn:=d',toks:=t'}) (ss:=a.map tS) d rfl ∅ n t b1 (b2.trans B) z,rfl,q _ d.fresh⟩
end
end L2
namespace Pu
open L2
section
variable{X:Cx}{E:XK}{d:List Nat}{e j:aA}{m f:ak->R (List PV)}{c p q b i g a:Pos}
theorem Jb(l:List Tx):(cC l).Nodup:=by
 unfold cC;have:∀(l n:List Tx),n.Nodup->(l.foldl (λks x=>if x∈ks then ks else ks++[x]) n).Nodup:=by
  intro l
  induction l with
  |nil=>exact λn h=>h
  |cons x l r=>
   intro n h;rw[nW];refine r _ ?_;split
   .exact h
   .rename_i t;rw[List.nodup_append];exact⟨h,by simp,λy s z o e=>by simp at o;subst o;subst e;exact t s⟩
 exact this l [] List.nodup_nil
def E9(X:Cx):List V->Hp->VK->Prop:=λxs H Q=>∃(p:af) (h:List Tx),xs=[.ref p]/\H p=aa (mO X p h)/\h.length<4000/\∀l,H l=ae->Q (.ref l) (upd H l (.lst (cE (bx h))))
end
end Pu
namespace Mx
def F5:Nat->Nat->Nat
 |0,x=>x
 |n+1,x=>F5 n (5*x+1)
end Mx
namespace L2
theorem F6{d:Pos}{a b:Int}{c g:ah}(l:List ah)(h:TriplesOk l)(e:rG d (l++[cO a,cO b,c])=aa g):rG d l=aa g\/g=c:=by
 fun_induction TriplesOk l with
 |case1=>simp[rG,cO]at e;exact .inr e.2.symm
 |case2 o t n u x rest i=>
  simp only[n8,rG]at e ⊢;split at e
  .rename_i f;rw[if_pos f];exact .inl e
  .rename_i f;rw[if_neg f];exact i h e
 |case3 l m j=>exact h.elim
section
variable{X:Cx}{i:List (af×Obj)}{d:St}{H:Hp}{s:am}
structure tY(X:Cx)(x:Str)(c P:af):Prop where
 mem:x∈rj
 tab:jy X.K x=aa (c,P)
 hd:u7 X.K c P=ai
 code:X.env.code=.ref c
theorem Kk(I:Inv X i d H s){x:Str}{c P:af}(L:tY X x c P){j:nL}{y:aA}{l:cN}{F:Pos}{w:List (Str×af)}(hq:X.env.qual++"<lambda>"=x++".<locals>.<lambda>") (mz:u8 l X.env=pure w) (sv:defaultsOf j X.env=([],[])) {Q:ah->am->Prop}(h:∀f c' p H' Y,Inv X i d H' Y->(∀b o,H b=aa o->H' b=aa o)->Y.heap.get? f=aa (yC "<lambda>" (X.env.qual++"<lambda>") j y l w ((X.mg "__name__").getD .none) c' p)->f≠X.env.locals -> Y.heap.CodeRec (.ref c') (X.env.qual++"<lambda>")->c'≠X.env.locals->Q (.ref f) Y):aq (au X.prog X.w) X.A (aM (.Lambda j y l F) X.env) Q X.xe s:=by
 have M:=I.tab x L.mem c P L.tab;obtain⟨ps,hP,C,g⟩:=I.hok P _ M;have J:s.heap.Ns bA X.mg:=I.mod.glob.keeps I.bk;have hgP:bA≠P:=λz=>by
  obtain⟨o,es,ep,e,Z,_⟩:=J;rw[z,hP]at e;cases e;cases Z
 have S:s.heap.BuiltinsAt X.mg P:=by
  obtain⟨bm,ob,b1,b2,b3,b4,b5,b6⟩:=I.mod.bm;refine⟨bm,ob,b1,b2,λz=>?_,λz=>?_,I.bk _ _ b3,b4,b5,b6⟩
  .obtain⟨o,es,ep,e,Z,_⟩:=I.mod.glob;rw[<-z,b3]at e;cases e;rw[b6]at Z;cases Z
  .have e:=I.bk _ _ b3;rw[z,hP]at e;cases e;simp at b4
 have hC:=PySem.W.codeHd_of_K I.kIn L.hd;have Lne:X.env.locals≠P:=λz=>by have:=I.free;rw[z,M]at this;cases this
 refine PySem.W.kla_eval sv ?_;cases hf:rG F ps.toList with
 |some cv=>
  obtain⟨A,rfl,il,vC⟩:=g F _ hf;refine PySem.W.kla_makeFunctionHit (mg:=X.mg) mz I.ok.glob J L.code hC hP C hf S λp W tk hk hsz=>?_;have D:∀b o,s.heap.get? b=aa o->(W.push (yC "<lambda>" (X.env.qual++"<lambda>") j y l w ((X.mg "__name__").getD .none) A p)).get? b=aa o:=λb o e=>bd _ (hk b o e);refine h _ A p H _ (I.un (Un.kept D) (I.hok.kept D)) (λ_ _ e=>e) (cu _ rfl) (ma (eu I.lt hsz)) ?_ λz=>?_
  .have G:s.heap.CodeRec (.ref A) (X.env.qual++"<lambda>"):=by rw[hq];exact vC
   exact G.keeps D
  .have:=I.free;rw[<-z,il]at this;cases this
 |none=>
  refine PySem.W.kla_makeFunction (mg:=X.mg) mz I.ok.glob J L.code hC hP C hf hgP S λA p W tk hx eN aX vC O=>?_;generalize ho:yC "<lambda>" (X.env.qual++"<lambda>") j y l w ((X.mg "__name__").getD .none) A p=fo;have D:∀b o,b≠P->s.heap.get? b=aa o->(W.push fo).get? b=aa o:=λb o n e=>bd _ (hx b o n e);have fr:H A=ae:=I.hok.fresh eN;have B:(W.push fo).CodeRec (.ref A) (X.env.qual++"<lambda>"):=vC.keeps λb o e=>bd _ e;have nP:∀b,H b=ae->b≠P:=λb n z=>by rw[z,M]at n;cases n
  have nc:∀b o,s.heap.get? b=aa o->b≠A:=λb o e=>cM (eu (bE e) eN);have E:∀b o,H b=aa o->(upd H A (.own P)) b=aa o:=λb o e=>by rw[bM (jX e fr)];exact e
  have I':Inv X i d (upd H A (.own P)) {s with heap:=W.push fo,gens:=s.gens,drawn:=s.drawn,toks:=tk}:=by
   refine I.step (ch:=[]) (λ_ z=>nomatch z) (λb o _ _ _ e n=>D b o (nP b n) e) (λb o _ _ _ e n=>⟨o.slots,D b o (nP b n) e⟩) (λb o _ e n=>by rw[bM (nc b o e)];exact n)
    (λb o _ e=>?_) (λb xs e=>E b _ e) (λb o u e=>E b _ e) (λb q e=>E b _ e) (λm hm=>?_) (λa u e=>?_) I.bare
   .by_cases T:b=P
    .subst T;exact⟨_,bd _ O⟩
    .exact⟨o,D b o T e⟩
   .exact(hm.extBut hx Lne).push _
   .by_cases ha:a=A
    .subst ha;rw[cI]at e;cases e;obtain⟨_,o,_,_,z,e2,_⟩:=B;cases z;exact⟨o,e2⟩
    .rw[bM ha]at e;by_cases T:a=P
     .subst T;rw[M]at e;cases e;refine⟨_,bd _ O,by rw[gi];exact TriplesOk_snoc _ _ _ _ C,λN cv K=>?_⟩;rw[gi]at K;rcases F6 _ C K with z|rfl
      .obtain⟨c2,rfl,h1,h2⟩:=g N cv z;refine⟨c2,rfl,E c2 _ h1,?_⟩;obtain⟨c3,o,vs,t,z,e2,r⟩:=h2;cases z;exact⟨c2,o,vs,t,rfl,D c2 o (λz=>by rw[z,M]at h1;cases h1) e2,r⟩
      .exact⟨A,rfl,cI,hq ▸ B⟩
     .refine(I.hok a u e).stay (λb v K r=>D b v ?_ r) (λb r=>E b _ r) λb xs r=>E b _ r;rcases K with rfl|K
      .exact T
      .rintro rfl;rw[M]at K;cases K
  exact h _ A p _ _ I' E (by rw[<-ho];exact cu _ rfl) (ma (eu I.lt (cA eN (kZ aX)))) B (ma (eu I.lt eN))
end
open Att
theorem BG:∀{xs:List V}{vs:List ah}{i:Nat}{v:ah},bq xs vs->vs[i]?=aa v->∃x,xs[i]?=aa x/\RelV x v
 |_,_,_,_,.nil,e=>by simp at e
 |_,_,0,_,.cons h _,e=>by simp at e;subst e;exact⟨_,rfl,h⟩
 |_,_,i+1,_,.cons _ t,e=>by obtain⟨x,a,b⟩:=BG (i:=i) t (by simpa using e);exact⟨x,by simpa using a,b⟩
section
variable{X:Cx}{d:List (af×Obj)}{c:St}{H:Hp}{s:am}
theorem Inv.mapKept{i:az}{l:Nat}{m:Str->Option ah}(I:Inv X d c H s)(t:s.heap.Ns X.env.locals m)(f:i.Ns X.env.locals m)(k:∀b o,b≠X.env.locals->s.heap.get? b=aa o->i.get? b=aa o):Inv X d c H {s with heap:=i,toks:=l}:=by
 refine I.step (g':=s.gens) (d':=s.drawn) (ch:=[]) (λ_ z=>nomatch z) (λb o h _ _ e _=>k b o h e) (λb o h _ _ e _=>⟨o.slots,k b o h e⟩) (λ_ _ _ _ n=>n) (λb o _ e=>?_) (λ_ _ e=>e) (λ_ _ _ e=>e) (λ_ _ e=>e) (λq w=>?_) (λa u e=>?_) I.bare
 .by_cases j:b=X.env.locals
  .subst j;obtain⟨p,_,_,x,_⟩:=f;exact⟨p,x⟩
  .exact⟨o,k b o j e⟩
 .have:q=m:=w.eq_nsMap.trans t.eq_nsMap.symm;rw[this];exact f
 .refine(I.hok a u e).stay (λb v g r=>k b v ?_ r) (λ_ r=>r) λ_ _ r=>r;rintro rfl;have:=I.free;rcases g with rfl|g
  .rw[e]at this;cases this
  .rw[g]at this;cases this
end
end L2
namespace Pu
open L2
structure xx(K:aw)(mg:Str->Option ah)(x:Str)(c T:af):Prop where
 tab:jy K x=aa (c,T)
 hd:u7 K c T=ai
 code:∀f fd oc od osl,mg x=aa (.ref f)->K.lookup f=aa ⟨oc,od,.func fd,osl⟩->fd.code=.ref c
theorem Jd{K:aw}{h:az}{b:Str->Option ah}{x:Str}{c T:af}(X:K.In h)(G:h.Ns bA b)(a:jy K x=aa (c,T))(l:u7 K c T=ai):xx K b x c T:=by
 refine⟨a,l,λf o oc n g i j=>?_⟩;unfold jy at a;split at a
 .rename_i p e;have d:=eM X G e;rw[i]at d;cases d;rw[j]at a;dsimp only at a;split at a
  .rename_i q m;split at a
   .split at a
    .cases a;exact m
    .cases a
   .cases a
  .cases a
 .cases a
theorem JZ{y:eJ}{P:aN}{w:aD}{K:aw}{m:Str->Option ah}{b:az}{x:Str}{j:aU}{N l:List Str}{k n:Nat}{d:ak->R aP}{pin:List Nat}(Y:∃c T,xx K m x c T)(J:x∈rj)(D:cq K m x j)(X:b0 N l (aT j))(O:N.length=l.length+n)(C:∀(kV v F:ah) (W:Option af) (o S:ah) (q:List ah),q.length=l.length->dY (ge x x (iy j) (dX j) (aT j) .none kV v F W o S) ⟨q,[]⟩=pure (l.zip q))(Q:∀(f:af) (o:ah) (c T:af) (A:aJ) (a:List Env) (s:am) (H:Hp) (E:XK),Room k (A.deeper (gU x (aT j) s.heap.objs.size f o))->tY (fX y P w K m b N x (aT j) f o A a s H E) x c T->eO (fX y P w K m b N x (aT j) f o A a s H E) E pin (dX j) d):cD y P w K m b x (k+1) l (bH K (bw l.length pin (bC n d))):=by
 have no:∀{g},bw l.length pin (bC n d) g≠.no->g.length=l.length/\dW pin 0 g=ai:=λ{g} h=>by
  unfold bw at h;by_cases z:g.length=l.length/\dW pin 0 g=ai
  .exact z
  .rw[if_neg z]at h;exact absurd rfl h
 obtain⟨f,u,B,p⟩:=D.ex;obtain⟨c,T,L⟩:=Y;refine⟨f,u,B,zc p X O C (λg h=>(no h).1) (λg h i r e=>by have:=(lO (no h).2 i r e).1;rwa[r9]at this) (λg Z aG h=>.inr λi r e=>(lO (no (by rw[h];exact nofun)).2 i r e).2) (λg h=>by unfold bw;rw[if_pos (no h)]) λA a s H E M=>?_,p.binds C,p.kp⟩;obtain⟨oc,G,_,_,_,_,_,_,t,_,I,_⟩:=p.ex;exact Q f u.code c T A a s H E M ⟨J,L.tab,L.hd,L.code f u oc G t B I⟩
end Pu
theorem L2.Room.d1{k:Nat}{A:PySem.Around}(r:L2.Room k A):A.depth+1<PySem.recursionLimit:=by have:=r.dp;lia
namespace L2
open Mx
section
variable{P:aN}{w:aD}{A:aJ}{E:ah->am->Prop}{s:am}
structure Keyd(P:aN)(w:aD)(K:Type)[DecidableEq K] where
 is:az->K->ah->Prop
 hash:K->Int
 room:aJ->Prop
 keep:∀{h h':az}{k:K}{v:ah},is h k v->(∀b o,h.get? b=aa o->o.cls=.type "tuple"->h'.get? b=aa o)->is h' k v
 ref:∀{h:az}{k:K}{v:ah},is h k v->∃a o,v=.ref a/\h.get? a=aa o
 eqBool:∀{A:aJ}{E:ah->am->Prop}{s:am}{x y:K}{u v:ah}{Q:Bool->am->Prop},room A->is s.heap x u->is s.heap y v->Q (decide (x=y)) s->aq (au P w) A (PySem.eqBool u v) Q E s
 quiet:∀{A:aJ}{E:ah->am->Prop}{s:am}{k:K}{v:ah}{Q:Bool->am->Prop},is s.heap k v->Q ai s->aq (au P w) A (sd 8 v) Q E s
 cls:∀{A:aJ}{E:ah->am->Prop}{s:am}{k:K}{v:ah}{Q:Bool->am->Prop},is s.heap k v->Q aj s->aq (au P w) A (ofAClassStatement 8 v) Q E s
 hbv:∀{A:aJ}{E:ah->am->Prop}{s:am}{k:K}{v:ah}{Q:Bool->am->Prop},is s.heap k v->Q aj s->aq (au P w) A (hashByValue 8 v) Q E s
variable{K:Type}[DecidableEq K]{c:Keyd P w K}
end
section
variable{P:aN}{w:aD}{A:aJ}{E:ah->am->Prop}{s:am}
theorem tupTy{a:af}{b:Array ah}(h:IsTup s.heap a b):s.TypeIs (.ref a) "tuple":=let ⟨o,ho,hc,_⟩:=h;⟨o,ho,hc⟩
theorem quiet_tup{n:Nat}{a:af}{b:Array ah}{Q:Bool->am->Prop}(j:IsTup s.heap a b)(q:∀v∈b.toList,∀(E:ah->am->Prop) (Q:Bool->am->Prop),Q ai s->aq (au P w) A (sd n v) Q E s)(h:Q ai s):aq (au P w) A (sd (n+1) (.ref a)) Q E s:=by
 have g:=tupTy j;obtain⟨o,p,_,m,t⟩:=j;unfold sd;refine ap (u6 g F.slot_tuple_eq.lookup ?_);show aq _ _ (vf (.ref a) (.type "tuple") >>= _) _ _ s;refine ap (C7 g isSubtype_tuple_tuple ?_);simp only[Bool.not_true,kg,if_false];refine ap (vi p t ?_);refine ap ?_;show aq _ _ (forIn b _ _) _ _ s;rw[<-Array.forIn_toList];refine yD _ (λrest r c=>r.1=ae/\c=s/\∀v∈rest,v∈b.toList) _ ?_ ?_ _ _ ⟨rfl,rfl,λv l=>l⟩
 .rintro v rest r c ⟨f,rfl,i⟩;refine ap (q v (i v jz) _ _ ?_);simp only[Bool.not_true,kg,if_false];exact aE ⟨rfl,rfl,λu d=>i u (jh _ d)⟩
 .rintro⟨y,x⟩ c ⟨f,rfl,_⟩;simp only at f;subst f;exact aE h
theorem tup_uniq{h:az}{a:af}{x y:Array ah}(g:IsTup h a x)(f:IsTup h a y):x=y:=by
 obtain⟨o,e,_,n,d⟩:=g;obtain⟨i,b,_,j,c⟩:=f;rw[e]at b;cases b;rw[d]at c;cases c;rfl
theorem strs_uniq:∀{a:List ah}{x y:List Str},dz a x->dz a y->x=y
 |_,_,_,.nil,.nil=>rfl
 |_,_,_,.cons z t h,.cons _ _ b=>by rw[strs_uniq h b]
theorem all_getD{a b:List Str}:((cz (min a.length b.length)).all (λj=>a.getD j fA == b.getD j fA)&&a.length == b.length)=decide (a=b):=by
 rw[me,eB,lj,decide_eq_true_iff,beq_iff_eq];constructor
 .rintro⟨g,f⟩;refine List.ext_getElem f λi d c=>?_;have:=g i (List.mem_range.mpr ∅);rw[beq_iff_eq]at this;simpa[d,c]using this
 .rintro rfl;exact⟨λx _=>by simp,rfl⟩
theorem strs_len{a:List ah}{b:List Str}(h:dz a b):a.length=b.length:=h.length
theorem eq_strs{b h:af}{c a:Array ah}{i d:List Str}(u:A.units<cLine)(o:IsTup s.heap b c)(f:dz c.toList i)(p:IsTup s.heap h a)(g:dz a.toList d):rQ A s (.ref b) (.ref h) (decide (i=d)):=by
 by_cases n:b=h
 .subst n;obtain rfl:=tup_uniq o p;obtain rfl:=strs_uniq f g;rw[decide_eq_true rfl];exact .same _
 .have m:=strs_len f;have l:=strs_len g;rw[k9]at m l;rw[<-all_getD,<-m,<-l];refine .of_refs n (.tuples o p u λj r q=>?_);obtain⟨t,e⟩:=uk j c[j] f (by simp[r]);obtain⟨x,v⟩:=uk j a[j] g (by simp[q]);rw[e,v];exact CS _ _ _ _
theorem tup_kept{h d:az}{a:af}{x:Array ah}(f:IsTup h a x)(k:∀b o,h.get? b=aa o->o.cls=.type "tuple"->d.get? b=aa o):IsTup d a x:=by obtain⟨o,e,c,r⟩:=f;exact⟨o,k a o e c,c,r⟩
theorem strs_mem_shape{a:List ah}{b:List Str}(h:dz a b):∀v∈a,∃z t,v=Value.str z t:=λv c=>h.all v c
end
section
open PySem.SeqAt
open PySem.AutoSeq1 (wpAny_loadPart')
open PySem.MeetsSeq PySem.MeetsSeq2 PySem.MeetsSeq3
end
end L2
namespace Pu
open L2
abbrev L_:=List bR
end Pu
namespace L2
theorem Ic{P:aN}{w:aD}{A:aJ}{E:ah->am->Prop}{s:am}{t b:af}{f:List ah}{Q:ah->am->Prop}(v:IsTup s.heap t #[])(x:IsTup s.heap b f.toArray)(h:Q (.ref b) s):aq (au P w) A (gT .Add (.ref t) (.ref b)) Q E s:=by
 obtain⟨⟨z,y,p,r⟩,l,o,n,m⟩:=id v;obtain⟨⟨q,c,d,a⟩,j,i,u,g⟩:=id x;simp only at o m i g;subst o m i g;exact concat_meets ⟨_,l,rfl⟩ ⟨_,j,rfl⟩ CL seq_tuple_add CM CN (CO _ _)
  (tuple_addW0 t b #[] f.toArray n u y c r a rfl) ⟨l,j,h⟩
def xt(K:aw):R2:=λx y H Q=>∃a b c,x=.ref a/\y=.ref b/\b_ K H a []/\b_ K H b c/\Q (.ref b) H
theorem Mn{X:Cx}:bF X (gT .Add) (xt X.K):=by
 intro t s o H x y v u Q I f d h;obtain⟨a,b,p,rfl,rfl,n,m,q⟩:=h;cases f;cases d;obtain⟨l,g,j,_⟩:=I.tuple n;obtain⟨c,r,i,_⟩:=I.tuple m;cases g;exact Ic j i ⟨.ref b,H,I,rfl,q⟩
end L2
namespace Pu
open L2
theorem zr{X:Cx}:bF X (gT .Add) (λx y H Q=>xt X.K x y H Q\/tZ X.K x y H Q):=Mn.or eT
end Pu
namespace L2
section
variable{P:aN}{w:aD}{A:aJ}{E:ah->am->Prop}{s:am}
theorem Jj{h:az}{o:Obj}{l:af}{a:Array ah}(x:h.IsTuple l a):(h.push o).IsTuple l a:=let ⟨ob,e,r⟩:=x;⟨ob,bd _ e,r⟩
set_option maxRecDepth 100000 in
theorem HM{l:af}{a:Array ah}{Q:ah->am->Prop}(hh:A.handled=ae)(hl:s.heap.IsTuple l a){J:Nat->az->Prop}(hJ:∀i h d,J i h->(∀b o,b<=s.heap.objs.size->h.get? b=aa o->d.get? b=aa o)->J i d) (W:J 0 (s.heap.push {cls:=.type "set",dict:=ae,data:=.set #[] 0 (.fresh 0 0 (!cT w))}))(gY:∀(i:Nat) (v:ah) (f:am) (E:ah->am->Prop) (Q:Bool->am->Prop),i<a.size->a[i]?=aa v->J i f.heap->(∀d m b,f.toks<=m->jA s.heap.objs.size f.heap d->J (i+1) d->Q b {f with heap:=d,toks:=m})->aq (au P w) A.in1.in1.in1 (setAdd s.heap.objs.size v) Q E f)(h:∀(d:az) (m:Nat),J a.size d->(∀b o,b<s.heap.objs.size->s.heap.get? b=aa o->d.get? b=aa o)->Q (.ref s.heap.objs.size) {s with heap:=d,toks:=m}):aq (au P w) A (call (.type "set") [.ref l]) Q E s:=by
 obtain⟨c,tl,hmro⟩:=F.called_set.mro;have L:=F.called_set.made;have kn:=F.called_set.sub;refine rM (codeAny_of_tree ?_);show aq _ _ (callAny (.type "set") _) _ _ _;refine aE ⟨Code.quiet_builtin _ (by decide +kernel),mo F.entry_type_call ?_⟩;rw[Around.under_plain (weight_type_call_type "set" [.ref l] []) rfl];have h1:=F.called_set.notType;have h2:=F.called_set.canCreate;have hct:=PySem.F.typeCall_set_1 (.ref l)
 repeat any_goals (first|assumption|wp_step)
 refine nI (GL (P:=P) (w:=w) (.ref l) (E:=E) (Q:=λp f=>p=.ref s.heap.objs.size/\f={s with heap:=s.heap.push {cls:=.type "set",dict:=ae,data:=.set #[] 0 (.fresh 0 0 (!cT w))}}/\True) λS0=>⟨rfl,rfl,trivial⟩) λr f K=>?_;cases r with
 |error e=>exact K
 |ok fl=>
  cases fl with
  |ret p=>
   obtain⟨rfl,rfl,S0⟩:=K;have hS:=cu (h:=s.heap) (o:=({cls:=.type "set",dict:=ae,data:=.set #[] 0 (.fresh 0 0 (!cT w))}:Obj));have S:(s.heap.push {cls:=.type "set",dict:=ae,data:=.set #[] 0 (.fresh 0 0 (!cT w))}).get? s.heap.objs.size=aa {cls:=.type "set",dict:=ae,data:=.set #[] 0 (.fresh 0 0 (!cT w))}:=cu _ rfl;have hT:Shared.TypeIs {s with heap:=s.heap.push {cls:=.type "set",dict:=ae,data:=.set #[] 0 (.fresh 0 0 (!cT w))}} (.ref s.heap.objs.size) "set":=⟨_,S,rfl⟩
   have hli:=F.called_set.init.lookup;have hbi:=F.called_set.init.bind (.ref s.heap.objs.size)
   repeat any_goals (first|assumption|wp_step)
   refine nI (codeAny_call_builtin (R:=wants (λr Y=>r=.none/\∃d m,Y={s with heap:=d,toks:=m}/\J a.size d /\ (∀b o,b<s.heap.objs.size->s.heap.get? b=aa o->d.get? b=aa o)) E) F.called_set.init.plain F.entry_set_init (check_set_init_1 hT ?_)) λr2 Y D=>?_
   .obtain⟨⟨ocls,n,H,g⟩,t,mz,nl,y⟩:=hl;simp only at mz y;subst mz;subst y;have q:(s.heap.push {cls:=.type "set",dict:=ae,data:=.set #[] 0 (.fresh 0 0 (!cT w))}).get? l=aa {cls:=.type "tuple",dict:=n,data:=.seq a nl,slots:=g}:=bd _ t;have hsls:=PySem.F.sub_tuple_set;have hslf:=PySem.F.sub_tuple_frozenset;have cK:(Value.type "tuple" == Value.type "dict")=aj:=by decide
    have Z:(s.heap.push {cls:=.type "set",dict:=ae,data:=.set #[] 0 (.fresh 0 0 (!cT w))}).IsTuple l a:=⟨_,q,rfl,nl,rfl⟩
    unfold Builtin.«set.__init__» noKeywords Builtin.Frozenset.updateFrom;generalize T:k_=PI
    wp_walk
    subst T;refine wpAny_pyIter_tuple Z (ap (wpAny_runValue ?_));have x:l<s.heap.objs.size:=bE t;have N:A.in1.in1.in1.handled=ae:=by simp[hh]
    have j:(s.heap.push {cls:=.type "set",dict:=ae,data:=.set #[] 0 (.fresh 0 0 (!cT w))}).objs.size=s.heap.objs.size+1:=yi ..;have u:l≠(s.heap.push {cls:=.type "set",dict:=ae,data:=.set #[] 0 (.fresh 0 0 (!cT w))}).objs.size:=by rw[j];exact cM (ki x)
    have O:s.heap.objs.size∉[(s.heap.push {cls:=.type "set",dict:=ae,data:=.set #[] 0 (.fresh 0 0 (!cT w))}).objs.size,l]:=by rw[j];simp only[bT,fJ,iD,or_false,not_or];exact⟨cM (mq _),ma x⟩
    refine Gc ((Walks.tuple N _ l u a).toS) s.heap.objs.size O (λi h d M k=>hJ i h d M λb o B e=>k b o (by rw[j];simp only[fJ];exact cM (Nat.lt_succ_of_le B)) e) (λi v f E Q hi hv M hq=>gY i v f E Q hi hv M hq) (a.size-0) 0 _ ∅ (li _)
     ⟨⟨_,cu _ rfl,rfl,rfl⟩,(Jj Z)⟩ (hJ 0 _ _ W λb o _ e=>bd _ e) ?_
    intro s' z I;obtain⟨d,g',d',C,G⟩:=s';obtain rfl:g'=s.gens:=z.gens;obtain rfl:d'=s.drawn:=z.drawn;obtain rfl:G=s.os:=z.os;show aq _ _ _ _ _ _;refine aE ?_;show aq _ _ (ret Value.none) _ _ _;refine aE ⟨rfl,d,C,rfl,I,λb o B e=>z.heap b o ?_ (bd _ (bd _ e))⟩;rw[j];simp only[bT,fJ,iD,or_false,not_or];exact⟨cM B,cM (ki B)⟩
   .cases r2 with
    |error e=>exact D
    |ok X=>
     cases X with
     |ret r=>
      obtain⟨rfl,d,m,rfl,I,mF⟩:=D
      repeat any_goals (first|assumption|wp_step)
      exact h _ _ I mF
     |_=>exact D.elim
  |_=>exact K.elim
theorem He{l:af}{a:Array ah}{c:List Str}{Q:ah->am->Prop}(x:A.handled=ae)(r:s.heap.IsTuple l a)(u:dz a.toList c)(z:(met (λi=>c.getD i fA) a.size).length<4000)(h:∀(d:az) (j:Nat),jg P w d s.heap.objs.size (met (λi=>c.getD i fA) a.size)->(∀b o,b<s.heap.objs.size->s.heap.get? b=aa o->d.get? b=aa o)->Q (.ref s.heap.objs.size) {s with heap:=d,toks:=j}):aq (au P w) A (call (.type "set") [.ref l]) Q E s:=by
 refine HM x r (J:=λi h=>jg P w h s.heap.objs.size (met (λi=>c.getD i fA) i)) (λi h d S k=>S.at λo e=>k _ o (a8 _) e)
  ⟨#[],0,_,[],cu _ rfl,.nil,rW _,λe y=>by simp at y,by decide,rfl,rfl,λh=>absurd rfl h⟩ (λi v f E Q m p S q=>?_) h
 obtain⟨t,rfl⟩:=uk i v u (by rw[yB];exact p);unfold setAdd;refine ig ?_;have B:(iB P w).is (c.getD i fA) (.str (c.getD i fA) t)=ai:=by show pF _ (.str _ t)=ai;simp[pF]
 refine ap ((iB P w).pyHash (k:=c.getD i fA) B ?_);refine EW (s:={f with toks:=f.toks+1}) S (yh (Ao _ (kZ m)) z) λd b n g=>?_;rw[<-Bk (λi=>c.getD i fA)]at g;exact q d _ b (u9 _) n g
end
section
variable{X:Cx}
theorem KG(z:X.calm=ai):d8 X (.type "set") (λxs H Q=>∃(p:af) (c:List Tx),xs=[.ref p]/\b_ X.K H p (cE c)/\(cC c).length<4000/\∀a,H a=ae->Q (.ref a) (upd H a (mO X a (cC c)))):=by
 intro L s B H xs C Q I r h;obtain⟨p,c,rfl,x,f,q⟩:=h;obtain⟨u,rfl,l⟩:=vals1 r;cases l;obtain⟨d,g,v,E⟩:=I.tuple x;have y:=g.length;rw[xn]at y;refine He (P:=X.prog) (w:=X.w) (I.ok.hd z) v (by simpa using vF g) (by rw[bY,show d.length=c.length by lia,zq,fG];exact f) λA j S k=>?_;have i:jg X.prog X.w A s.heap.objs.size ((cC c).map tS):=by
  have e:d.toArray.size=c.length:=by rw[bY];lia
  rw[e,zq]at S;exact S
 refine⟨.ref s.heap.objs.size,_,I.laid (t':=j) (o:=mO X s.heap.objs.size (cC c)) (λb o e=>k b o (bE e) e) (a8 _) ?_,rfl,q _ I.fresh⟩;obtain⟨J,K,t,D,e,_⟩:=i.ex;exact⟨i,⟨_,e⟩,λG F n m=>n.at m⟩
end
end L2
namespace Pu
open L2
section
variable{X:Cx}{E:XK}{e:aA}{g:ak->R (List PV)}{p q f d:Pos}
def ny:List PV->Option PO
 |[.tup xs]=>(fz xs).bind λa=>if(cC a).length<4000 then aa (.lst (ao (bx (cC a))))else ae
 |_=>ae
def Fq(X:Cx)(r:List V->Hp->VK->Prop):List V->Hp->VK->Prop:=λxs H Q=>∃(p:af) (b:List Tx),xs=[.ref p]/\b_ X.K H p (cE b)/\(cC b).length<4000/\∀a,H a=ae->r [.ref a] (upd H a (mO X a (cC b))) Q
theorem E4:kH X.K (Fq X (E9 X)) ny:=λF H xs G Q J C t e q=>by
 unfold ny at e;split at e
 .obtain⟨v,rfl,a,I,rfl,B,r⟩:=gC t;obtain⟨i,D,m⟩:=Option.bind_eq_some_iff.mp e;rw[qh D]at r;obtain⟨rfl,y⟩:=L7.mp r;split at m
  .rename_i s;cases m;refine⟨a,i,rfl,b_.of B,s,λb A=>⟨b,cC i,rfl,cI,s,λl h=>?_⟩⟩;have j:l≠b:=by rintro rfl;rw[cI]at h;cases h
   have n:H l=ae:=by rw[bM j]at h;exact h
   have al:Al F F H (upd (upd H b (mO X b (cC i))) l (.lst (cE (bx (cC i))))):=(Al.new0 A).trans (Al.new0 h);refine q l F _ (λc=>c=l) al ⟨⟨_,cI,L7.mpr ⟨rfl,λx u=>y x ((oW _ _).mp ((iL _).mem_iff.mp u))⟩⟩,λc=>Iff.rfl⟩ λc z=>?_;subst z;exact⟨n,λz=>Exists.elim (C _ z) (λo w=>by rw[n]at w;cases w),_,cI,trivial⟩
  .cases m
 .cases e
theorem EF(c:X.calm=ai)(m:DA X E [e] g)(j:X.mg "sorted"=ae)(a:X.mg "set"=ae)(l:Gl X "sorted":=by rfl)(b:Gl X "set":=by rfl)(h:kN e=aj:=by rfl):DN X E (.Call (.Name "sorted" p) [.Call (.Name "set" q) [e] [] d] [] f) (dL ny g):=λF S r o H Q i n=>bO (rm (Ho c) l j uc (gE (xk (KG c) b a G6 fv (by decide) (by decide) (jR h) rfl) iR (jR rfl)) (by decide) (by decide) (jR rfl) rfl) (ud E4 m i n)
end
end Pu
namespace L2
open Mx
section
variable{P:aN}{w:aD}{A:aJ}{E:ah->am->Prop}{s:am}
def rf(P:aN)(w:aD)(A:aJ)(h:az)(v:ah)(x:Int)(d:Nat):Prop :=
 ∀(s:am) (E:ah->am->Prop) (Q:Int->am->Prop),s.heap=h->Q x {s with toks:=s.toks+d}->aq (au P w) A (pyHash v) Q E s
theorem Ac{h:az}{a:af}{f:Array ah}{hs:List (ah×Int×Nat)}(t:A.units<cLine)(r:IsTup h a f)(v:f.toList=hs.map (·.1))(y:∀p∈hs,rf P w A.in1 h p.1 p.2.1 p.2.2):rf P w A h (.ref a) (pG (j_ (hs.map (·.2.1)))) ((hs.map (·.2.2)).sum+1):=λs E Q B g=>by
 subst B;have j:s.TypeIs (.ref a) "tuple":=tupTy r;obtain⟨o,u,_,n,z⟩:=r;unfold pyHash
 first|unfold pyHashByItsType|skip
 first|refine ap (wpAny_cRoomFor_or (.inr t) ?_)|skip
 refine ap (u6 j F.slot_tuple_hash.lookup ?_);show aq _ _ (if(aa (Value.builtin "tuple.__hash__") == aa Value.none)=ai then _ else _) Q E _;rw[if_neg (by rw[beq_builtin_none];exact eA)];refine ap (u6 j F.slot_tuple_hash.lookup ?_);show aq _ _ (callSpecialIfBoundUnlessNone? (.ref a) "__hash__" _ >>= _) Q E _;refine ap (wpAny_callSpecialIfBoundUnlessNone?_slot j LI (rP LI j F.entry_tuple_hash ?_ (F.args_tuple_hash_1 _)));show aq _ _ (Builtin.Tuple.tupleItemsOf (.ref a) >>= _) _ _ _;refine ap (wpAny_tupleItemsOf u z ?_);refine ap ?_;rw[<-Array.forIn_toList,v];refine yD _
  (λrest (b:Array Int) q=>∃c d,hs=c++d/\rest=d.map (·.1)/\b.toList=c.map (·.2.1)/\q={s with toks:=s.toks+(c.map (·.2.2)).sum})
  _ ?_ ?_ _ _ ⟨[],hs,rfl,rfl,rfl,rfl⟩
 .rintro x rest b q ⟨c,d,rfl,i,m,rfl⟩;cases d with
  |nil=>cases i
  |cons p d=>
   rw[mn]at i;injection i with h1 h2;subst h1 h2;refine ap (y p (by simp) _ _ _ rfl ?_)
   first
    |exact aE ⟨c++[p],d,by simp,rfl,by simp[m],by simp[n5]⟩
    |exact ap (aE (aE ⟨c++[p],d,by simp,rfl,by simp[m],by simp[n5]⟩))
 .rintro b q ⟨c,d,rfl,i,m,rfl⟩;have:d=[]:=by cases d with|nil=>rfl|cons=>cases i
  subst this;rw[iA]at g;show aq _ _ (retInt (j_ b.toList)) _ _ _;rw[m];refine wpAny_ret_mkInt ?_;show aq _ _ (if(decide (-(2:Int)^63<=j_ (c.map (·.2.1)))&&decide (j_ (c.map (·.2.1))<2^63))=ai then _ else _) Q E _;unfold pG at g;by_cases l:(decide (-(2:Int)^63<=j_ (c.map (·.2.1)))&&decide (j_ (c.map (·.2.1))<2^63))=ai
  .rw[if_pos l];rw[if_pos l]at g;exact aE (by simpa[n5]using g)
  .rw[if_neg l];rw[if_neg l]at g;exact ap (lm (aE (by simpa[n5]using g)))
theorem zm{h:az}(z:Str)(t:Tok):rf P w A h (.str z t) (j9 w z) 1:=λs E Q _ a=>(iB P w).pyHash (s:=s) (k:=z) (by show pF z (.str z t)=ai;simp[pF]) a
def qx(h:az)(k:Str×List Str)(a:af):Prop:=∃(b:af) (t:Tok) (c:Array ah),IsTup h a #[.str k.1 t,.ref b]/\IsTup h b c/\dz c.toList k.2
theorem qx.inj{h:az}{k d:Str×List Str}{a:af}(x:qx h k a)(y:qx h d a):k=d:=by obtain⟨b,t,g,l,j,i⟩:=x;obtain⟨q,p,f,o,n,c⟩:=y;have:=congrArg Array.toList (tup_uniq l o);simp at this;obtain⟨⟨m,_⟩,rfl⟩:=this;obtain rfl:=tup_uniq j n;exact Prod.ext m (strs_uniq i c)
theorem KL{h:az}{c:List ah}{b:List Str}(x:dz c b):∃hs:List (ah×Int×Nat),c=hs.map (·.1)/\hs.map (·.2.1)=b.map (j9 w)/\(hs.map (·.2.2)).sum=b.length/\∀p∈hs,rf P w A h p.1 p.2.1 p.2.2:=by
 induction x with
 |nil=>exact⟨[],rfl,rfl,rfl,λp a=>by simp at a⟩
 |cons z t _ d=>
  obtain⟨hs,j,i,g,f⟩:=d;refine⟨(.str z t,j9 w z,1)::hs,by rw[j];rfl,by rw[mn,i];rfl,by simp[g];lia,λp a=>?_⟩;rcases bT.mp a with rfl|a
  .exact zm z t
  .exact f p a
theorem Bb{h b:az}{a d:af}{x:Array ah}{o:Obj}{es ep}(g:IsTup h a x)(i:h.get? d=aa o)(j:o.data=.dict es ep)(hs:jA d h b):IsTup b a x:=by
 obtain⟨f,e,c,n,r⟩:=g;have l:a≠d:=by
  rintro rfl;rw[i]at e;cases e;rw[j]at r;cases r
 exact⟨f,(hs.2 a l).trans e,c,n,r⟩
def Eb(P:aN)(w:aD):HeapKind P w (Str×List Str) where
 is:=qx
 hash:=zt w
 draws:=λk=>k.2.length+3
 room:=λA=>A.units+4<cLine
 inj:=λx y=>x.inj y
 keeps:=λ⟨b,t,c,l,i,g⟩ F G hs=>⟨b,t,c,Bb l F G hs,Bb i F G hs,g⟩
 pyHash:=λ{A E s k a Q} M x N=>by
  obtain⟨b,t,c,l,i,g⟩:=x;obtain⟨hs,L,K,J,I⟩:=KL (P:=P) (w:=w) (A:=A.in1.in1) (h:=s.heap) g;have f:rf P w A.in1 s.heap (.ref b) (pG (j_ (k.2.map (j9 w)))) (k.2.length+1):=by have:=Ac (P:=P) (w:=w) (A:=A.in1) (show A.units+1<cLine by lia) i L I;rw[K,J]at this;exact this
  have d:=Ac (P:=P) (w:=w) (A:=A) (hs:=[(.str k.1 t,j9 w k.1,1),(.ref b,pG (j_ (k.2.map (j9 w))),k.2.length+1)]) ∅ l rfl λp D=>by
   simp only[bT,iD,or_false]at D;rcases D with rfl|rfl
   .exact zm _ _
   .exact f
  refine d s E Q rfl ?_;have O:([((Value.str k.1 t,j9 w k.1,1):ah×Int×Nat),(.ref b,pG (j_ (k.2.map (j9 w))),k.2.length+1)].map (·.2.2)).sum+1=k.2.length+3:=by simp;lia
  rw[O];exact N
 eqBool:=λ{A E s x y a X Q} M C B q=>by
  by_cases m:a=X
  .subst m;obtain rfl:=C.inj B;rw[decide_eq_true rfl]at q;exact SeqAt.EqAt.same _ _ _ _ _ q
  .obtain⟨b,t,c,l,i,g⟩:=C;obtain⟨b',t',u,W,T,r⟩:=B;have S:decide (x=y)=((cz (min 2 2)).all (λj=>if j=0 then x.1 == y.1 else decide (x.2=y.2))&&2 == 2):=by obtain⟨x1,x2⟩:=x;obtain⟨Z,Y⟩:=y;rw[me];simp[rV]
   rw[S]at q;refine SeqAt.EqAt.of_refs m (.tuples l W ∅ λj H j2=>?_) _ _ _ _ q
   match j,H with
   |0,_=>exact CS _ _ _ _
   |1,_=>exact eq_strs (show A.units+1<cLine by lia) i g T r
 quiet:=λ⟨b,t,c,l,i,g⟩ q=>by
  refine quiet_tup (n:=7) l (λv o E Q q=>?_) q;simp only[bT,iD,or_false]at o;rcases o with rfl|rfl
  .exact ve (by unfold sd;rfl) q
  .refine quiet_tup (n:=6) i (λv o E Q q=>?_) q;obtain⟨z,t,rfl⟩:=strs_mem_shape g v o;exact ve (by unfold sd;rfl) q
abbrev KN(H:Hp):List ((Str×List Str)×V)->List ((Str×List Str)×af×ah)->Prop:=jx λp q=>p.1=q.1/\mS H p.1 q.2.1/\RelV p.2 q.2.2
theorem KN.val{H:Hp}{a:List ((Str×List Str)×V)}{xs:List ((Str×List Str)×af×ah)}(r:KN H a xs)(k:Str×List Str):pD (iU a k) ((atKey xs k).map (·.2)):=by
 induction r with
 |nil=>exact True.intro
 |@cons p q ps qs h t ih=>
  obtain⟨b,_,c⟩:=h;by_cases e:p.1=k
  .rw[Bp e,show atKey (q::qs) k=aa q.2 by simp[atKey,rR,b.symm.trans e]];exact c
  .have d:¬q.1=k:=λz=>e (b.trans z);rw[Ax e,show atKey (q::qs) k=atKey qs k by simp[atKey,rR,d]];exact ih
theorem z5:∀{ks:List Str}{a:List ah},bq (ks.map V.str) a->dz a ks
 |[],_,r=>by rw[List.map_nil]at r;cases r;exact .nil
 |k::ks,_,r=>by
  rw[mn]at r;cases r with
  |cons h t=>obtain⟨b,rfl⟩:=h;exact .cons _ _ (z5 t)
theorem t0{H:Hp}{h:az}{k:Str×List Str}{a:af}(ok:cP P w H h)(e:mS H k a):qx h k a:=by
 obtain⟨b,n,m⟩:=e;obtain⟨_,o,c,f,_⟩:=ok a _ n;obtain⟨_,i,g,d,_⟩:=ok b _ m;cases c with
 |cons l c=>cases c with
  |cons j c=>
   cases c;obtain⟨t,rfl⟩:=l;cases (show _=Value.ref b from j);exact⟨b,t,i.toArray,f,d,by simpa using z5 g⟩
theorem xl{H:Hp}{h:az}{a:af}{b:List ((Str×List Str)×V)}(ok:cP P w H h)(e:H a=aa (.dN b)):b.length<=a_/\(a == pH)=aj/\∃xs,KN H b xs/\h.DictOfH (Eb P w) a xs:=by
 obtain⟨z,y,xs,r,o,n,u,j,i,g,f,d⟩:=ok a _ e;refine⟨z,y,xs,r,o,n,u,j,i,g,f,λx c=>?_,d⟩;have all:∀{l:List ((Str×List Str)×V)}{m:List ((Str×List Str)×af×ah)},KN H l m->∀x∈m,qx h x.1 x.2.1:=by
  intro l m q
  induction q with
  |nil=>intro x c;exact nomatch c
  |@cons p q ps qs hq t ih=>
   intro x c;rcases bT.mp c with e|c
   .subst e;exact t0 ok (by rw[<-hq.1];exact hq.2.1)
   .exact ih x c
 exact all r x c
end
def IQ(g ty:TE):TE:=λf H Q=>g f H λx h=>ty f h λy d=>∃a b c k v,x=.ref a/\y=.ref b/\d a=aa (.dN c)/\mS d k b/\iU c k=aa v/\Q v d
def Go(d:Bool)(ty h:TE):TE:=λg H Q=>ty g H λy i=>h g i λx f=>∃a b c k,x=.ref a/\y=.ref b/\f a=aa (.dN c)/\mS f k b/\Q (.bl (d^^(iU c k).isSome)) f
def FF(h ty g:TE):TS:=λD d H=>g d H λv j=>h d j λx i=>ty d i λy f=>∃a b c k,x=.ref a/\y=.ref b/\f a=aa (.dN c)/\mS f k b/\iU c k=ae/\c.length<a_/\D.nx d (upd f a (.dN (c++[(k,v)])))
section
variable{X:Cx}{o i e d:aA}{f g n:Pos}{l j m:TE}
theorem FE(hu:X.A.units+8<cLine)(O:PE X o l)(S:PE X i j)(M:wB i):PE X (.Subscript o i f) (IQ l j):=by intro A s t H Q I h;refine KQ PySem.F.slot_dict_getitem.lookup M (aQ (O A s t H _ I h) λu B ⟨x,H1,Z,D,F⟩=>aQ (S A B t H1 _ Z F) λJ s2 ⟨y,H2,r,C,a,b,G,k,v,Y,W,e,P,L,E⟩=>?_);subst Y W;obtain rfl:u=Value.ref a:=D;obtain rfl:J=Value.ref b:=C;obtain⟨z,hd,xs,q,w⟩:=xl r.hok e;obtain⟨w',K,c⟩:=pD.some_of (v:=v) (o:=(atKey xs k).map (·.2)) (by rw[<-L];exact q.val k);obtain⟨p,N,T⟩:=vq.mp K;refine⟨w.typeIs,wpAny_getItem_heap (show X.A.in1.units+4<cLine from(show X.A.units+1+4<cLine by lia)) (t0 r.hok P) w N ?_⟩;rw[T];exact⟨v,H2,r.tok _,c,E⟩
theorem GS(W:X.A.units+8<cLine)(J:PE X i j)(F:PE X o l):PC X .NotIn i o (Go ai j l):=by intro w s t H Q I h;refine aQ (J w s t H _ I h) λE A ⟨y,S,O,B,D⟩=>aQ (F w A t S _ O D) λu T ⟨x,P,r,C,a,b,p,k,M,L,e,G,v⟩=>?_;subst M L;obtain rfl:u=Value.ref a:=C;obtain rfl:E=Value.ref b:=B;obtain⟨z,K,xs,c,N⟩:=xl r.hok e;refine wpAny_notIn_heap (show X.A.in1.units+4<cLine from(show X.A.units+1+4<cLine by lia)) (t0 r.hok G) K N ?_;have q:=(c.val k).isSome_eq;rw[Option.isSome_map]at q;rw[<-q];rw[Bool.true_xor]at v;exact⟨.bl (!(iU p k).isSome),P,r.tok _,rfl,v⟩
theorem Kt(hu:X.A.units+8<cLine)(ho:PE X o l)(hi:PE X i j)(hv:PE X d m)(G:l_ d (aa (.Subscript o i g)) f.line X.env=pure aj):PS X (.Assign [.Subscript o i g] d f) (FF l j m):=by
 intro M s C H D I h;refine wpAny_Assign_Subscript (aQ (hv M s C H _ I h) λr W ⟨v,H1,I1,rv,q1⟩=>aQ (ho M W C H1 _ I1 q1) λu T ⟨x,H2,I2,Z,q2⟩=>aQ (hi M T C H2 _ I2 q2) λiv s3 ⟨y,O,N,Y,a,b,w,k,ex,ey,e,Q,hn,hl,q3⟩=>?_) G;subst ex ey;obtain rfl:u=Value.ref a:=Z;obtain rfl:iv=Value.ref b:=Y;obtain⟨z,hd,xs,t,dd⟩:=xl N.hok e;have hz:xs.length<=a_:=by rw[<-Paired.length t];exact z
 refine wpAny_setItem_heap (hsz:=hz) (show X.A.in1.units+4<cLine from(show X.A.units+1+4<cLine by lia)) (t0 N.hok Q) dd λh' B G=>?_;have J:atKey xs k=ae:=by have q:=(t.val k).isSome_eq;rw[hn,Option.isSome_map]at q;simpa using q.symm
 rw[storedH_new J]at B;obtain⟨q,es,ep,P,A,h3,h4,_,h5⟩:=B;refine⟨C,upd O a (.dN (w++[(k,v)])),Em (ob:=.dN (w++[(k,v)])) N (by rw[e];exact True.intro) G ⟨q,P⟩ ⟨by rw[eZ];exact hl,hd,xs++[(k,b,r)],?_,q,es,ep,P,A,h3,h4,h5⟩,q3⟩;have E:∀{c:af}{F:List V},O c=aa (.tup F)->upd O a (.dN (w++[(k,v)])) c=aa (.tup F):=λ{c F} S=>by rw[bM (Ed S e (λz=>nomatch z))];exact S
 refine Paired.snoc (Paired.mapP t λp q z=>⟨z.1,?_,z.2.2⟩) ⟨rfl,?_,rv⟩
 .obtain⟨L,K,A⟩:=z.2.1;exact⟨L,E K,E A⟩
 .obtain⟨L,K,A⟩:=Q;exact⟨L,E K,E A⟩
def GC:TE:=λ_ H Q=>∀p,H p=ae->Q (.ref p) (upd H p (.dN []))
theorem Fm{P:aN}{w:aD}{H:Hp}(h:az)(a:pH<h.objs.size):c_ P w H (h.push {cls:=.type "dict",data:=.dict #[]}) h.objs.size (.dN []):=by
 obtain⟨z,y,xs,r,o,s,t,q,p,c,b,u⟩:=HR (P:=P) (w:=w) (H:=H) h a;cases r;exact⟨z,y,[],.nil,o,s,t,q,p,c,b,.nil⟩
theorem DB:PE X (.Dict [] [] f) GC:=λc s b H Q I h=>wpAny_Dict_empty ⟨.ref s.heap.objs.size,_,I.laid (a:=s.heap.objs.size) (o:=.dN []) (t':=s.toks) (λ_ _ q=>bd _ q) (a8 _) (Fm s.heap I.big),rfl,h _ (I.hok.fresh (a8 _))⟩
end
end L2
namespace Pu
open L2
def valN(a:List ((Tx×List Tx)×PV))(k:Tx×List Tx):Option PV:=(a.find? λb=>decide (b.1=k)).map (·.2)
def kD:PV->Option (Tx×List Tx)
 |.tup [.str t,.tup xs]=>(fz xs).map λa=>(t,a)
 |_=>ae
theorem GE{x y:Tx×List Tx}(h:nS x=nS y):x=y:=by have d:=congrArg Prod.fst h;have c:=congrArg Prod.snd h;refine Prod.ext (qE d) ?_;exact(List.map_inj_right λa b e=>qE e).mp c
section
variable{K:aw}{F:af->Prop}{S:Nat->af->Prop}{ε:ak}{g:St}{H:Hp}{i:Nat}{d:List ((Tx×List Tx)×PV)}{f:List ((Str×List Str)×V)}{a:af}
theorem wA{x:PV}{v:V}{k:Tx×List Tx}(r:aR K H F x v)(e:kD x=aa k):∃b,v=.ref b/\mS H (nS k) b:=by
 unfold kD at e;split at e
 .rename_i t xs;obtain⟨j,q,rfl⟩:=vq.mp e;obtain rfl:=qh q;obtain⟨b,s,rfl,n,h⟩:=r;obtain⟨w,A,rfl,p,h⟩:=h;obtain⟨u,z,rfl,o,h⟩:=h;cases h;obtain⟨c,y,rfl,m,l⟩:=o;obtain⟨rfl,_⟩:=L7.mp l;refine⟨b,rfl,c,?_,?_⟩
  .rw[n,p.1];rfl
  .rw[m];show aa (HO.tup (cE j))=aa (HO.tup ((j.map tS).map V.str));rw[iE];rfl
 .cases e
theorem j6.len(h:j6 K H F d f):f.length=d.length:=by
 unfold j6 at h
 induction h with
 |nil=>rfl
 |cons _ _ b=>simp[b]
theorem j6.val(h:j6 K H F d f)(k:Tx×List Tx):(∃x v,valN d k=aa x/\iU f (nS k)=aa v/\aR K H F x v)\/(valN d k=ae/\iU f (nS k)=ae):=by
 unfold j6 at h
 induction h with
 |nil=>exact .inr ⟨rfl,rfl⟩
 |@cons p q ps qs r _ ih=>
  by_cases e:p.1=k
  .refine .inl ⟨p.2,q.2,by simp[valN,rR,e],?_,r.2⟩;rw[Bp (by rw[<-r.1,e])]
  .have b:¬q.1=nS k:=by rw[<-r.1];exact λz=>e (GE z)
   rw[Ax b];have:valN (p::ps) k=valN ps k:=by simp[valN,rR,e]
   rw[this];exact ih
theorem aO.dnAt(r:aO K F S ε g H)(e:ε[i]?=aa (.own (.dN d))):∃a f,g[i]?=aa (aa (.ref a))/\H a=aa (.dN f)/\j6 K H F d f/\S i a/\∀b,S i b->b=a:=by obtain⟨a,n,⟨j,m,l⟩,c⟩:=r.own i _ e;exact⟨a,j,n,m,l,(c a).mpr rfl,λb h=>(c b).mp h⟩
end
def gM(b:ak)(i:Nat):Option (List ((Tx×List Tx)×PV)):=match b[i]? with
 |some (.own (.dN a))=>aa a
 |_=>ae
theorem oK{b:ak}{i:Nat}{a:List ((Tx×List Tx)×PV)}(h:gM b i=aa a):b[i]?=aa (.own (.dN a)):=by
 unfold gM at h;split at h
 .cases h;assumption
 .cases h
section
variable{X:Cx}{E:XK}{pin:List Nat}{e b c:aA}{de d g:ak->R PV}{f:Pos}
def rA(i:Nat)(d:ak->R PV):ak->R PV:=λa=>(aW (gM a i) a).bind λ_ a=>(d a).bind λk ε1=>(aW (gM ε1 i) ε1).bind λh ε1=>aW ((kD k).bind λk=>valN h k) ε1
theorem KU(i:Nat){y:Str}{B:Pos}(hu:X.A.units+64<cLine)(O:DE X E b d)(T:X.N[i]?=aa y:=by rfl)(K:fN X.env.scope y:=by eq_refl)(N:(y==("__debug__":Str))=aj:=by decide) (Y:(y==("__classdict__":Str))=aj:=by decide) (L:wB b:=by exact λ_ _=>rfl):DE X E (.Subscript (.Name y B) b f) (rA i d):=λF S p A H Q r h=>by
 unfold rA at h;cases o:gM p i with
 |none=>rw[o]at h;exact h.elim
 |some w=>
  rw[o]at h;simp only[dP,R.bind_ok]at h;obtain⟨a,C,z,_⟩:=r.dnAt (oK o);refine bO (FE ∅ (ix T K N Y) bp L) ⟨.ref a,z,O F S p A H _ r ((Ok.bind h).imp λk l F1 Z H1 s g1 q u G=>?_)⟩;cases n:gM l i with
  |none=>rw[n]at q;exact q.elim
  |some J=>
   rw[n]at q;simp only[dP,R.bind_ok]at q;obtain⟨a',D,j,P,M,_⟩:=s.dnAt (oK n);rw[z]at j;cases j;cases m:kD k with
   |none=>rw[m]at q;exact q.elim
   |some t=>
    rw[m,gh]at q;obtain⟨W,rfl,I⟩:=wA G m;rcases M.val t with⟨x,v,h1,h2,h3⟩|⟨h1,h2⟩
    .rw[h1]at q;exact⟨a,W,D,nS t,v,rfl,rfl,P,I,h2,q F1 Z H1 s (bf.refl ..) v h3⟩
    .rw[h1]at q;exact q.elim
def q8(i:Nat)(d de:ak->R PV):ak->R aP:=λj=>(de j).bind λy ε1=>(aW (gM ε1 i) ε1).bind λ_ ε1=>(d ε1).bind λk a=>(aW (gM a i) a).bind λh a=>(aW (kD k) a).bind λk a=>if h.length<cU/\(valN h k).isNone=ai then .ok .next (a.set i (.own (.dN (h++[(k,y)]))))else .no
theorem Jw(i:Nat){y:Str}{M l:Pos}(hu:X.A.units+64<cLine)(hb:DE X E b d)(he:DE X E e de)(hN:X.N[i]?=aa y:=by rfl)(io:fN X.env.scope y:=by eq_refl)(hd:(y==("__debug__":Str))=aj:=by decide) (bK:(y==("__classdict__":Str))=aj:=by decide) (hs:l_ e (aa (.Subscript (.Name y M) b l)) f.line X.env=pure aj:=by rfl):DS X E pin (.Assign [.Subscript (.Name y M) b l] e f) (q8 i d de):=λF S T t H D rl h=>by
 refine jc (Kt ∅ (ix hN io hd bK) bp bp hs) (he F S T t H _ rl (h.bindE.imp λy n F1 S1 H1 z g1 q v Y=>?_));cases L:gM n i with
 |none=>rw[L]at q;exact q.elim
 |some O=>
  rw[L]at q;simp only[dP,R.bind_ok]at q;obtain⟨a,W,J,ha0,_⟩:=z.dnAt (oK L);refine⟨.ref a,J,hb F1 S1 n t H1 _ z (q.bindE.imp λk w Q S2 H2 N g2 j u Z=>?_)⟩;cases s:gM w i with
  |none=>rw[s]at j;exact j.elim
  |some o=>
   rw[s]at j;simp only[dP,R.bind_ok]at j;obtain⟨a',r,p,ha,C,_⟩:=N.dnAt (oK s);rw[J]at p;cases p;cases K:kD k with
   |none=>rw[K]at j;exact j.elim
   |some m=>
    rw[K]at j;simp only[dP,R.bind_ok]at j;split at j
    .rename_i B;obtain⟨B,P⟩:=B;obtain⟨bb,rfl,lA⟩:=wA Z K;have A:iU r (nS m)=ae:=by
      rcases C.val m with⟨x,v,h1,h2,h3⟩|⟨h1,h2⟩
      .rw[h1]at P;cases P
      .exact h2
     have bZ:j6 X.K H2 Q (o++[(m,y)]) (r++[(nS m,v)]):=Paired.snoc C ⟨rfl,Y.grow g2 z.fit⟩;obtain⟨r3,g3⟩:=N.updO (po':=.dN (o++[(m,y)])) (o':=.dN (r++[(nS m,v)])) (oK s) rfl J trivial λH' m1 m2 I Sa G=>⟨⟨_,I,bZ.mono m1⟩,G⟩
     exact⟨a,bb,r,nS m,rfl,rfl,ha,lA,A,by rw[C.len];exact eu B j0,j Q S2 t _ r3 g3 (g8.refl _ _)⟩
    .exact j.elim
def wZ:ak->R PO:=λa=>.ok (.dN []) a
theorem Lu:DN X E (.Dict [] [] f) wZ:=λF S m l H Q i h=>bO DB λp a=>by
 have al:Al F F H (upd H p (.dN [])):=Al.new0 a;refine h F S _ (i.al al) al.grow p (λb=>b=p) ⟨⟨[],cI,.nil⟩,λb=>Iff.rfl⟩ λb z=>?_;subst z;refine⟨a,λz=>?_,λ⟨j,z⟩=>?_,_,cI,trivial⟩
 .obtain⟨o,q⟩:=i.ex b z;rw[a]at q;cases q
 .obtain⟨_,_,o,q,_⟩:=i.foot j b z;rw[a]at q;cases q
def nD(a:Bool)(i:Nat)(d:ak->R PV):ak->R PV:=λj=>(d j).bind λk ε1=>(aW (gM ε1 i) ε1).bind λh ε1=>aW ((kD k).map λk=>.bl (a^^(valN h k).isSome)) ε1
theorem D9(i:Nat){y:Str}{o:Pos}(Z:X.A.units+64<cLine)(N:DE X E b d)(P:X.N[i]?=aa y:=by rfl)(J:fN X.env.scope y:=by eq_refl)(M:(y==("__debug__":Str))=aj:=by decide) (Y:(y==("__classdict__":Str))=aj:=by decide) (K:nE .NotIn (.Name y o)=aj:=by rfl):DT X E (.Compare b [.NotIn] [.Name y o] f) (dB (nD ai i d)):=λF S A z H Q D h=>by
 refine rk (J9 (GS ∅ bp (ix P J M Y)) K) ?_;have r:=qk h;unfold nD at r;refine N F S A z H _ D ((Ok.bind r).imp λk j w s t l g1 q u C=>?_);cases n:gM j i with
 |none=>rw[n]at q;exact q.elim
 |some I=>
  rw[n]at q;simp only[dP,R.bind_ok]at q;obtain⟨a,B,T,O,L,_⟩:=l.dnAt (oK n);cases m:kD k with
  |none=>rw[m]at q;exact q.elim
  |some p=>
   rw[m,Option.map_some]at q;obtain⟨W,rfl,G⟩:=wA C m;refine⟨.ref a,T,a,W,B,nS p,rfl,rfl,O,G,?_⟩;rcases L.val p with⟨x,v,h1,h2,h3⟩|⟨h1,h2⟩
   .rw[h1]at q;rw[h2];exact q w s t l (bf.refl ..) _ rfl
   .rw[h1]at q;rw[h2];exact q w s t l (bf.refl ..) _ rfl
end
end Pu
namespace L2
open Mx SeqAt
def dv(x:Int)(y:Str)(a:Int)(b:Str):Bool:=if x=a then decide (y.cps.toList<b.cps.toList)else decide (x<a)
theorem Gz(l b:af)(x a:Int)(y c:Str)(t u B z:Tok)(n K:Nat)(O I:Option af)(J D:Array (Option ah)):Meets (Builtin.«tuple.__lt__» ⟨[.ref l,.ref b],[]⟩) (λ_ R s=>s.heap.get? l=aa {cls:=.type "tuple",dict:=O,data:=.seq #[.int x t,.str y u] n,slots:=J}/\s.heap.get? b=aa {cls:=.type "tuple",dict:=I,data:=.seq #[.int a B,.str c z] K,slots:=D} /\ R (.ok (.ret (.bool (dv x y a c)))) s) :=
 .of_wp λprog w A R s h=>by
  obtain⟨r,g,d,j,m⟩:=s;obtain⟨M,N,h⟩:=h;have f2:=AutoSeq1.sub_tuple_tuple
  wp_walk using uZ M,uZ N,yD _ (λrest b F=>b.1=ae/\F=⟨r,g,d,j,m⟩/\(rest=[((Value.int x t:ah),(Value.int a B:ah)),(.str y u,.str c z)] \/ x=a/\rest=[((Value.str y u:ah),(Value.str c z:ah))]\/x=a/\y=c/\rest=[])) _
  case turn=>
   rintro⟨p,q⟩ rest b F ⟨G,rfl,f|⟨C,f⟩|⟨_,_,f⟩⟩
   .cases f;refine ap (EqAt.int_int x t a B prog w _ _ ?_);by_cases e:x=a
    .subst e;rw[beq_self_eq_true]
     wp_walk
     exact⟨rfl,rfl,.inr (.inl ⟨rfl,rfl⟩)⟩
    .rw[beq_false_of_ne e];have H:R (.ok (.ret (.bool (decide (x<a))))) ⟨r,g,d,j,m⟩:=by unfold dv at h;rwa[if_neg e]at h
     have o:∀(E:ah->am->Prop) (Q:ah->am->Prop),Q (.bool (decide (x<a))) ⟨r,g,d,j,m⟩->aq (au prog w) A.in1 (richCompare .Lt (.int x t) (.int a B)) Q E ⟨r,g,d,j,m⟩:=λE Q h=>CmpOf.ints_lt (prog:=prog) (w:=w) (A:=A.in1) (P:=λi v=>∃t,v=.int (if i=0 then x else a) t) (λi=>if i=0 then x else a) (λi v h=>h) 0 1 _ _ _ _ _ ⟨t,rfl⟩ ⟨B,rfl⟩ (by simpa using h)
     wp_walk using o
     exact⟨_,rfl,by simpa using H⟩
   .cases f;subst C;refine ap (EqAt.str_str y u c z prog w _ _ ?_);by_cases e:y=c
    .subst e;rw[beq_self_eq_true]
     wp_walk
     exact⟨rfl,rfl,.inr (.inr ⟨rfl,rfl,rfl⟩)⟩
    .rw[beq_false_of_ne e];have H:R (.ok (.ret (.bool (decide (y.cps.toList<c.cps.toList))))) ⟨r,g,d,j,m⟩:=by unfold dv at h;rwa[if_pos rfl]at h
     have o:∀(E:ah->am->Prop) (Q:ah->am->Prop),Q (.bool (decide (y.cps.toList<c.cps.toList))) ⟨r,g,d,j,m⟩->aq (au prog w) A.in1 (richCompare .Lt (.str y u) (.str c z)) Q E ⟨r,g,d,j,m⟩:=λE Q h=>(PyProof.Rows.lt_str h:aq (au prog w) A.in1 (c9 .Lt (.str y u) (.str c z)) Q E _)
     wp_walk using o
     exact⟨_,rfl,by simpa using H⟩
   .cases f
  case fin=>
   rintro⟨b1,b2⟩ F ⟨G,rfl,f|⟨C,f⟩|⟨C,hy,_⟩⟩
   .cases f
   .cases f
   .simp only at G;subst G C hy;have L:dv x y x y=aj:=by unfold dv;rw[if_pos rfl];exact decide_eq_false (yE _)
    rw[L]at h
    wp_walk
    exact⟨_,rfl,by simpa[Builtin.Tuple.tupleCompareSizes]using h⟩
  case h=>exact⟨rfl,rfl,.inl rfl⟩
def mX(h:az)(k:Int×Str)(v:ah):Prop:=∃a t u,v=.ref a/\IsTup h a #[.int k.1 t,.str k.2 u]
section
variable{P:aN}{w:aD}{A:aJ}{E:ah->am->Prop}{s:am}
theorem KY{k a:Int×Str}{v g:ah}{Q:ah->am->Prop}(G:mX s.heap k v)(D:mX s.heap a g)(H:A.units<cLine)(h:Q (.bool (dv k.1 k.2 a.1 a.2)) s):aq (au P w) A (richCompare .Lt v g) Q E s:=by
 obtain⟨l,t,u,rfl,I⟩:=G;obtain⟨b,B,z,rfl,J⟩:=D;obtain⟨⟨L,K,r,C⟩,o,q,n,p⟩:=id I;obtain⟨⟨y,d,f,c⟩,m,j,F,i⟩:=id J;simp only at q p j i;subst q p j i;exact richCompare_meets_room (op:=.Lt) ⟨_,o,rfl⟩ ⟨_,m,rfl⟩ PySem.F.slot_tuple_lt PySem.F.entry_tuple_lt (PySem.F.args_tuple_lt_2 _ _) (Gz l b k.1 a.1 k.2 a.2 t u B z n F K d C c)
  ⟨o,m,show Value.bool (dv k.1 k.2 a.1 a.2)≠Value.notImplemented/\Q (.bool (dv k.1 k.2 a.1 a.2)) s from⟨(λx=>nomatch x),h⟩⟩ H
theorem mX.keep{h c:az}{k:Int×Str}{v:ah}(x:mX h k v)(g:∀b o,h.get? b=aa o->o.cls=.type "tuple"->c.get? b=aa o):mX c k v:=by obtain⟨a,t,u,rfl,d⟩:=x;exact⟨a,t,u,rfl,tup_kept d g⟩
theorem EQ{a b c:Int×Str}(f:dv a.1 a.2 b.1 b.2=ai)(d:dv b.1 b.2 c.1 c.2=ai):dv a.1 a.2 c.1 c.2=ai:=by
 unfold dv at *;split at f <;> split at d <;> split <;> simp only[decide_eq_true_iff]at * <;> first|lia|skip
 exact List.lt_trans f d
variable{q l I S:af}{vs:List ah}{kf:Nat->Int×Str}{R:Result->am->Prop}{Q:ah->am->Prop}
def zz(P:aN)(w:aD)(A:aJ)(s:am)(q:af)(vs:List ah)(kf:Nat->Int×Str):Prop:=∀(i:Nat) (v:ah),vs[i]?=aa v->∀(h:az) (d:Nat),(∀b o,s.heap.get? b=aa o->h.get? b=aa o) ->
 aq (au P w) A.in1 (call (.ref q) [v]) (λu f=>∃c a,f={s with heap:=c,toks:=a}/\(∀b o,h.get? b=aa o->c.get? b=aa o)/\mX c (kf i) u) (λ_ _=>False) {s with heap:=h,toks:=d}
theorem Bt{a:Array ah}{c:Nat}{p:Prop}(h:(dI "list" a c).cls=.type "tuple"):p:=absurd h (by show ¬(_:ah)=_;simp[dI])
structure EJ(s:am)(l I S:af)(vs:List ah)(kf:Nat->Int×Str)(j i:Nat)(h:az):Prop where
 keep:∀b o,s.heap.get? b=aa o->h.get? b=aa o
 it:h.IsListIter I l (j+1)
 st:∃vb kb c,h.get? S=aa (dI "list" #[vb,kb] c)/\vs[i]?=aa vb/\mX h (kf i) kb
 ij:i<=j
 best:∀j',j'<=j->dv (kf j').1 (kf j').2 (kf i).1 (kf i).2=aj
theorem Ei(hh:A.handled=ae)(hu:A.units+4<cLine)(hl:s.heap.IsList l vs.toArray)(fI:s.heap.get? I=ae)(fS:s.heap.get? S=ae)(Y:S≠I)(n:zz P w A s q vs kf)(hR:∀i v K t,vs[i]?=aa v->(∀j,j<vs.length->dv (kf j).1 (kf j).2 (kf i).1 (kf i).2=aj)->(∀b o,s.heap.get? b=aa o->K.get? b=aa o)->R (.ok (.ret v)) {s with heap:=K,toks:=t}):∀(r j i:Nat) (h:az) (X:Nat),vs.length-(j+1)=r->j+1<=vs.length->EJ s l I S vs kf j i h->jC (au P w) A (.builtin "min.loop" ⟨[.ref I,.ref q,.ref S],[]⟩) R {s with heap:=h,toks:=X}:=by
 have sk:(toString "min"++toString ".loop" : String) = "min.loop":=by decide
 have hlI:l≠I:=λz=>by obtain⟨o,e,_⟩:=hl;rw[z,fI]at e;cases e
 have hlS:l≠S:=λz=>by obtain⟨o,e,_⟩:=hl;rw[z,fS]at e;cases e
 have W:=Walks.list (prog:=P) (w:=w) (A:=A.in1) hh I l hlI vs.toArray;have y:vs.toArray.size=vs.length:=bY ..;have lk:∀{h:az},(∀b o,s.heap.get? b=aa o->h.get? b=aa o)->h.IsList l vs.toArray:=λk=>by obtain⟨o,e,r⟩:=hl;exact⟨o,k _ _ e,r⟩
 intro r
 induction r with
 |zero=>
  intro j i h X hr hj M;obtain⟨N,kb,c,H,m,F⟩:=M.st;refine mo Dl ?_;rw[nY pW _];refine ap (vi H rfl ?_);refine ap (se (W.done _ _ _ ⟨by rw[y,show vs.length=j+1 by lia];exact M.it,lk M.keep⟩ λK t mF=>?_));have x:=nX K S (fH λ_=>(#[]:Array ah));refine ap ?_;refine wpAny_updateSeq (mF S _ (by simpa using Y) H) rfl (ap (yF (aE ?_)));refine hR i N _ _ m (λf ir=>M.best f ∅) λb o e=>?_;have nb:b≠I:=λz=>by rw[z,fI]at e;cases e
  have Z:b≠S:=λz=>by rw[z,fS]at e;cases e
  exact(x.2 b Z).trans (mF b o (by simpa using nb) (M.keep b o e))
 |succ r ih=>
  intro j i h X hr hj M;obtain⟨N,kb,c,H,m,F⟩:=M.st;have aX:j+1<vs.length:=∅
  refine mo Dl ?_;rw[nY pW _];refine ap (vi H rfl ?_);refine ap (se (W.item (j+1) _ _ _ (by rw[y];exact aX) ⟨M.it,lk M.keep⟩ λv h1 T hP cF fL=>?_));have hv:vs[j+1]?=aa v:=by simpa using hP
  obtain⟨oI,eI,og,C⟩:=id cF.1;have d:∀b o,s.heap.get? b=aa o->h1.get? b=aa o:=λb o e=>fL b o (by intro z;rw[fJ.mp z,fI]at e;cases e) (M.keep b o e);refine ap (se (ig (cW (n (j+1) v hv h1 T d) (λu s2 he=>?_) λ_ _ hF=>hF.elim)));obtain⟨G,O,rfl,L,D⟩:=he;have p:∀b o,h.get? b=aa o->o.cls=.type "tuple"->G.get? b=aa o:=λb o e ht=>L b o (fL b o (by
   intro z;rw[fJ.mp z]at e;obtain⟨o',e',c',_⟩:=M.it;rw[e]at e';cases e';rw[ht]at c';simp at c') e)
  have Du:=F.keep p;have a:∀b o,s.heap.get? b=aa o->G.get? b=aa o:=λb o e=>L b o (d b o e);have g:=L S _ (fL S _ (by simpa using Y) H);have J:=L I _ eI;refine ap (se (ig (ap (KY (s:={s with heap:=G,toks:=O}) (A:=A.in1) D Du (show A.units+1<cLine by lia) ?_))));refine ap (ig (k7 ?_));refine ap (yF (aE ?_));by_cases jO:dv (kf (j+1)).1 (kf (j+1)).2 (kf i).1 (kf i).2=ai
  .have x:=nX G S (fH λ_=>#[v,u]);obtain⟨c2,iH⟩:∃c2,(G.update S (fH λ_=>#[v,u])).get? S=aa (dI "list" #[v,u] c2):=⟨_,vk g λ_=>#[v,u]⟩
   simp only[jO,if_true];refine ap ?_;refine wpAny_updateSeq g rfl (ap (yF ?_));rw[sk];refine aE ⟨nZ pW _,ih (j+1) (j+1) _ _ ∅ aX ⟨λb o e=>?_,⟨oI,(x.2 I Y.symm).trans J,og,C⟩,⟨v,u,c2,iH,hv,?_⟩,a8 _,λf ir=>?_⟩⟩
   .exact(x.2 b (λz=>by rw[z,fS]at e;cases e)).trans (a b o e)
   .refine D.keep λb o e ht=>(x.2 b ?_).trans e;rintro rfl;rw[g]at e;cases e;exact Bt ht
   .by_cases e:f=j+1
    .subst e;cases B:dv (kf (j+1)).1 (kf (j+1)).2 (kf (j+1)).1 (kf (j+1)).2 with
     |false=>rfl
     |true=>unfold dv at B;rw[if_pos rfl,decide_eq_true_iff]at B;exact absurd B (yE _)
    .cases B:dv (kf f).1 (kf f).2 (kf (j+1)).1 (kf (j+1)).2 with
     |false=>rfl
     |true=>have:=EQ B jO;rw[M.best f ∅]at this;cases this
  .have lH:dv (kf (j+1)).1 (kf (j+1)).2 (kf i).1 (kf i).2=aj:=by simpa using jO
   simp only[lH,kg,if_false];refine ap (yF ?_);rw[sk];refine aE ⟨nZ pW _,ih (j+1) i _ _ ∅ aX ⟨a,⟨oI,J,og,C⟩,⟨N,kb,c,g,m,Du⟩,by have:=M.ij;lia,λf ir=>?_⟩⟩;by_cases e:f=j+1
   .subst e;exact lH
   .exact M.best f ∅
theorem GJ(T:A.handled=ae)(hu:A.units+4<cLine)(g:s.heap.IsList l vs.toArray)(cK:0<vs.length)(c:zz P w A s q vs kf)(hQ:∀i v Z n,vs[i]?=aa v->(∀j,j<vs.length->dv (kf j).1 (kf j).2 (kf i).1 (kf i).2=aj)->(∀b o,s.heap.get? b=aa o->Z.get? b=aa o)->Q v {s with heap:=Z,toks:=n}):aq (au P w) A (call (.builtin "min") [.ref l] [(rO "key",.ref q)]) Q E s:=by
 have M:(toString "min"++toString ".loop" : String) = "min.loop":=by decide
 refine kmk_tree PySem.F.kind_min PySem.F.plain_min PySem.F.entry_min (kmk_min_key _ _) ?_;refine ap (ve (show Builtin.Builtins.bindParams "min" ["key","default"] 0 ⟨[],[(rO "key",.ref q)]⟩=pure [aa (.ref q),ae] from rfl) ?_);refine ap (aE ?_);refine ap (CZ g ?_);refine ap (wpAny_newList ?_ (li _));rw[M];generalize h:s.heap.objs.size=I;generalize H:s.heap.push {cls:=.type "list_iterator",data:=.fields #[.ref l,.int 0 0]}=g1;have G:g1.get? I=aa {cls:=.type "list_iterator",data:=.fields #[.ref l,.int 0 0]}:=by rw[<-H,<-h];exact cu _ rfl
 have F:∀b o,s.heap.get? b=aa o->g1.get? b=aa o:=λb o e=>by rw[<-H];exact bd _ e
 have d:g1.objs.size=I+1:=by rw[<-H,<-h];exact iC ..
 generalize hS:g1.objs.size=S at d;have J:s.heap.get? I=ae:=rJ (by rw[<-h];exact a8 _);have fS:s.heap.get? S=ae:=rJ (by rw[h,d];exact u9 _);have p:S≠I:=by rw[d];exact Nat.succ_ne_self _
 refine aE ⟨nZ pW _,?_⟩;have N:∀b o,s.heap.get? b=aa o->(g1.push (dI "list" #[] 0)).get? b=aa o:=λb o e=>bd _ (F b o e);have gS:(g1.push (dI "list" #[] 0)).get? S=aa (dI "list" #[] 0):=by rw[<-hS];exact cu _ rfl
 have gI:(g1.push (dI "list" #[] 0)).get? I=aa {cls:=.type "list_iterator",data:=.fields #[.ref l,.int 0 0]}:=bd _ G;have C:l≠I:=λz=>by obtain⟨o,e,_⟩:=g;rw[z,J]at e;cases e
 have W:=Walks.list (prog:=P) (w:=w) (A:=A.in1) T I l C vs.toArray;have x:vs.toArray.size=vs.length:=bY ..;refine mo Dl ?_;rw[nY pW _];refine ap (vi gS rfl ?_);refine ap (se (W.item 0 _ _ _ (by rw[x];exact cK) ⟨⟨_,gI,rfl,rfl⟩,(let ⟨o,e,r⟩:=g;⟨o,N _ _ e,r⟩)⟩ λv Y m hP cF fL=>?_));have O:vs[0]?=aa v:=by simpa using hP
 obtain⟨oI,eI,og,B⟩:=id cF.1;have a:∀b o,s.heap.get? b=aa o->Y.get? b=aa o:=λb o e=>fL b o (by intro z;rw[fJ.mp z,J]at e;cases e) (N b o e);refine ap (se (ig (cW (c 0 v O Y m a) (λu s2 he=>?_) λ_ _ hF=>hF.elim)));obtain⟨X,tk2,rfl,L,D⟩:=he;have f:=L S _ (fL S _ (by simpa using p) gS);have t:=nX X S (fH λ_=>#[v,u]);obtain⟨K,iH⟩:∃K,(X.update S (fH λ_=>#[v,u])).get? S=aa (dI "list" #[v,u] K):=⟨_,vk f λ_=>#[v,u]⟩
 refine ap ?_;refine wpAny_updateSeq f rfl ?_;rw[M];refine aE ⟨nZ pW _,Ei T hu g J fS p c hQ _ 0 0 _ _ rfl cK ⟨λb o e=>?_,⟨oI,(t.2 I p.symm).trans (L I _ eI),og,B⟩,⟨v,u,K,iH,O,?_⟩,a8 _,λj' ir=>?_⟩⟩
 .exact(t.2 b (λz=>by rw[z,fS]at e;cases e)).trans (L b o (a b o e))
 .refine D.keep λb o e ht=>(t.2 b ?_).trans e;rintro rfl;rw[f]at e;cases e;exact Bt ht
 .obtain rfl:j'=0:=∅
  cases y:dv (kf 0).1 (kf 0).2 (kf 0).1 (kf 0).2 with
  |false=>rfl
  |true=>unfold dv at y;rw[if_pos rfl,decide_eq_true_iff]at y;exact absurd y (yE _)
end
open Att
section
variable{a:aN}{w:aD}{A:aJ}{E:ah->am->Prop}{s:am}
structure vW(x:Str)(params:nL)(scope:cN):Prop where
 bind:∀(name qual:Str) (body:aA) (cl:List (Str×af)) (pm aF ct v:ah),dY (PySem.W.kla_fn name qual params body scope cl pm aF ct) ⟨[v],[]⟩=pure [(x,v)]
 lx:scope.names.lookup x=aa .local
 ly:scope.names.lookup ("len" : Str)=aa .globalImplicit
 nc:∀z∈scope.names,z.2≠.cell
 co:scope.isCoroutine=aj
 gen:scope.isGenerator=aj
 kind:scope.kind=.function
 dx:(x==("__debug__":Str))=aj
abbrev xN(x:Str)(k:Nat)(g f d c b:Pos):aA:=.Tuple [.Call (.Name "len" g) [.Name x f] [] d,.Name x c] k b
theorem FT{f B:af}{x g:Str}{c:nL}{d:cN}{k:Nat}{J I H G F:Pos}{j:List (Str×af)}{D p:ah}{z:Str}{t:Tok}{q:Str->Option ah}{Q:ah->am->Prop}(L:vW x c d)(X:A.depth<rL) (M:s.heap.get? f=aa (yC "<lambda>" g c (xN x k J I H G F) d j D B p)) (W:s.heap.CodeRec (.ref B) g) (m:s.heap.NoLimit)(O:s.heap.Ns bA q) (N:q "len"=ae) (P:∃l,s.heap.Ns l9 l/\l "len"=aa (.builtin "len")) (y:z.length<=a_)(h:∀n C u,(∀b o,s.heap.get? b=aa o->n.get? b=aa o)->mX n ((z.length:Nat),z) u->Q u {s with heap:=n,toks:=C}):aq (au a w) A (call (.ref f) [.str z t]) Q E s:=by refine rM (PySem.W.kla_callFunE X M rfl L.co L.gen rfl W ?_);rw[L.bind];refine aE (wpAny_newFunctionEnv L.nc (λz y=>by rw[fJ.mp y];exact L.lx) (λi r K=>?_) L.kind);have keep:∀b o,s.heap.get? b=aa o->i.get? b=aa o:=λb o e=>(K.2 b (cM (bE e))).trans (bd _ e);refine⟨m.keeps keep,PySem.W.kla_codeExpr ?_⟩;obtain⟨l,T,S⟩:=P;have Y:=mY;refine wpAny_Tuple_spliced ?_;refine uX ?_;refine pI (CD L.kind L.ly (Calls.loadGlobal_builtin (O.keeps keep) N (T.keeps keep) S ?_));refine LC (uX (uT (CC L.kind L.lx r (v:=.str z t) (by simp) (x0 ?_)) L.dx)) rfl rfl;refine len_str ∅ ?_;refine uX (uT (CC L.kind L.lx r (v:=.str z t) (by simp) (x0 ?_)) L.dx);refine⟨by rw[nG];simp,?_⟩;exact h _ _ _ (λb o e=>bd _ (keep b o e)) ⟨_,_,_,rfl,⟨_,cu _ rfl,rfl,_,rfl⟩⟩
end
section
variable{X:Cx}{g:List (af×Obj)}{d:St}{H:Hp}{s:am}
def JT(h:TA):TE:=λd H Q=>h d H λi f=>∃(a:af) (xs:List Str),i=[.ref a]/\Rd f a (.lst (xs.map .str))/\xs≠[]/\(∀x∈xs,x.length<=a_) /\
 ∀x c,x∈xs->(∀y∈xs,dv (y.length:Nat) y (x.length:Nat) x=aj)->(∀b o,f b=aa o->c b=aa o)->Q (.str x) c
theorem IT{z x n:Str}{p0:Pos}{c P:af}{l:nL}{r:cN}{k:Nat}{p p1 p2 p3 p4 p5 F kp E:Pos}{Y:TA}(hc:X.calm=ai)(hr:X.A.depth+1<rL)(hu:X.A.units+8<cLine)(LA:tY X n c P)(LO:vW x l r)(hq:X.env.qual++"<lambda>"=n++".<locals>.<lambda>")(sG:u8 r X.env=pure []) (sv:defaultsOf l X.env=([],[]))(hg:Gl X "min") (hm:X.mg "min"=ae) (L:X.mg "len"=ae) (ha:PA X [.Name z p0] Y):PE X (.Call (.Name "min" p) [.Name z p0] [⟨aa "key",.Lambda l (xN x k p1 p2 p3 p4 p5) r F,kp⟩] E) (JT Y):=by
 intro g s d H Q I h;refine pI (pq I hg hm (show dy "min"=aa (.builtin "min") by kernel_rfl) ?_ (by decide) (by decide));refine callWith_kw (aQ (ha E g s d H _ I h) λus s1 ⟨vs,H1,I1,r1,q⟩=>?_);obtain⟨a,xs,rfl,hA,cK,bn,hQ⟩:=q;obtain⟨u,rfl⟩:∃u,us=[u]:=by
  cases r1 with
  |cons _ t=>cases t;exact⟨_,rfl⟩
 obtain rfl:u=.ref a:=by
  cases r1 with
  |cons z _=>exact z
 refine kws_cons (Kk I1 LA hq sG sv λf c' ctv T s2 w C hf hfL vC hcL=>kws_nil ?_);have N:Rd T a (.lst (xs.map .str)):=hA.elim (λz=>.inl (C _ _ z)) λ⟨o,z⟩=>.inr ⟨o,C _ _ z⟩;obtain⟨m,jK,hl⟩:=id w.loc;obtain⟨zl,D,n0,Z,eL⟩:=N.ok w.hok;have A:D.length=xs.length:=by rw[<-Z.length,fG]
 have J:∀(i:Nat) (v:ah),D[i]?=aa v->∃x t,xs[i]?=aa x/\v=.str x t:=λi v G=>by obtain⟨xv,B,rx⟩:=BG Z G;rw[jE]at B;obtain⟨x,oq,rfl⟩:=vq.mp B;obtain⟨t,rfl⟩:=rx;exact⟨x,t,oq,rfl⟩
 obtain⟨mb,iK,lH⟩:=w.mod.blt;have M:mb "len"=aa (.builtin "len"):=(lH "len" (by decide)).trans (show dy "len"=aa (.builtin "len") by kernel_rfl);show aq _ _ (call (.builtin "min") [.ref a] [(rO "key",.ref f)]) _ _ _;refine GJ (vs:=D) (kf:=λi=>(((xs.getD i fA).length:Nat),xs.getD i fA)) (w.ok.hd hc) ∅ ⟨_,eL,rfl,n0,rfl⟩ (by rw[A];exact List.length_pos_iff.mpr cK) (λi v G O W k=>?_) λi v O W G n_ k=>?_
 .obtain⟨x,t,B,rfl⟩:=J i v G;have S:xs.getD i fA=x:=by simp[B]
  dsimp only;rw[S];obtain⟨cc,oc,vc,tc,z,ec,rc⟩:=vC;cases z;refine FT (s:={s2 with heap:=O,toks:=W}) LO (Nat.lt_of_succ_lt hr) (k _ _ hf) ⟨_,oc,vc,tc,rfl,k _ _ ec,rc⟩ (w.mod.nolimit.keeps λb o e=>k b o (w.bk b o e)) ((w.mod.glob.keeps w.bk).keeps k) L ⟨mb,(iK.keeps w.bk).keeps k,M⟩ (bn x (uY B)) λh2 K u k2 hu=>?_;exact⟨h2,K,rfl,k2,hu⟩
 .obtain⟨x,t,B,rfl⟩:=J i v G;have S:xs.getD i fA=x:=by simp[B]
  refine⟨.str x,T,?_,⟨t,rfl⟩,hQ x T (uY B) (λy hy=>?_) C⟩
  .have:O.Ns X.env.locals m:=jK.keeps k;exact w.mapKept jK this λb o _ e=>k b o e
  .obtain⟨j,hj⟩:=List.mem_iff_getElem?.mp hy;have:=n_ j (by rw[A];exact(cJ.mp hj).1);have ey:xs.getD j fA=y:=by simp[hj]
   rw[S,ey]at this;exact this
end
end L2
namespace Pu
open L2
def cZ(x y:Tx):Bool:=if x.length=y.length then decide (x<y)else decide (x.length<y.length)
def lW:List Tx->Option Tx
 |[]=>ae
 |x::r=>aa (r.foldl (λb y=>if cZ y b then y else b) x)
theorem Hl(x:Tx):cZ x x=aj:=by unfold cZ;rw[if_pos rfl];exact decide_eq_false (yE x)
theorem Be{x y z:Tx}(b:cZ x y=ai)(a:cZ y z=ai):cZ x z=ai:=by
 unfold cZ at *;split at b <;> split at a <;> split <;> simp only[decide_eq_true_iff]at * <;> first|lia|skip
 exact List.lt_trans b a
theorem AG{x y:Tx}(b:cZ x y=aj)(a:cZ y x=aj):x=y:=by
 unfold cZ at *;split at b
 .rename_i e;rw[if_pos e.symm]at a;simp only[decide_eq_false_iff_not]at b a;exact List.le_antisymm (List.not_lt.mp a) (List.not_lt.mp b)
 .rename_i e;rw[if_neg (λz=>e z.symm)]at a;simp only[decide_eq_false_iff_not]at b a;lia
theorem AK(r:List Tx):∀b:Tx,(r.foldl (λb y=>if cZ y b then y else b) b∈b::r)/\∀y∈b::r,cZ y (r.foldl (λb y=>if cZ y b then y else b) b)=aj:=by
 induction r with
 |nil=>intro b;exact⟨by simp,λy d=>by simp at d;subst d;exact Hl y⟩
 |cons c r n=>
  intro b;rw[nW];obtain⟨l,i⟩:=n (if cZ c b then c else b);refine⟨?_,λy d=>?_⟩
  .rcases bT.mp l with h|h
   .rw[h];split <;> simp
   .simp[h]
  .generalize r.foldl (λb y=>if cZ y b then y else b) (if cZ c b then c else b)=m at l i;have a:=i _ (jz ..);cases f:cZ y m with
   |false=>rfl
   |true=>
    rcases bT.mp d with rfl|d
    .by_cases g:cZ c y=ai
     .rw[if_pos g]at a;rw[Be g f]at a;cases a
     .rw[if_neg g]at a;rw[f]at a;cases a
    .rcases bT.mp d with rfl|d
     .by_cases g:cZ y b=ai
      .rw[if_pos g]at a;rw[f]at a;cases a
      .rw[if_neg g]at a;have o:cZ y b=aj:=by simpa using g
       by_cases j:cZ b y=ai
       .rw[Be j f]at a;cases a
       .rw[AG o (by simpa using j)]at f;rw[f]at a;cases a
     .rw[i y (by simp[d])]at f;cases f
theorem Bo{a:List Tx}{x:Tx}(h:x∈a)(c:∀y∈a,cZ y x=aj):lW a=aa x:=by
 cases a with
 |nil=>cases h
 |cons b r=>obtain⟨f,d⟩:=AK r b;show aa _=aa x;congr 1;exact AG (c _ f) (d x h)
theorem Jh(x y:Tx):dv ((tS x).length:Nat) (tS x) ((tS y).length:Nat) (tS y)=cZ x y:=by
 unfold dv cZ;have b:(tS x).length=x.length:=by simp[tS,mh]
 have a:(tS y).length=y.length:=by simp[tS,mh]
 rw[b,a];simp only[lX,Int.natCast_inj,Int.ofNat_lt]
def oN(i:Nat):ak->R PV:=λa=>(aW (c0 a i) a).bind λxs a=>aW ((fz xs).bind λb=>(lW b).map .str) a
section
variable{X:Cx}{E:XK}
theorem Fg(i:Nat){z x n:Str}{c P:af}{d:nL}{f:cN}{k:Nat}{p T O N M L K g Y q:Pos}(hc:X.calm=ai)(hr:X.A.depth+1<rL)(hu:X.A.units+64<cLine)(LA:tY X n c P)(hm:X.mg "min"=ae)(u:X.mg "len"=ae)(hq:X.env.qual++"<lambda>"=n++".<locals>.<lambda>":=by rfl) (I:u8 f X.env=pure []:=by rfl)(LO:vW x d f:=by exact⟨λ_ _ _ _ _ _ _ _=>rfl,rfl,rfl,by decide,rfl,rfl,rfl,by decide⟩)(hN:X.N[i]?=aa z:=by rfl) (Z:fN X.env.scope z:=by eq_refl) (hd:(z==("__debug__":Str))=aj:=by decide) (bK:(z==("__classdict__":Str))=aj:=by decide)(G:defaultsOf d X.env=([],[]):=by rfl) (hg:Gl X "min":=by rfl):DE X E (.Call (.Name "min" p) [.Name z T] [⟨aa "key",.Lambda d (xN x k O N M L K) f g,Y⟩] q) (oN i):=λF S D σ H Q A h=>by
 unfold oN at h;cases w:c0 D i with
 |none=>rw[w]at h;exact h.elim
 |some xs=>
  rw[w]at h;simp only[dP,R.bind_ok]at h;cases v:fz xs with
  |none=>rw[v]at h;exact h.elim
  |some s=>
   rw[v,gh]at h;cases j:lW s with
   |none=>rw[j]at h;exact h.elim
   |some r=>
    rw[j]at h;simp only[Option.map_some,dP]at h;obtain rfl:=qh v;obtain⟨a,ea,⟨us,ha,J⟩,_⟩:=A.own i _ (gG w);obtain⟨rfl,B⟩:=L7.mp J;refine bO (IT hc hr ∅ LA LO hq I G hg hm u (gE (ix hN Z hd bK) iR (by rfl))) ?_;refine⟨_,ea,a,s.map tS,rfl,.inl ?_,λz=>?_,λy t=>?_,λy C t W m=>?_⟩
    .rw[ha,iE];rfl
    .rw[List.map_eq_nil_iff]at z;subst z;cases j
    .obtain⟨y,l,rfl⟩:=gW.mp t;have:=B y l;have e:(tS y).length=y.length:=by simp[tS,mh]
     rw[e];exact cA this j0
    .obtain⟨y,l,rfl⟩:=gW.mp t;have:lW s=aa y:=Bo l λz hz=>by have:=W (tS z) (gW.mpr ⟨z,hz,rfl⟩);rwa[Jh]at this
     rw[this]at j;cases j;have al:Al F F H C:=⟨λ_ z=>z,λb o e=>m b o e,λ_ z=>.inl z⟩
     exact h F S C (A.al al) al.grow (tV r) ⟨rfl,B r l⟩
end
end Pu
namespace L2
open SeqAt
theorem Lp{a:Type}{M:Model}{A:aJ}{E:ah->am->Prop}{s:am}{Q:a->am->Prop}{n:Nat}{f:Nat->a->Sem (ForInStep a)}{b:a}(h:aq M A (forIn (List.range' 0 n 1) b f) Q E s):aq M A (forIn ([0:n]:Mr) b f) Q E s:=by rw[Std.Legacy.Range.forIn_eq_forIn_range'];simpa[Std.Legacy.Range.size]using h
theorem K8(l:af)(a:Array ah)(n:Nat)(H:Option af)(t:Array (Option ah))(x:ah)(e:ah->Bool)(j:Nat)(K:j<a.size)(G:e a[j]=ai)(F:∀m (J:m<a.size),m<j->e a[m]=aj):Meets (Builtin.«tuple.index» ⟨[.ref l,x],[]⟩) (λA R s=>s.heap.get? l=aa {cls:=.type "tuple",dict:=H,data:=.seq a n,slots:=t}/\(∀y,y∈a->EqAt A.in1 s y x (e y))/\R (.ok (.ret (.int j s.toks))) {s with toks:=s.toks+1}) :=
 .of_wp λf w A R s h=>by
  obtain⟨v,g,d,r,u⟩:=s;obtain⟨z,D,h⟩:=h
  wp_walk using uZ z,Lp
  refine yD _ (λrest (b:Option Fin×Unit) o=>b.1=ae/\o=⟨v,g,d,r,u⟩/\∃i,i<=j/\rest=List.range' i (a.size-i) 1) _ ?_ ?_ _ _ ⟨rfl,rfl,0,li _,by simp⟩
  .rintro i rest b o ⟨E,rfl,k,B,c⟩;have p:a.size-k=(a.size-k-1)+1:=∅
   rw[p,List.range'_succ]at c;injection c with hi c;subst hi;have q:i<a.size:=∅
   have C:a[i]?=aa a[i]:=vh q;rw[C];dsimp only;refine ap (D a[i] (Array.getElem_mem q) f w _ _ ?_);by_cases I:i=j
   .subst I;rw[G]
    wp_walk
    exact⟨_,rfl,h⟩
   .rw[F i q ∅]
    wp_walk
    exact⟨rfl,rfl,i+1,∅,by rw[c];congr 1⟩
  .rintro b o ⟨E,rfl,k,B,c⟩;have:a.size-k=0:=by have:=congrArg pJ c;simpa using this.symm
   lia
section
variable{X:Cx}
def KW(K:aw):V->List V->Hp->VK->Prop:=λx a H Q=>∃(p:af) (xs:List V) (y:V) (j:Nat),x=.ref p/\a=[y]/\b_ K H p xs/\dr y=ai/\xs.all dr=ai/\j<xs.length /\
 (∀z,xs[j]?=aa z->cb z y=ai)/\(∀(i:Nat) z,i<j->xs[i]?=aa z->cb z y=aj)/\Q (.int j) H
theorem JR:nB X "tuple.index" (KW X.K):=by
 intro ag s Y H x Z v us Q I C D h;obtain⟨p,xs,y,j,rfl,rfl,M,P,t,hj,O,N,q⟩:=h;cases C;obtain⟨u,rfl,E⟩:=D.one;obtain⟨a,r,⟨⟨W,T,A,B⟩,e,o,n,l⟩,hz⟩:=I.tuple M;simp only at o l;subst o l;have hl:a.length=xs.length:=r.length.symm;have c:∀(i:Nat) (g:i<a.toArray.size),∃w,xs[i]?=aa w/\f9 y a.toArray[i]=cb w y:=λi g=>by
  have J:i<a.length:=by simpa using g
  have z:xs[i]?=aa xs[i]:=dR ∅;obtain⟨w,b,G⟩:=r.get z;have S:a[i]=w:=by rw[dR J]at b;exact dw b
  refine⟨_,z,?_⟩;rw[<-qy G (lj.mp t _ (yq _))];simp[S]
 refine pN F.slot_tuple_index ⟨_,e,rfl⟩ F.entry_tuple_index (F.args_tuple_index_2 _ _) (K8 p a.toArray n T B u (f9 y) j (by simp;lia) ?_ ?_) ⟨e,λw K=>lN E P r t w (by simpa using K),?_⟩
 .obtain⟨w,b,d⟩:=c j (by simp;lia);rw[d];exact O w b
 .intro m L f;obtain⟨w,b,d⟩:=c m L;rw[d];exact N m w f b
 .exact⟨.int _,H,I.tok _,⟨_,rfl⟩,q⟩
end
end L2
namespace Pu
open L2
section
variable{X:Cx}{E:XK}{pin:List Nat}{e o:aA}{d de:ak->R PV}{y:Str}
theorem G1{b a:Pos}(Y:DE X E o d)(he:DE X E e de)(P:kc o "index" X.env (aM o X.env)=aM o X.env:=by rfl)(O:(b.endLine == a.line)=ai:=by rfl) (cF:kN e=aj:=by rfl):DE X E (.Call (.Attribute o "index" b) [e] [] a) (iP kR d de):=λF S I u H Q M h=>by
 have s:=jR (es:=[]) (env:=X.env) cF;refine bO (y0 PySem.F.slot_tuple_index PySem.F.type_tuple_index JR bp (gE bp iR s) P (by rw[s];rfl) O s rfl) (Y F S I u H _ M ((Ok.bind h).imp λx g F1 S1 H1 m g1 t v K=>?_));split at t
 .rename_i xs;obtain⟨p,A,rfl,B,L⟩:=K;refine⟨⟨p,A,rfl,B⟩,he F1 S1 g u H1 _ m ((Ok.bind t).imp λk G F2 S2 H2 N D q w l=>?_)⟩;unfold kR at q;cases c:cp k with
  |none=>rw[c]at q;exact q.elim
  |some z=>
   cases r:fq xs with
   |none=>rw[c,r]at q;exact q.elim
   |some J=>
    rw[c,r]at q;cases n:J.findIdx? (λy=>cb y z)with
    |none=>rw[gh,gh,n]at q;exact q.elim
    |some j=>
     rw[gh,gh,n]at q;obtain⟨rfl,hf⟩:=kE (L.grow D m.fit) r;rw[gx l c];obtain⟨C,W,T⟩:=C3.mp n;refine⟨p,A,z,j,rfl,rfl,b_.of (D.imm m.fit B id),lI c,hf,C,λy f=>?_,λi y Z f=>?_,q F2 S2 H2 N (bf.refl ..) _ rfl⟩
     .rw[dR C]at f;cases f;exact W
     .have:=T i Z;rw[dR ∅]at f;cases f;simpa using this
 .exact t.elim
def Aw:V->List V->Hp->VK->Prop:=λx xs H Q=>∃y c,x=tV y/\xs=[tV c]/\Q (.bl (decide (c <:+ y))) H
theorem Lb(y c:Tx):Txt.endswith (tS y) (tS c)=decide (c <:+ y):=by
 have f:(tS y).length=y.length:=by simp[tS,mh]
 have b:(tS c).length=c.length:=by simp[tS,mh]
 unfold Txt.endswith Builtin.Str.subAt;rw[f,b,me,eB,decide_eq_true_iff,decide_eq_true_iff,beq_iff_eq];have g:(tS y).cps.extract (y.length-c.length) (y.length-c.length+c.length)=(tS c).cps↔(y.drop (y.length-c.length)).take c.length=c:=by show y.toArray.extract _ _=c.toArray↔_;rw[<-Array.toList_inj];simp[List.extract_eq_take_drop]
 rw[g];constructor
 .rintro⟨h,a⟩;have:y.drop (y.length-c.length)=c:=by rw[nU (by simp;lia)]at a;exact a
  rw[<-this];exact List.drop_suffix _ _
 .rintro⟨p,rfl⟩;refine⟨by simp,?_⟩;simp
theorem Ec:uQ X "str.endswith" Aw:=by intro j s f H x xs v g Q I a b h;obtain⟨y,c,rfl,rfl,q⟩:=h;obtain⟨t,rfl⟩:=a;obtain⟨u,rfl,i,rfl⟩:=vals1 b;exact SC.endswith ⟨.bl _,H,I.tok _,(by rw[Lb];rfl),q⟩
def qm(y:Tx):List PV->Option PV
 |[.str c]=>aa (.bl (decide (c <:+ y)))
 |_=>ae
theorem KJ{K:aw}:PM K Aw qm:=λF H y xs b Q pv f a e q=>by
 unfold qm at e;split at e
 .rename_i c;cases e;obtain⟨v,rfl,rfl,_⟩:=gC a;exact⟨y,c,rfl,rfl,q _ F H (Al.refl ..) rfl⟩
 .cases e
end
end Pu
namespace L2
section
variable{X:Cx}
def Jc(K:aw):V->List V->Hp->VK->Prop:=λx a H Q=>∃(p:af) (xs:List V) (y:V),x=.ref p/\a=[y]/\b7 K H p xs/\dr y=ai/\xs.all dr=ai/\Q (.int ((xs.countP λz=>cb z y:Nat):Int)) H
theorem Ll:nB X "list.count" (Jc X.K):=by
 intro J s B H x C v D Q I j l h;obtain⟨p,xs,y,rfl,rfl,t,z,f,q⟩:=h;cases j;obtain⟨u,rfl,m⟩:=l.one;obtain⟨b,r,⟨⟨A,G,g,i⟩,n,e,d,a,c⟩,E⟩:=I.list t;simp only at d c a;subst d c a;refine pN F.slot_list_count ⟨_,e,rfl⟩ F.entry_list_count (F.args_list_count_2 _ _) (SeqAt.list_countAt p b.toArray n ae i u (f9 y)) ⟨e,λw o=>lN m z r f w (by simpa using o),?_⟩;exact⟨.int _,H,I.tok _,⟨_,by rw[va,uE r f]⟩,q⟩
end
end L2
namespace Pu
open L2
section
variable{X:Cx}{E:XK}{pin:List Nat}{e o:aA}{d de:ak->R PV}{y:Str}
def uK(f:List PV->PV->Option PV)(d de:ak->R PV):ak->R PV:=λε=>(d ε).bind λx b=>match x with
 |.lst xs=>(de b).bind λk a=>aW (f xs k) a
 |_=>.no
theorem FW{b a:Pos}(W:DE X E o d)(Z:DE X E e de)(T:kc o "count" X.env (aM o X.env)=aM o X.env:=by rfl)(P:(b.endLine == a.line)=ai:=by rfl) (cF:kN e=aj:=by rfl):DE X E (.Call (.Attribute o "count" b) [e] [] a) (uK gB d de):=λF S L A H Q N h=>by
 have t:=jR (es:=[]) (env:=X.env) cF;refine bO (pi vn PySem.F.slot_list_count PySem.F.type_list_count Ll bp (gE bp iR t) T (by rw[t];rfl) P t rfl) (W F S L A H _ N ((Ok.bind h).imp λx l J S1 G j g1 i v M=>?_));split at i
 .rename_i xs;obtain⟨p,B,rfl,C,hF,r⟩:=M;refine⟨.inl ⟨rfl,_,.inl C⟩,Z J S1 l A G _ j ((Ok.bind i).imp λk K I S2 D O u q w m=>?_)⟩;unfold gB at q;cases g:cp k with
  |none=>rw[g]at q;exact q.elim
  |some z=>
   cases f:fq xs with
   |none=>rw[g,f]at q;exact q.elim
   |some ws=>
    rw[g,f]at q;obtain⟨rfl,Y⟩:=kE (r.grow u j.fit) f;rw[gx m g];have s:aR X.K D I (.lst xs) (.ref p):=aR.grow u j.fit (show aR X.K G J (.lst xs) (.ref p)from⟨p,B,rfl,C,hF,r⟩);obtain⟨p',c,e',eE,_,n⟩:=s;cases e';have e2:c=B:=by have i:=(kE n f).1;have h2:=(kE (r.grow u j.fit) f).1;rw[i,h2]
    subst e2;exact⟨p,c,z,rfl,rfl,.inl eE,lI g,Y,q I S2 D O (bf.refl ..) _ rfl⟩
 .exact i.elim
end
def oE:PV->PV->Option PV
 |.tup [],.tup a=>aa (.tup a)
 |.tup (x::xs),.tup []=>if xs.length<1000 then aa (.tup (x::xs))else ae
 |x,y=>bt x y
theorem zf{K:aw}:P2 K (λx y H Q=>xt K x y H Q\/tZ K x y H Q) oE:=λF H x y v u Q pv d c e q=>by
 unfold oE at e;split at e
 .cases e;obtain⟨a,i,rfl,g,j⟩:=d;obtain⟨b,h,rfl,f,l⟩:=id c;rw[show i=[] from j]at g;exact .inl ⟨a,b,h,rfl,rfl,b_.of g,b_.of f,q _ F H (Al.refl ..) c⟩
 .split at e
  .rename_i n;cases e;obtain⟨a,i,rfl,g,j⟩:=id d;obtain⟨b,h,rfl,f,l⟩:=id c;rw[show h=[] from l]at f;have m:=j.len;refine .inr (.inr (.inl ⟨a,b,i,[],rfl,rfl,b_.of g,b_.of f,?_,?_,λ_=>q _ F H (Al.refl ..) d,λz=>absurd rfl z⟩))
   .rintro rfl;simp at m
   .rw[m,nG];simp;lia
  .cases e
 .exact .inr (eP F H _ _ v u Q pv d c e q)
end Pu
local macro_rules | `(tactic| simp! [$xs,*]) => `(tactic| simp [Pu.bh, Pu.cH, Pu.dB, Pu.d2, Pu.d1, Pu.dV, Pu.dC, Pu.dL, Pu.dF, Pu.ay, Pu.aK, Pu.bV, Pu.mM, Pu.dm, Pu.kT, Pu.a7, Pu.gV, Pu.gO, Pu.bu, Pu.gu, Pu.gH, Pu.cr, Pu.et, Pu.g6, Pu.R.bind, Pu.aW, Pu.bw, Pu.dW, Pu.bC, Pu.back, Pu.fW, Pu.lJ, Pu.BI, Pu.zA, Pu.B0, Pu.Bf, Pu.ba, Pu.t_, Pu.fQ, Pu.dO, Pu.c8, Pu.K4, Pu.rD, Pu.Kq, Pu.jT, Pu.xA, Pu.qr, Pu.mI, Pu.kF, Pu.Iw, Pu.m_, Pu.dj, Pu.c0, Pu.o0, Pu.js, Pu.mU, Pu.imm, Pu.uz, Pu.kJ, bW, pJ, $xs,*])
local macro_rules | `(⇑$x) => `(.val (.int $x))
local macro_rules | `(↥$x) => `(.val (.str $x))
namespace Sh
open L2 Pu
set_option genInjectivity false in
structure Ad where
 SlitError:af
 NoText:af
 NoWidth:af
 NoView:af
 NoWindow:af
 Never:af
 Full:af
 Nothing:af
 Unlike:af
 NoPlace:af
 NoLetters:af
 BadText:af
 Seeker:af
 Slit:af
def fu(a:Ad):List af:=[a.NoText,a.NoWidth,a.NoView,a.NoWindow,a.Never,a.Full,a.Nothing,a.Unlike,a.NoPlace,a.NoLetters,a.BadText]
def lL(a:Ad)(c:ah):Bool:=match c with
 |.ref x=>(fu a).contains x
 |_=>aj
def hU(a:Ad)(c:ah)(D:V):Option Bool:=match c,D with
 |.ref x,.ref d=>if(fu a).contains x&&(fu a).contains d then aa (x == d)else ae
 |.ref x,.ty T=>if(fu a).contains x&&T == "ValueError" then aa ai else ae
 |_,_=>ae
def yaq(a:Ad):ak->R aP:=bV (dL pc (ay (dF (hV [1] (gA (dV 0)) (iT) (d2 (oH aj) (dV 0) (dV 1)))) (aK)))
def rh(a:Ad):ak->R Slot:=bw 2 [] (bC 0 (yaq a))
def yau(a:Ad):ak->R aP:=bV (kF (dL gb (ay (dV 0) (ay (dC (.raw (.ty "int"))) (aK)))) (xA (dL gb (ay (dV 0) (ay (dC (.raw (.ty "bool"))) (aK))))))
def tF(a:Ad):ak->R Slot:=bw 1 [] (bC 0 (yau a))
def yav(a:Ad):ak->R aP:=bV (kF (ba (a7 (tF a) (gV (dV 0) (bu)))) (m_ (dj λi j=>decide (i<=j)) (dj λi j=>decide (i<=j)) (dC (.int 1)) (dV 0) (dC (.int 4))))
def pB(a:Ad):ak->R Slot:=bw 1 [] (bC 0 (yav a))
def yaw(a:Ad):ak->R aP:=bV (kF (dL gb (ay (dV 0) (ay (dC (.raw (.ty "str"))) (aK)))) (kF (d2 (eqT aj) (dL br (ay (dV 0) (aK))) (dV 1)) (ba (a7 (rh a) (gV (dV 0) (gV (dV 2) (bu)))))))
def ph(a:Ad):ak->R Slot:=bw 3 [] (bC 0 (yaw a))
def yan(a:Ad):ak->R aP:=bh (cH (mI (jT (dB (dL gb (ay (dV 0) (ay (dC (.raw (.ty "tuple"))) (aK)))))) (jT (dB (m_ (dj λi j=>decide (i<=j)) (dj λi j=>decide (i<=j)) (dC (.int 1)) (dL br (ay (dV 0) (aK))) (dC (.int 9)))))) (bV (dC (.bl aj))) (c8))
 (bh (cH (jT (dB (dL pc (ay (dF (hV [1,2] (gA (dV 0)) (iT) (ba (a7 (ph a) (gV (dV 0) (gV (dV 1) (gV (dV 2) (bu)))))))) (aK))))) (bV (dC (.bl aj))) (c8))
 (bV (d2 (eqT aj) (dF (dL o9 (ay (dV 0) (aK)))) (dF (dL nq (ay (dV 0) (aK)))))))
def lT(a:Ad):ak->R Slot:=bw 3 [] (bC 0 (yan a))
def yat(a:Ad):ak->R aP:=bh (cH (mI (jT (dB (dL gb (ay (dV 0) (ay (dC (.raw (.ty "tuple"))) (aK)))))) (dB (d2 (eqT ai) (dL br (ay (dV 0) (aK))) (dC (.int 2))))) (bV (dC (.bl aj))) (c8))
 (bV (kF (ba (a7 (pB a) (gV (d2 bP (dV 0) (dC (.int 0))) (bu)))) (ba (a7 (lT a) (gV (d2 bP (dV 0) (dC (.int 1))) (gV (d2 bP (dV 0) (dC (.int 0))) (gV (dV 1) (bu))))))))
def o6(a:Ad):ak->R Slot:=bw 2 [] (bC 0 (yat a))
def yas(a:Ad):ak->R aP:=mM (a7 (o6 a) (gV (dV 0) (gV (dC (.str [97,98,99])) (bu))))
def qT(a:Ad):ak->R Slot:=bw 1 [] (bC 0 (yas a))
def yap(a:Ad):ak->R aP:=cH (jT (dB (ba (a7 (qT a) (gV (dV 0) (bu)))))) (qw (.ref a.NoView) (λb=>cG ((dC (.str [97,32,118,105,101,119,32,105,115,32,97,32,116,117,112,108,101,32,111,102,32,97,32,119,105,100,116,104,32,97,110,100,32,97,32,114,105,115,105,110,103,32,116,117,112,108,101,32,111,102,32,49,32,116,111,32,57,32,119,105,110,100,111,119,115])) b))) (c8)
def jo(a:Ad):ak->R Slot:=bw 1 [] (bC 0 (yap a))
def yam(a:Ad):ak->R aP:=bh (λb=>fj (fR 2 (dL qo (ay (d2 je (dL br (ay (dV 1) (aK))) (dC (.int 1))) (ay (dC (.int 0)) (ay (d1 oV (dC (.int 1))) (aK))))) (cH (dB (qG qm (dV 0) (ay (d9 dD (dV 1) (g_) (dq (dV 2))) (aK)))) (bV (d9 dD (dV 1) (dq (dV 2)) (g_))) (c8)) b))
 (bV (dV 1))
def qB(a:Ad):ak->R Slot:=bw 2 [] (bC 1 (yam a))
def yaM(a:Ad):ak->R aP:=bh (dm 2 (iP kR (dV 0) (dV 1)))
 (bV (d2 oE (d9 dD (dV 0) (g_) (dq (dV 2))) (d9 dD (dV 0) (dq (d2 oE (dV 2) (dC (.int 1)))) (g_))))
def qM(a:Ad):ak->R Slot:=bw 2 [] (bC 1 (yaM a))
def yaI(a:Ad)(rc:ak->R Slot):ak->R aP:=bh (cH (dB (d2 (eqT aj) (dL br (ay (dV 1) (aK))) (dC (.int 0)))) (bV (dC (.str []))) (c8))
 (bh (cH (dB (nD ai 2 (dL dO (ay (dV 0) (ay (dV 1) (aK)))))) (bh (kT 3 (dL fQ (aK)))
 (bh (λb=>fj (fR 4 (gA (dF (dL ny (ay (dV 1) (aK))))) (o0 3 (d2 bt (ba (a7 (qB a) (gV (dV 0) (gV (dV 4) (bu))))) (ba (a7 (rc) (gV (dV 4) (gV (ba (a7 (qM a) (gV (dV 1) (gV (dV 4) (bu))))) (gO 2 (bu)))))))) b))
 (q8 2 (dL dO (ay (dV 0) (ay (dV 1) (aK)))) (oN 3)))) (c8))
 (bV (rA 2 (dL dO (ay (dV 0) (ay (dV 1) (aK)))))))
def jl(a:Ad):Nat->ak->R Slot
 |0=>bw 3 [2] (bC 2 Am)
 |k+1=>bw 3 [2] (bC 2 (yaI a (jl a k)))
def yaK(a:Ad):ak->R aP:=bh (rD (a7 (jo a) (gV (dV 0) (bu))))
 (mM (tq (jl a 10) (t9 (dC (.str [])) (t9 (d2 bP (dV 0) (dC (.int 1))) (gN (wZ) (bu))))))
def qV(a:Ad):ak->R Slot:=bw 1 [] (bC 0 (yaK a))
def yaz(a:Ad):ak->R aP:=bh (cH (dB (d2 (dj λi j=>decide (i<j)) (dV 1) (dL br (ay (dV 0) (aK))))) (bV (d2 bP (dV 0) (dV 1))) (c8))
 (bh (cH (dB (d2 (eqT aj) (dV 0) (dF (dL fQ (aK))))) (bV (dC (.int 0))) (c8))
 (bV (d2 bt (d2 f_ (d2 bP (dV 0) (d2 eQ (dV 1) (dL br (ay (dV 0) (aK))))) (dC (.int 31))) (dV 1))))
def oY(a:Ad):ak->R Slot:=bw 2 [] (bC 0 (yaz a))
def yaC(a:Ad):ak->R aP:=bh (dm 3 (d2 eQ (d2 bt (d2 bt (d2 f_ (ba (a7 (oY a) (gV (dV 0) (gV (dV 1) (bu))))) (dC (.int 1103515245))) (d2 f_ (dC (.int 7919)) (dV 1))) (dC (.int 12345))) (dC (.int 2147483647))))
 (bV (d2 eQ (d2 eQ (d2 eQ (d2 qI (dV 3) (dC (.int 5))) (dC (.int 2147483647))) (dC (.int 999983))) (dV 2)))
def uH(a:Ad):ak->R Slot:=bw 3 [] (bC 1 (yaC a))
def yaA(a:Ad):ak->R aP:=bh (o0 1 (dC (.int 0)))
 (mM (a7 (uH a) (gV (dV 0) (gV (js (λxs=>mU (br xs)) 1) (gV (dV 2) (bu))))))
def gc(a:Ad):ak->R Slot:=bw 3 [1] (bC 0 (yaA a))
def yaD(a:Ad):ak->R aP:=bV (d2 bP (dV 2) (ba (a7 (gc a) (gV (dV 0) (gO 1 (gV (dL br (ay (dV 2) (aK))) (bu)))))))
def nh(a:Ad):ak->R Slot:=bw 3 [1] (bC 0 (yaD a))
def yaF(a:Ad):ak->R aP:=bh (dm 4 (ba (a7 (nh a) (gV (dV 0) (gO 1 (gV (dF (dL fQ (ay (dC (.int 1)) (ay (dC (.int 2)) (ay (dC (.int 2)) (ay (dC (.int 3)) (ay (dC (.int 3)) (ay (dC (.int 3)) (aK))))))))) (bu)))))))
 (bh (dm 5 (dC (.str [])))
 (bh (λb=>fj (fR 6 (dL jb (ay (d2 bt (dV 2) (ba (a7 (gc a) (gV (dV 0) (gO 1 (gV (d2 bt (d2 je (dV 3) (dV 2)) (dC (.int 1))) (bu))))))) (aK))) (dm 5 (d2 bt (dV 5) (d2 bP (dC (.str [97,98,99])) (ba (a7 (gc a) (gV (dV 0) (gO 1 (gV (dV 4) (bu))))))))) b))
 (bV (dV 5))))
def kG(a:Ad):ak->R Slot:=bw 4 [1] (bC 3 (yaF a))
def yaE(a:Ad):ak->R aP:=bV (dL o5 (ay (dF (dL nq (ay (dF (hV [0,1] (dL jb (ay (dL br (ay (dV 0) (aK))) (aK))) (dB (d2 (dj λi j=>decide (i<=j)) (d2 bt (dV 0) (dV 2)) (dL br (ay (dV 1) (aK))))) (d9 dD (dV 1) (dq (dV 0)) (dq (d2 bt (dV 0) (dV 2)))))) (aK)))) (aK)))
def qJ(a:Ad):ak->R Slot:=bw 2 [] (bC 0 (yaE a))
def yaG(a:Ad):ak->R aP:=bh (dm 4 (cH (dB (d2 (eqT ai) (dV 2) (dC (.int 2)))) (d2 bt (dC (.int 2)) (ba (a7 (gc a) (gV (dV 0) (gO 1 (gV (dC (.int 3)) (bu))))))) (d2 bt (dC (.int 1)) (ba (a7 (gc a) (gV (dV 0) (gO 1 (gV (dC (.int 4)) (bu)))))))))
 (bh (kT 5 (dL o9 (ay (ba (a7 (qJ a) (gV (ba (a7 (kG a) (gV (dV 0) (gO 1 (gV (dV 4) (gV (d2 je (d2 bt (dV 4) (dV 3)) (dC (.int 1))) (bu))))))) (gV (dV 4) (bu))))) (aK))))
 (bh (λb=>fj (fR 6 (dL jb (ay (d2 eQ (dV 2) (dC (.int 3))) (aK))) (uJ 5 (ba (a7 (gc a) (gV (dV 0) (gO 1 (gV (js (λxs=>mU (br xs)) 5) (bu)))))) (ba (a7 (kG a) (gV (dV 0) (gO 1 (gV (dV 4) (gV (dV 4) (bu)))))))) b))
 (bV (dL dO (ay (dV 4) (ay (dL o5 (ay (dF (js (λxs=>uz (nq xs)) 5)) (aK))) (aK)))))))
def qc(a:Ad):ak->R Slot:=bw 4 [1] (bC 3 (yaG a))
def yaH(a:Ad):ak->R aP:=bh (kT 1 (dL fQ (ay (dL (iw (hU a)) (ay (dV 0) (ay (dC (.raw (.ref a.NoText))) (aK)))) (ay (dL (iw (hU a)) (ay (dV 0) (ay (dC (.raw (.ref a.NoWidth))) (aK)))) (ay (dL (iw (hU a)) (ay (dV 0) (ay (dC (.raw (.ref a.NoView))) (aK)))) (ay (dL (iw (hU a)) (ay (dV 0) (ay (dC (.raw (.ref a.NoWindow))) (aK)))) (aK)))))))
 (bh (um 1 (dF (dL fQ (ay (dL (iw (hU a)) (ay (dV 0) (ay (dC (.raw (.ref a.Never))) (aK)))) (ay (dL (iw (hU a)) (ay (dV 0) (ay (dC (.raw (.ref a.Full))) (aK)))) (ay (dL (iw (hU a)) (ay (dV 0) (ay (dC (.raw (.ref a.Nothing))) (aK)))) (ay (dL (iw (hU a)) (ay (dV 0) (ay (dC (.raw (.ref a.Unlike))) (aK)))) (aK))))))))
 (bh (um 1 (dF (dL fQ (ay (dL (iw (hU a)) (ay (dV 0) (ay (dC (.raw (.ref a.NoPlace))) (aK)))) (ay (dL (iw (hU a)) (ay (dV 0) (ay (dC (.raw (.ref a.NoLetters))) (aK)))) (ay (dL (iw (hU a)) (ay (dV 0) (ay (dC (.raw (.ref a.BadText))) (aK)))) (aK)))))))
 (bh (cH (mI (dB (d2 (eqT ai) (o4 gB 1 (dC (.bl ai))) (dC (.int 1)))) (jT (dB (dL (iw (hU a)) (ay (dV 0) (ay (dC (.raw (.ty "ValueError"))) (aK))))))) (bV (dL dO (ay (dC (.str [114,101,102,117,115,101,100])) (ay (d1 oV (dC (.int 1))) (aK))))) (c8))
 (bV (dL dO (ay (dC (.str [114,101,102,117,115,101,100])) (ay (o4 kR 1 (dC (.bl ai))) (aK))))))))
def pf(a:Ad):ak->R Slot:=bw 1 [] (bC 1 (yaH a))
def yar(a:Ad):ak->R aP:=bV (kF (dL gb (ay (dV 0) (ay (dC (.raw (.ty "str"))) (aK)))) (kF (m_ (dj λi j=>decide (i<=j)) (dj λi j=>decide (i<=j)) (dC (.int 1)) (dL br (ay (dV 0) (aK))) (dV 1)) (ba (a7 (rh a) (gV (dV 0) (gV (dC (.str [97,98,99])) (bu)))))))
def jv(a:Ad):ak->R Slot:=bw 2 [] (bC 0 (yar a))
def yaJ(a:Ad):ak->R aP:=qe (hV [0,1] (dL jb (ay (d2 bt (d2 je (dL br (ay (dV 0) (aK))) (dV 1)) (dC (.int 1))) (aK))) (iT) (d9 dD (dV 1) (dq (dV 0)) (dq (d2 bt (dV 0) (dV 2)))))
def nA(a:Ad):ak->R Slot:=bw 2 [] (bC 0 (yaJ a))
def yao(a:Ad):ak->R aP:=cH (jT (dB (ba (a7 (jv a) (gV (dV 0) (gV (dC (.int 60)) (bu))))))) (qw (.ref a.NoText) (λb=>cG ((dC (.str [97,32,116,101,120,116,32,116,104,97,116,32,104,97,115,32,97,32,118,105,101,119,32,119,105,116,104,105,110,32,105,116,32,104,97,115,32,49,32,116,111,32,54,48,32,108,101,116,116,101,114,115,32,97,44,32,98,44,32,99])) b))) (c8)
def l7(a:Ad):ak->R Slot:=bw 1 [] (bC 0 (yao a))
def yaL(a:Ad):ak->R aP:=bh (rD (a7 (l7 a) (gV (dV 0) (bu))))
 (bh (rD (a7 (jo a) (gV (dV 1) (bu))))
 (bh (dm 2 (ba (a7 (nA a) (gV (dV 0) (gV (d2 bP (dV 1) (dC (.int 0))) (bu))))))
 (bV (dL pc (ay (dF (hV [2,1] (gA (d2 bP (dV 1) (dC (.int 1)))) (iT) (d2 (dj λi j=>decide (j<=i)) (uK gB (dV 1) (dV 0)) (iP gB (d2 bP (dV 2) (dC (.int 1))) (dV 0))))) (aK))))))
def iQ(a:Ad):ak->R Slot:=bw 2 [] (bC 1 (yaL a))
def yaB(a:Ad):ak->R aP:=bh (dm 2 (ba (a7 (qJ a) (gV (dV 0) (gV (d2 bP (dV 1) (dC (.int 0))) (bu))))))
 (bh (λb=>fj (fR 3 (gA (d2 bP (dV 1) (dC (.int 1)))) (cH (dB (d2 (dj λi j=>decide (i<j)) (iP gB (dV 2) (dV 3)) (iP gB (d2 bP (dV 1) (dC (.int 1))) (dV 3)))) (bV (dC (.bl aj))) (c8)) b))
 (bV (dC (.bl ai))))
def qL(a:Ad):ak->R Slot:=bw 2 [] (bC 2 (yaB a))
end Sh
local macro_rules | `(tactic| and_intros) => `(tactic| (refine' Pu.LZ ?a ?l ?c ?k; (case a => k_is); (case l => k_is); (case c => k_is); (case k => k_is)))
namespace K14
open L2 Pu Sh
def cS(i:Nat):aU:=PySem.Challenge.pw_slitview_k14_whole_within.main.body.getD i (.Pass ⟨0,0,0,0⟩)
abbrev vN:aU:=cS 36
abbrev vG:aU:=cS 37
abbrev wz:aU:=cS 38
abbrev xJ:aU:=cS 39
abbrev tt:aU:=cS 41
abbrev wp:aU:=cS 40
abbrev vZ:aU:=cS 42
abbrev v7:aU:=cS 19
abbrev xR:aU:=cS 21
abbrev tQ:aU:=cS 18
abbrev xr:aU:=cS 22
abbrev tT:aU:=cS 23
abbrev xg:aU:=cS 24
abbrev wK:aU:=cS 25
abbrev xS:aU:=cS 27
abbrev wj:aU:=cS 30
abbrev xH:aU:=cS 31
abbrev wf:aU:=cS 32
abbrev w_:aU:=cS 33
abbrev xy:aU:=cS 20
abbrev vH:aU:=cS 26
abbrev t7:aU:=cS 28
abbrev tx:aU:=cS 34
abbrev wm:aU:=cS 45
abbrev wl:aU:=cS 43
abbrev v6:aU:=cS 44
abbrev tj:aU:=cS 46
structure cR(K:aw)(mg:Str->Option ah)(base:az)(a:Ad):Prop where
 yaz:cq K mg "_law_cell_at" vN
 yaC:cq K mg "_law_mixed" vG
 yaA:cq K mg "_law_draw" wz
 yaD:cq K mg "_law_pick" xJ
 yaE:cq K mg "_law_seen" tt
 yaF:cq K mg "_law_text" wp
 yaG:cq K mg "_law_view" vZ
 yau:cq K mg "is_whole_number" v7
 yav:cq K mg "is_width" xR
 yaq:cq K mg "has_only" tQ
 yaw:cq K mg "is_window" xr
 yan:cq K mg "are_windows" tT
 yat:cq K mg "is_view_with" xg
 yas:cq K mg "is_view" wK
 yap:cq K mg "check_view" xS
 yam:cq K mg "added_letters" wj
 yaM:cq K mg "without" xH
 yaI:cq K mg "least_ending" wf
 yaK:cq K mg "shortest" w_
 yar:cq K mg "is_text_up_to" xy
 yao:cq K mg "check_text_around" vH
 yaJ:cq K mg "pieces" t7
 yaL:cq K mg "within" tx
 yaB:cq K mg "_law_has" wm
 yaH:cq K mg "_law_which" wl
 yay:cq K mg "_law_ask" v6
 yax:cq K mg "law" tj
 yaO:mg "ValueError"=ae
 yaP:mg "all"=ae
 yaQ:mg "bool"=ae
 yaR:mg "int"=ae
 yaS:mg "isinstance"=ae
 yaT:mg "len"=ae
 yaU:mg "list"=ae
 yaV:mg "min"=ae
 yaW:mg "range"=ae
 yaX:mg "set"=ae
 yaY:mg "sorted"=ae
 yaZ:mg "str"=ae
 ya0:mg "tuple"=ae
 ya3:∃t,mg "LETTERS"=aa (.str (tS [97,98,99]) t)
 ya4:∃t,mg "MOST_LETTERS_AROUND"=aa (.int 60 t)
 ya5:∃t,mg "MOST_WINDOWS"=aa (.int 9 t)
 ya6:∃t,mg "WIDEST"=aa (.int 4 t)
 yak:mg "SlitError"=aa (.ref a.SlitError)
 yaf:mg "NoText"=aa (.ref a.NoText)
 yah:mg "NoWidth"=aa (.ref a.NoWidth)
 yag:mg "NoView"=aa (.ref a.NoView)
 yai:mg "NoWindow"=aa (.ref a.NoWindow)
 yac:mg "Never"=aa (.ref a.Never)
 yab:mg "Full"=aa (.ref a.Full)
 yaj:mg "Nothing"=aa (.ref a.Nothing)
 yal:mg "Unlike"=aa (.ref a.Unlike)
 yae:mg "NoPlace"=aa (.ref a.NoPlace)
 yad:mg "NoLetters"=aa (.ref a.NoLetters)
 yaa:mg "BadText"=aa (.ref a.BadText)
 ya2:OwnCls "NoView" a.NoView [.type "ValueError",.type "Exception",.type "BaseException",.type "object"] "ValueError.__new__" mg base
 ya1:OwnCls "NoText" a.NoText [.type "ValueError",.type "Exception",.type "BaseException",.type "object"] "ValueError.__new__" mg base
 err_SlitError:nz base a.SlitError
 und:∀c,lL a c=ai->Under base a.SlitError c
 tab:wb K (hU a)
 yaN:∃c T,xx K mg "least_ending" c T
section
variable{P:aN}{w:aD}{K:aw}{d:Str->Option ah}{b:az}{a:Ad}
theorem Jg:b0 ["_law_script","_law_k"] ["_law_script","_law_k"] (aT vN):=by ac_nf
theorem Jp(G:cR K d b a):cD (ce P w) P w K d b "_law_cell_at" 1 ["_law_script","_law_k"] (bH K (oY a)) :=
 df (k:=0) (pin:=[]) G.yaz Jg rfl (λ_ _ _ _ _ _ g i=>Pu.L4 (λ_ _=>rfl) g i) (λf j A c s H E h=>by exact
  (bS (fY (g9 xu iW (ar 1) (cf gF gP G.yaT gD (aB (ar 0) aV)) rfl) (bv (cy (gw gK gL (ar 0) (ar 1)))) fP)
  (bS (fY (g9 (re h.units) qC (ar 0) (pe aV) rfl) (bv (cy aY)) fP)
  (bv (cy (b8 eT eP (b8 oX oP (gw gK gL (ar 0) (b8 oG pE (ar 1) (cf gF gP G.yaT gD (aB (ar 0) aV)))) aY) (ar 1)))))))
theorem Iq:b0 ["_law_script","_law_k","_law_many","_law_drawn"] ["_law_script","_law_k","_law_many"] (aT vG):=by ac_nf
theorem DD(G:cR K d b a):cD (ce P w) P w K d b "_law_mixed" 2 ["_law_script","_law_k","_law_many"] (bH K (uH a)) :=
 df (k:=1) (pin:=[]) G.yaC Iq rfl (λ_ _ _ _ _ _ g i=>Pu.Mb (λ_ _ _=>rfl) g i) (λf j A c s H E h=>by exact
  (bS (gy 3 Iq.nd (b8 oG pE (b8 eT eP (b8 eT eP (b8 oX oP ((bG (Jp G) (h.mono (by decide)) bX (aH (ar 0) (aH (ar 1) bz)))).de aY) (b8 oX oP aY (ar 1))) aY) aY))
  (bv (cy (b8 oG pE (b8 oG pE (b8 oG pE (b8 JU Ls (ar 3) aY) aY) aY) (ar 2))))))
theorem KC:b0 ["_law_script","_law_town","_law_many"] ["_law_script","_law_town","_law_many"] (aT wz):=by ac_nf
theorem kC(G:cR K d b a):cD (ce P w) P w K d b "_law_draw" 3 ["_law_script","_law_town","_law_many"] (bH K (gc a)) :=
 df (k:=2) (pin:=[1]) G.yaA KC rfl (λ_ _ _ _ _ _ g i=>Pu.Mb (λ_ _ _=>rfl) g i) (λf j A c s H E h=>by exact
  (bS (AV 1 aY)
  (bv (tw (bG (DD G) (h.mono (by decide)) bX (aH (ar 0) (aH (Bn 1 gF gP G.yaT gD) (aH (ar 2) bz))))))))
theorem Is:b0 ["_law_script","_law_town","_law_some"] ["_law_script","_law_town","_law_some"] (aT xJ):=by ac_nf
theorem xO(G:cR K d b a):cD (ce P w) P w K d b "_law_pick" 4 ["_law_script","_law_town","_law_some"] (bH K (nh a)) :=
 df (k:=3) (pin:=[1]) G.yaD Is rfl (λ_ _ _ _ _ _ g i=>Pu.Mb (λ_ _ _=>rfl) g i) (λf j A c s H E h=>by exact
  (bv (cy (gw gK gL (ar 2) ((bG (kC G) (h.mono (by decide)) bX (aH (ar 0) (fO 1 (aH (cf gF gP G.yaT gD (aB (ar 2) aV)) bz))))).de))))
theorem Kb:b0 ["_law_text_here","_law_width"] ["_law_text_here","_law_width"] (aT tt):=by ac_nf
theorem y9(G:cR K d b a):cD (ce P w) P w K d b "_law_seen" 1 ["_law_text_here","_law_width"] (bH K (qJ a)) :=
 df (k:=0) (pin:=[]) G.yaE Kb rfl (λ_ _ _ _ _ _ i l=>Pu.L4 (λ_ _=>rfl) i l) (λf o A h s H E n=>by exact
  (bv (cy (Cp BJ BQ G.ya0 tU (aB (zu vR xK G.yaY uc (aB (qd (cap:=[0,1]) (N':=["_law_at","_law_text_here","_law_width"]) (jY.of ["_law_text_here","_law_width"] (aT tt) rfl rfl (by decide +kernel)) rfl (tJ G.yaW (aB (cf gF gP G.yaT gD (aB (ar 0) aV)) aV)) (λC c g m j=>by exact HX (g9 mH iW (b8 eT eP (ar 0) (ar 2)) (cf gF gP G.yaT gD (aB (ar 1) aV)) rfl)) (λC c g m j=>by exact(lZ l6 l0 (ar 1) (jS (ar 0)) (jS (b8 eT eP (ar 0) (ar 2)))))).de aV)).de aV)))))
theorem Lh:b0 ["_law_script","_law_town","_law_low","_law_most","_law_few","_law_made","_law_k"] ["_law_script","_law_town","_law_low","_law_most"] (aT wp):=by ac_nf
theorem vP(G:cR K d b a):cD (ce P w) P w K d b "_law_text" 5 ["_law_script","_law_town","_law_low","_law_most"] (bH K (kG a)) :=
 df (k:=4) (pin:=[1]) G.yaF Lh rfl (λ_ _ _ _ _ _ h i=>Pu.Mo (λ_ _ _ _=>rfl) h i) (λf j A c s H E g=>by exact
  (bS (gy 4 Lh.nd ((bG (xO G) (g.mono (by decide)) bX (aH (ar 0) (fO 1 (aH (pe (aB aY (aB aY (aB aY (aB aY (aB aY (aB aY aV))))))) bz))))).de)
  (bS (gy 5 Lh.nd (dG []))
  (bS (qz (qH 6 vr rfl Lh.nd (tJ G.yaW (aB (b8 eT eP (ar 2) ((bG (kC G) (g.mono (by decide)) l5 (aH (ar 0) (fO 1 (aH (b8 eT eP (b8 tz tE (ar 3) (ar 2)) aY) bz))))).de) aV)) (bv (gy 5 Lh.nd (b8 eT eP (ar 5) (gw gK gL (dG [97,98,99]) ((bG (kC G) (g.mono (by decide)) l5 (aH (ar 0) (fO 1 (aH (ar 4) bz))))).de))))))
  (bv (cy (ar 5)))))))
theorem Ko:b0 ["_law_script","_law_town","_law_spoil","_law_most","_law_width","_law_windows","_law_k"] ["_law_script","_law_town","_law_spoil","_law_most"] (aT vZ):=by ac_nf
theorem JM(G:cR K d b a):cD (ce P w) P w K d b "_law_view" 6 ["_law_script","_law_town","_law_spoil","_law_most"] (bH K (qc a)) :=
 df (k:=5) (pin:=[1]) G.yaG Ko rfl (λ_ _ _ _ _ _ h i=>Pu.Mo (λ_ _ _ _=>rfl) h i) (λf j A g s H E c=>by exact
  (bS (gy 4 Ko.nd (Ip (g9 (mP c.units) nt (ar 2) aY rfl) (b8 eT eP aY ((bG (kC G) (c.mono (by decide)) bX (aH (ar 0) (fO 1 (aH aY bz))))).de) (b8 eT eP aY ((bG (kC G) (c.mono (by decide)) bX (aH (ar 0) (fO 1 (aH aY bz))))).de)))
  (bS (uu 5 Ko.nd (Av Cn A2 G.yaU zG (aB ((bG (y9 G) (c.mono (by decide)) bX (aH ((bG (vP G) (c.mono (by decide)) bX (aH (ar 0) (fO 1 (aH (ar 4) (aH (b8 tz tE (b8 eT eP (ar 4) (ar 3)) aY) bz)))))).de (aH (ar 4) bz)))).de aV)))
  (bS (qz (qH 6 vr rfl Ko.nd (tJ G.yaW (aB (b8 oG pE (ar 2) aY) aV)) (bv (IL 5 ((bG (kC G) (c.mono (by decide)) l5 (aH (ar 0) (fO 1 (aH (Bn 5 gF gP G.yaT gD) bz))))).de ((bG (vP G) (c.mono (by decide)) l5 (aH (ar 0) (fO 1 (aH (ar 4) (aH (ar 4) bz)))))).de))))
  (bv (cy (i7 (aB (ar 4) (aB (Cp BJ BQ G.ya0 tU (aB (IR 5 vR xK G.yaY uc).de aV)) aV)))))))))
theorem GF:b0 ["thing"] ["thing"] (aT v7):=by ac_nf
theorem EH(G:cR K d b a):cD (ce P w) P w K d b "is_whole_number" 1 ["thing"] (bH K (tF a)) :=
 df (k:=0) (pin:=[]) G.yau GF rfl (λ_ _ _ _ _ _ g h=>Pu.Me (λ_=>rfl) g h) (λf j A c s H E i=>by exact
  (bv (cy (nv (cf mK ni G.yaS fk (aB (ar 0) (aB (mQ G.yaR IK) aV))) (qf (JE (cf mK ni G.yaS fk (aB (ar 0) (aB (mQ G.yaQ IA) aV)))))))))
theorem Kn:b0 ["thing"] ["thing"] (aT xR):=by ac_nf
theorem Gw(G:cR K d b a):cD (ce P w) P w K d b "is_width" 2 ["thing"] (bH K (pB a)) :=
 df (k:=1) (pin:=[]) G.yav Kn rfl (λ_ _ _ _ _ _ g i=>Pu.Me (λ_=>rfl) g i) (λf j A c s H E h=>by exact
  (bv (cy (nv ((bG (EH G) (h.mono (by decide)) bX (aH (ar 0) bz))).de (qf (Cb mH mH iW iW aY (ar 0) (xz G.ya6)))))))
theorem EZ:b0 ["text","signs"] ["text","signs"] (aT tQ):=by ac_nf
theorem Ba(G:cR K d b a):cD (ce P w) P w K d b "has_only" 1 ["text","signs"] (bH K (rh a)) :=
 df (k:=0) (pin:=[]) G.yaq EZ rfl (λ_ _ _ _ _ _ i l=>Pu.L4 (λ_ _=>rfl) i l) (λf o A h s H E n=>by exact
  (bv (cy (cf (xD rfl) xT G.yaP xP (aB (qd (cap:=[1]) (N':=["sign","signs"]) (jY.of ["text","signs"] (aT tQ) rfl rfl (by decide +kernel)) rfl (rE (ar 0)) (λC c g m j=>by exact tL) (λC c g m j=>by exact(q_ J3 D2 (ar 0) (ar 1) rfl))).de aV)))))
theorem E6:b0 ["thing","width","signs"] ["thing","width","signs"] (aT xr):=by ac_nf
theorem Gi(G:cR K d b a):cD (ce P w) P w K d b "is_window" 2 ["thing","width","signs"] (bH K (ph a)) :=
 df (k:=1) (pin:=[]) G.yaw E6 rfl (λ_ _ _ _ _ _ h i=>Pu.Mb (λ_ _ _=>rfl) h i) (λf j A c s H E g=>by exact
  (bv (cy (nv (cf mK ni G.yaS fk (aB (ar 0) (aB (mQ G.yaZ Ay) aV))) (nv (q_ (re g.units) qC (cf gF gP G.yaT gD (aB (ar 0) aV)) (ar 1) rfl) (qf ((bG (Ba G) (g.mono (by decide)) bX (aH (ar 0) (aH (ar 2) bz)))).de))))))
theorem JI:b0 ["thing","width","signs"] ["thing","width","signs"] (aT tT):=by ac_nf
theorem G8(G:cR K d b a):cD (ce P w) P w K d b "are_windows" 3 ["thing","width","signs"] (bH K (lT a)) :=
 df (k:=2) (pin:=[]) G.yan JI rfl (λ_ _ _ _ _ _ j m=>Pu.Mb (λ_ _ _=>rfl) j m) (λf o A h s H E i=>by exact
  (bS (fY ((qu (lP (l8 (cf mK ni G.yaS fk (aB (ar 0) (aB (mQ G.ya0 tU) aV))))) (qp (lP (E2 mH mH iW iW aY (cf gF gP G.yaT gD (aB (ar 0) aV)) (xz G.ya5)))))).dt (bv (cy j3)) fP)
  (bS (fY (lP (l8 (cf (xD rfl) xT G.yaP xP (aB (qd (cap:=[1,2]) (N':=["window","width","signs"]) (jY.of ["thing","width","signs"] (aT tT) rfl rfl (by decide +kernel)) rfl (rE (ar 0)) (λC c g n l=>by exact tL) (λC c g n l=>by exact((bG (Gi G) (i.mono (by decide)) l5 (aH (ar 0) (aH (ar 1) (aH (ar 2) bz))))).de)).de aV)))) (bv (cy j3)) fP)
  (bv (cy (q_ (re i.units) qC (Av Cn A2 G.yaU zG (aB (ar 0) aV)).de (zu vR xK G.yaY uc (aB (ar 0) aV)).de rfl))))))
theorem DP:b0 ["thing","signs"] ["thing","signs"] (aT xg):=by ac_nf
theorem E8(G:cR K d b a):cD (ce P w) P w K d b "is_view_with" 4 ["thing","signs"] (bH K (o6 a)) :=
 df (k:=3) (pin:=[]) G.yat DP rfl (λ_ _ _ _ _ _ h i=>Pu.L4 (λ_ _=>rfl) h i) (λf j A c s H E g=>by exact
  (bS (fY ((qu (lP (l8 (cf mK ni G.yaS fk (aB (ar 0) (aB (mQ G.ya0 tU) aV))))) (qp (g9 (mP g.units) nt (cf gF gP G.yaT gD (aB (ar 0) aV)) aY rfl)))).dt (bv (cy j3)) fP)
  (bv (cy (nv ((bG (Gw G) (g.mono (by decide)) bX (aH (gw gK gL (ar 0) aY) bz))).de (qf ((bG (G8 G) (g.mono (by decide)) bX (aH (gw gK gL (ar 0) aY) (aH (gw gK gL (ar 0) aY) (aH (ar 1) bz))))).de))))))
theorem Ew:b0 ["thing"] ["thing"] (aT wK):=by ac_nf
theorem JF(G:cR K d b a):cD (ce P w) P w K d b "is_view" 5 ["thing"] (bH K (qT a)) :=
 df (k:=4) (pin:=[]) G.yas Ew rfl (λ_ _ _ _ _ _ g i=>Pu.Me (λ_=>rfl) g i) (λf j A c s H E h=>by exact
  (bv (tw (bG (E8 G) (h.mono (by decide)) bX (aH (ar 0) (aH (B3 G.ya3) bz))))))
theorem Lk:b0 ["thing"] ["thing"] (aT xS):=by ac_nf
theorem BK(G:cR K d b a):cD (ce P w) P w K d b "check_view" 6 ["thing"] (bH K (jo a)) :=
 df (k:=5) (pin:=[]) G.yap Lk rfl (λ_ _ _ _ _ _ g i=>Pu.Me (λ_=>rfl) g i) (λf j A c s H E h=>by exact
  (bv (fY (lP (l8 ((bG (JF G) (h.mono (by decide)) bX (aH (ar 0) bz))).de)) (bv (A5 zn rfl G.ya2 PySem.F.excBase_ValueError (dG [97,32,118,105,101,119,32,105,115,32,97,32,116,117,112,108,101,32,111,102,32,97,32,119,105,100,116,104,32,97,110,100,32,97,32,114,105,115,105,110,103,32,116,117,112,108,101,32,111,102,32,49,32,116,111,32,57,32,119,105,110,100,111,119,115]))) fP)))
theorem Jt:b0 ["ahead","window","shared"] ["ahead","window"] (aT wj):=by ac_nf
theorem JB(G:cR K d b a):cD (ce P w) P w K d b "added_letters" 1 ["ahead","window"] (bH K (qB a)) :=
 df (k:=0) (pin:=[]) G.yam Jt rfl (λ_ _ _ _ _ _ g h=>Pu.L4 (λ_ _=>rfl) g h) (λf j A c s H E i=>by exact
  (bS (qz (qH 2 vr rfl Jt.nd (ED G.yaW (aB (b8 tz tE (cf gF gP G.yaT gD (aB (ar 1) aV)) aY) (aB aY (aB (AW zW B8 aY) aV)))) (bv (fY (l8 (G2 PySem.F.slot_str_endswith PySem.F.type_str_endswith Ec KJ (ar 0) (aB (lZ l6 l0 (ar 1) oZ (jS (ar 2))) aV))) (bv (cy (lZ l6 l0 (ar 1) (jS (ar 2)) oZ))) fP))))
  (bv (cy (ar 1)))))
theorem IC:b0 ["windows","window","place"] ["windows","window"] (aT xH):=by ac_nf
theorem HK(G:cR K d b a):cD (ce P w) P w K d b "without" 1 ["windows","window"] (bH K (qM a)) :=
 df (k:=0) (pin:=[]) G.yaM IC rfl (λ_ _ _ _ _ _ g h=>Pu.L4 (λ_ _=>rfl) g h) (λf j A c s H E i=>by exact
  (bS (gy 2 IC.nd (G1 (ar 0) (ar 1)))
  (bv (cy (b8 zr zf (lZ l6 l0 (ar 0) oZ (jS (ar 2))) (lZ l6 l0 (ar 0) (jS (b8 zr zf (ar 2) aY)) oZ))))))
theorem z7:b0 ["ahead","left","known","endings","window"] ["ahead","left","known"] (aT wf):=by ac_nf
theorem Eh(G:cR K d b a)(m:Nat):cD (ce P w) P w K d b "least_ending" (2+m) ["ahead","left","known"] (bH K (jl a m)):=by
 induction m with
 |zero=>exact df (k:=1) (pin:=[2]) G.yaI z7 rfl (λ_ _ _ _ _ _ i j=>Pu.Mb (λ_ _ _=>rfl) i j) (λf o A h s H E g=>KD)
 |succ m n=>exact JZ (k:=2+m) (pin:=[2]) G.yaN (by decide) G.yaI z7 rfl (λ_ _ _ _ _ _ i j=>Pu.Mb (λ_ _ _=>rfl) i j) (λf o c T A h s H E g l=>by exact
  (bS (fY (g9 (re g.units) qC (cf gF gP G.yaT gD (aB (ar 1) aV)) aY rfl) (bv (cy (dG []))) fP)
  (bS (fY (D9 2 g.units (i7 (aB (ar 0) (aB (ar 1) aV)))) (bS (uu 3 z7.nd (tO aV))
  (bS (qz (qH 4 vr rfl z7.nd (rE (EF rfl (aB (ar 1) aV) G.yaY G.yaX).de) (bv (AV 3 (b8 eT eP ((bG (JB G) (g.mono ∅) l5 (aH (ar 0) (aH (ar 4) bz)))).de ((bG n (g.mono ∅) l5 (aH (ar 4) (aH ((bG (HK G) (g.mono ∅) l5 (aH (ar 1) (aH (ar 4) bz)))).de (fO 2 bz))))).de)))))
  (bv (Jw 2 g.units (i7 (aB (ar 0) (aB (ar 1) aV))) (Fg 3 rfl g.d1 g.units (by first|exact l|exact tY.nox l) G.yaV G.yaT))))) fP)
  (bv (cy (KU 2 g.units (i7 (aB (ar 0) (aB (ar 1) aV)))))))))
theorem Hg:b0 ["view"] ["view"] (aT w_):=by ac_nf
theorem B6(G:cR K d b a):cD (ce P w) P w K d b "shortest" 13 ["view"] (bH K (qV a)) :=
 df (k:=12) (pin:=[]) G.yaK Hg rfl (λ_ _ _ _ _ _ h i=>Pu.Me (λ_=>rfl) h i) (λf j A c s H E g=>by exact
  (bS (vI (bG (BK G) (g.mono (by decide)) bX (aH (ar 0) bz)))
  (bv (tw (JL (Eh G 10) (g.mono (by decide)) bX (zd (dG []) (zd (gw gK gL (ar 0) aY) (FQ (Lu) bz))))))))
theorem El:b0 ["thing","most"] ["thing","most"] (aT xy):=by ac_nf
theorem KS(G:cR K d b a):cD (ce P w) P w K d b "is_text_up_to" 2 ["thing","most"] (bH K (jv a)) :=
 df (k:=1) (pin:=[]) G.yar El rfl (λ_ _ _ _ _ _ g i=>Pu.L4 (λ_ _=>rfl) g i) (λf j A c s H E h=>by exact
  (bv (cy (nv (cf mK ni G.yaS fk (aB (ar 0) (aB (mQ G.yaZ Ay) aV))) (nv (Cb mH mH iW iW aY (cf gF gP G.yaT gD (aB (ar 0) aV)) (ar 1)) (qf ((bG (Ba G) (h.mono (by decide)) bX (aH (ar 0) (aH (B3 G.ya3) bz)))).de))))))
theorem HJ:b0 ["thing"] ["thing"] (aT vH):=by ac_nf
theorem HF(G:cR K d b a):cD (ce P w) P w K d b "check_text_around" 3 ["thing"] (bH K (l7 a)) :=
 df (k:=2) (pin:=[]) G.yao HJ rfl (λ_ _ _ _ _ _ g i=>Pu.Me (λ_=>rfl) g i) (λf j A c s H E h=>by exact
  (bv (fY (lP (l8 ((bG (KS G) (h.mono (by decide)) bX (aH (ar 0) (aH (xz G.ya4) bz)))).de)) (bv (A5 zn rfl G.ya1 PySem.F.excBase_ValueError (dG [97,32,116,101,120,116,32,116,104,97,116,32,104,97,115,32,97,32,118,105,101,119,32,119,105,116,104,105,110,32,105,116,32,104,97,115,32,49,32,116,111,32,54,48,32,108,101,116,116,101,114,115,32,97,44,32,98,44,32,99]))) fP)))
theorem Kg:b0 ["text","length"] ["text","length"] (aT t7):=by ac_nf
theorem K_(G:cR K d b a):cD (ce P w) P w K d b "pieces" 1 ["text","length"] (bH K (nA a)) :=
 df (k:=0) (pin:=[]) G.yaJ Kg rfl (λ_ _ _ _ _ _ i l=>Pu.L4 (λ_ _=>rfl) i l) (λf o A h s H E n=>by exact
  (bv (Hb (qd (cap:=[0,1]) (N':=["place","text","length"]) (jY.of ["text","length"] (aT t7) rfl rfl (by decide +kernel)) rfl (tJ G.yaW (aB (b8 eT eP (b8 tz tE (cf gF gP G.yaT gD (aB (ar 0) aV)) (ar 1)) aY) aV)) (λC c g m j=>by exact tL) (λC c g m j=>by exact(lZ l6 l0 (ar 1) (jS (ar 0)) (jS (b8 eT eP (ar 0) (ar 2)))))))))
theorem Ga:b0 ["text","view","there"] ["text","view"] (aT tx):=by ac_nf
theorem xQ(G:cR K d b a):cD (ce P w) P w K d b "within" 7 ["text","view"] (bH K (iQ a)) :=
 df (k:=6) (pin:=[]) G.yaL Ga rfl (λ_ _ _ _ _ _ j m=>Pu.L4 (λ_ _=>rfl) j m) (λf o A h s H E i=>by exact
  (bS (vI (bG (HF G) (i.mono (by decide)) bX (aH (ar 0) bz)))
  (bS (vI (bG (BK G) (i.mono (by decide)) bX (aH (ar 1) bz)))
  (bS (gy 2 Ga.nd ((bG (K_ G) (i.mono (by decide)) bX (aH (ar 0) (aH (gw gK gL (ar 1) aY) bz)))).de)
  (bv (cy (cf (xD rfl) xT G.yaP xP (aB (qd (cap:=[2,1]) (N':=["window","there","view"]) (jY.of ["text","view","there"] (aT tx) rfl rfl (by decide +kernel)) rfl (rE (gw gK gL (ar 1) aY)) (λC c g n l=>by exact tL) (λC c g n l=>by exact(q_ HG iW (FW (ar 1) (ar 0)) (wH (gw gK gL (ar 2) aY) (ar 0)) rfl))).de aV))))))))
theorem JV:b0 ["_law_text_here","_law_asked","_law_row","_law_window"] ["_law_text_here","_law_asked"] (aT wm):=by ac_nf
theorem z_(G:cR K d b a):cD (ce P w) P w K d b "_law_has" 2 ["_law_text_here","_law_asked"] (bH K (qL a)) :=
 df (k:=1) (pin:=[]) G.yaB JV rfl (λ_ _ _ _ _ _ g i=>Pu.L4 (λ_ _=>rfl) g i) (λf j A c s H E h=>by exact
  (bS (gy 2 JV.nd ((bG (y9 G) (h.mono (by decide)) bX (aH (ar 0) (aH (gw gK gL (ar 1) aY) bz)))).de)
  (bS (qz (qH 3 vr rfl JV.nd (rE (gw gK gL (ar 1) aY)) (bv (fY (g9 xu iW (wH (ar 2) (ar 3)) (wH (gw gK gL (ar 1) aY) (ar 3)) rfl) (bv (cy j3)) fP))))
  (bv (cy j3)))))
theorem E_:b0 ["_law_e","_law_own"] ["_law_e"] (aT wl):=by ac_nf
theorem GG(G:cR K d b a):tR P w K d b "_law_which" 1 ["_law_e"] (bH K (pf a)) :=
 Ff (k:=0) (pin:=[]) G.yaH E_ rfl (λ_ _ _ _ _ _ g i=>Pu.Me (λ_=>rfl) g i) (λf j A c s H h=>by exact
  (bS (uu 1 E_.nd (tO (aB (cf jd (i_ G.tab) G.yaS fk (aB (ar 0) (aB (jr G.yaf) aV))) (aB (cf jd (i_ G.tab) G.yaS fk (aB (ar 0) (aB (jr G.yah) aV))) (aB (cf jd (i_ G.tab) G.yaS fk (aB (ar 0) (aB (jr G.yag) aV))) (aB (cf jd (i_ G.tab) G.yaS fk (aB (ar 0) (aB (jr G.yai) aV))) aV))))))
  (bS (An 1 (pe (aB (cf jd (i_ G.tab) G.yaS fk (aB (ar 0) (aB (jr G.yac) aV))) (aB (cf jd (i_ G.tab) G.yaS fk (aB (ar 0) (aB (jr G.yab) aV))) (aB (cf jd (i_ G.tab) G.yaS fk (aB (ar 0) (aB (jr G.yaj) aV))) (aB (cf jd (i_ G.tab) G.yaS fk (aB (ar 0) (aB (jr G.yal) aV))) aV))))))
  (bS (An 1 (pe (aB (cf jd (i_ G.tab) G.yaS fk (aB (ar 0) (aB (jr G.yae) aV))) (aB (cf jd (i_ G.tab) G.yaS fk (aB (ar 0) (aB (jr G.yad) aV))) (aB (cf jd (i_ G.tab) G.yaS fk (aB (ar 0) (aB (jr G.yaa) aV))) aV)))))
  (bS (fY ((qu (g9 (mP h.units) nt (FC 1 j3) aY rfl) (qp (lP (l8 (cf jd (i_ G.tab) G.yaS fk (aB (ar 0) (aB (mQ G.yaO JJ) aV)))))))).dt (bv (cy (i7 (aB (dG [114,101,102,117,115,101,100]) (aB (AW zW B8 aY) aV))))) fP)
  (bv (cy (i7 (aB (dG [114,101,102,117,115,101,100]) (aB (Et 1 j3) aV))))))))))
def yay(a:Ad):ak->R aP:=nk 2 (lL a) (o_ (iQ a) (gV (dV 0) (gV (dV 1) (bu)))) (mM (λc=>cG (a7 (pf a) (gV (dV 2) (bu)) c)))
def jt(a:Ad):ak->R Slot:=bw 2 [] (bC 1 (yay a))
theorem Ku:b0 ["_law_text_here","_law_asked","_law_e"] ["_law_text_here","_law_asked"] (aT v6):=by ac_nf
theorem tP(G:cR K d b a):cD (ce P w) P w K d b "_law_ask" 8 ["_law_text_here","_law_asked"] (bH K (jt a)) :=
 df (k:=7) (pin:=[]) G.yay Ku rfl (λ_ _ _ _ _ _ j l=>Pu.L4 (λ_ _=>rfl) j l) (λf m A c s H E i=>by
  have g:=λh=>Room.hand (v:=aa (.ref h)) i;exact
  (bv (Gn 2 Ku.nd (E7 (xQ G) (i.mono (by decide)) (aH (ar 0) (aH (ar 1) bz))) G.yak G.err_SlitError G.und (λh=>by exact(bv (tw (HU (GG G) ((g h).mono (by decide)) (aH (ar 2) bz))))))))
def yax(a:Ad):ak->R aP:=bh (kT 1 (dL fQ (aK)))
 (bh (dm 2 (ba (a7 (gc a) (gV (dV 0) (gO 1 (gV (dC (.int 6)) (bu)))))))
 (bh (dm 3 (ba (a7 (nh a) (gV (dV 0) (gO 1 (gV (dF (dL fQ (ay (dC .non) (ay (dC (.str [])) (ay (dC (.str [97,98,100])) (ay (d2 f_ (dC (.str [97])) (dC (.int 61))) (ay (dC (.int 5)) (ay (dL dO (ay (dC (.str [97])) (aK))) (ay (dC (.str [65])) (aK)))))))))) (bu)))))))
 (bh (dm 4 (ba (a7 (gc a) (gV (dV 0) (gO 1 (gV (dC (.int 3)) (bu)))))))
 (bh (dm 5 (ba (a7 (qc a) (gV (dV 0) (gO 1 (gV (dV 4) (gV (dC (.int 7)) (bu))))))))
 (bh (dm 6 (ba (a7 (qV a) (gV (dV 5) (bu)))))
 (bh (cH (dB (d2 (dj λi j=>decide (i<j)) (dV 2) (dC (.int 2)))) (dm 6 (ba (a7 (kG a) (gV (dV 0) (gO 1 (gV (dC (.int 1)) (gV (dC (.int 30)) (bu)))))))) (c8))
 (bh (cH (qr (dB (d2 (dj λi j=>decide (j<i)) (dV 2) (dC (.int 3)))) (dB (d2 (dj λi j=>decide (j<i)) (dL br (ay (dV 6) (aK))) (dC (.int 1))))) (bh (dm 7 (ba (a7 (gc a) (gV (dV 0) (gO 1 (gV (dL br (ay (dV 6) (aK))) (bu)))))))
 (dm 6 (d2 bt (d2 bt (d9 dD (dV 6) (g_) (dq (dV 7))) (ba (a7 (nh a) (gV (dV 0) (gO 1 (gV (dF (dL fQ (ay (dC (.str [])) (ay (dC (.str [])) (ay (dC (.str [97])) (ay (dC (.str [98])) (ay (dC (.str [99])) (aK)))))))) (bu))))))) (d9 dD (dV 6) (dq (d2 bt (dV 7) (dC (.int 1)))) (g_))))) (c8))
 (bh (cH (mI (dB (d2 (eqT ai) (ba (a7 (iQ a) (gV (dV 6) (gV (dV 5) (bu))))) (ba (a7 (qL a) (gV (dV 6) (gV (dV 5) (bu))))))) (jT (dB (ba (a7 (iQ a) (gV (ba (a7 (qV a) (gV (dV 5) (bu)))) (gV (dV 5) (bu)))))))) (bV (dC (.bl aj))) (c8))
 (bh (cH (mI (dB (d2 (eqT ai) (ba (a7 (jt a) (gV (dV 3) (gV (dC .non) (bu))))) (dL dO (ay (dC (.str [114,101,102,117,115,101,100])) (ay (dC (.int 0)) (aK)))))) (dB (d2 (eqT ai) (ba (a7 (jt a) (gV (dV 3) (gV (dV 5) (bu))))) (dL dO (ay (dC (.str [114,101,102,117,115,101,100])) (ay (dC (.int 0)) (aK))))))) (bV (dC (.bl aj))) (c8))
 (bh (cH (dB (d2 (eqT ai) (ba (a7 (jt a) (gV (d2 f_ (dC (.str [98])) (dC (.int 60))) (gV (dV 5) (bu))))) (ba (a7 (qL a) (gV (d2 f_ (dC (.str [98])) (dC (.int 60))) (gV (dV 5) (bu))))))) (bV (dC (.bl aj))) (c8))
 (bV (d2 (eqT aj) (ba (a7 (jt a) (gV (dV 6) (gV (dL dO (ay (d2 bP (dV 5) (dC (.int 0))) (ay (d2 bt (d2 bP (dV 5) (dC (.int 1))) (dL dO (ay (dC (.str [])) (aK)))) (aK)))) (bu))))) (dL dO (ay (dC (.str [114,101,102,117,115,101,100])) (ay (dC (.int 2)) (aK))))))))))))))))
def qv(a:Ad):ak->R Slot:=bw 1 [] (bC 7 (yax a))
theorem HY:b0 ["_law_script","_law_town","_law_way","_law_odd","_law_spoil","_law_asked","_law_text_here","_law_at"] ["_law_script"] (aT tj):=by ac_nf
theorem HE(G:cR K d b a){f:af}{h:fE}(l:mW K "law" "law" tj f h):jn P w K d b (ce P w) 14 f h ["_law_script"] (bH K (qv a)) :=
 GN (k:=13) (pin:=[]) l HY rfl (λ_ _ _ _ _ _ i j=>Pu.Me (λ_=>rfl) i j) (λf m A g s H E c=>by exact
  (bS (uu 1 HY.nd (tO aV))
  (bS (gy 2 HY.nd ((bG (kC G) (c.mono (by decide)) bX (aH (ar 0) (fO 1 (aH aY bz))))).de)
  (bS (gy 3 HY.nd ((bG (xO G) (c.mono (by decide)) bX (aH (ar 0) (fO 1 (aH (pe (aB yY (aB (dG []) (aB (dG [97,98,100]) (aB (b8 oX oP (dG [97]) aY) (aB aY (aB (i7 (aB (dG [97]) aV)) (aB (dG [65]) aV)))))))) bz))))).de)
  (bS (gy 4 HY.nd ((bG (kC G) (c.mono (by decide)) bX (aH (ar 0) (fO 1 (aH aY bz))))).de)
  (bS (gy 5 HY.nd ((bG (JM G) (c.mono (by decide)) bX (aH (ar 0) (fO 1 (aH (ar 4) (aH aY bz)))))).de)
  (bS (gy 6 HY.nd ((bG (B6 G) (c.mono (by decide)) bX (aH (ar 5) bz))).de)
  (bS (fY (g9 xu iW (ar 2) aY rfl) (bv (gy 6 HY.nd ((bG (vP G) (c.mono (by decide)) bX (aH (ar 0) (fO 1 (aH aY (aH aY bz)))))).de)) fP)
  (bS (fY ((GO (g9 Af iW (ar 2) aY rfl) (D8 (g9 Af iW (cf gF gP G.yaT gD (aB (ar 6) aV)) aY rfl)))).dt (bS (gy 7 HY.nd ((bG (kC G) (c.mono (by decide)) bX (aH (ar 0) (fO 1 (aH (cf gF gP G.yaT gD (aB (ar 6) aV)) bz))))).de)
  (bv (gy 6 HY.nd (b8 eT eP (b8 eT eP (lZ l6 l0 (ar 6) oZ (jS (ar 7))) ((bG (xO G) (c.mono (by decide)) bX (aH (ar 0) (fO 1 (aH (pe (aB (dG []) (aB (dG []) (aB (dG [97]) (aB (dG [98]) (aB (dG [99]) aV)))))) bz))))).de) (lZ l6 l0 (ar 6) (jS (b8 eT eP (ar 7) aY)) oZ))))) fP)
  (bS (fY ((qu (g9 (mP c.units) nt ((bG (xQ G) (c.mono (by decide)) bX (aH (ar 6) (aH (ar 5) bz)))).de ((bG (z_ G) (c.mono (by decide)) bX (aH (ar 6) (aH (ar 5) bz)))).de rfl) (qp (lP (l8 ((bG (xQ G) (c.mono (by decide)) bX (aH ((bG (B6 G) (c.mono (by decide)) bX (aH (ar 5) bz))).de (aH (ar 5) bz)))).de))))).dt (bv (cy j3)) fP)
  (bS (fY ((qu (g9 (mP c.units) nt ((bG (tP G) (c.mono (by decide)) bX (aH (ar 3) (aH yY bz)))).de (i7 (aB (dG [114,101,102,117,115,101,100]) (aB aY aV))) rfl) (qp (g9 (mP c.units) nt ((bG (tP G) (c.mono (by decide)) bX (aH (ar 3) (aH (ar 5) bz)))).de (i7 (aB (dG [114,101,102,117,115,101,100]) (aB aY aV))) rfl)))).dt (bv (cy j3)) fP)
  (bS (fY (g9 (mP c.units) nt ((bG (tP G) (c.mono (by decide)) bX (aH (b8 oX oP (dG [98]) aY) (aH (ar 5) bz)))).de ((bG (z_ G) (c.mono (by decide)) bX (aH (b8 oX oP (dG [98]) aY) (aH (ar 5) bz)))).de rfl) (bv (cy j3)) fP)
  (bv (cy (q_ (re c.units) qC ((bG (tP G) (c.mono (by decide)) bX (aH (ar 6) (aH (i7 (aB (gw gK gL (ar 5) aY) (aB (b8 eT eP (gw gK gL (ar 5) aY) (i7 (aB (dG []) aV))) aV))) bz)))).de (i7 (aB (dG [114,101,102,117,115,101,100]) (aB aY aV))) rfl)))))))))))))))
end
end K14
namespace Mx
open L2 Pu
def cV:Tx:=[97,98,99]
def AE:Nat->List Tx
 |0=>[[]]
 |k+1=>cV.flatMap λc=>(AE k).map (c::·)
def bD(z:Tx)(w:Nat):List Tx:=((cz z.length).filter λi=>decide (i+w<=z.length)).map λi=>(z.drop i).take w
theorem AY(w L:Nat):∀m:Nat,(cz m).filter (λi=>decide (i+w<=L))=cz (min m (L+1-w))
 |0=>by simp
 |m+1=>by
  rw[rV,List.filter_append,AY w L m];by_cases h:m+w<=L
  .rw[show min m (L+1-w)=m by lia,show min (m+1) (L+1-w)=m+1 by lia,rV];simp[h]
  .rw[show min (m+1) (L+1-w)=min m (L+1-w) by lia];simp[h]
theorem qX(z:Tx)(w:Nat)(a:1<=w):bD z w=(cz (z.length+1-w)).map λi=>(z.drop i).take w:=by unfold bD;rw[AY,show min z.length (z.length+1-w)=z.length+1-w by lia]
def nw(w:Nat)(t:Tx):Tx->List Tx
 |[]=>[]
 |c::s=>(t.drop (t.length+1-w)++[c])::nw w (t++[c]) s
end Mx
namespace Sh
open L2 Pu Mx
section
theorem BN(a:Bool)(b c:Bool):Pu.eqT a (.bl b) (.bl c)=aa (.bl (a^^decide (b=c))):=by cases a <;> cases b <;> cases c <;> rfl
theorem Ar{ls:List Tx}(h:ls.length<=1000000):nq [.lst (ao ls)]=aa (.lst (ao (bx ls))):=by show(fz (ao ls)).bind _=_;rw[qt,gh,if_pos h]
end
section
variable{a:Ad}
abbrev bI(b:List Int):Slot:=.val (.lst (b.map .int))
theorem B_(b:List Int)(k:Int)(d:0<=k)(h:k<b.length):∃v,fi (b.map PV.int) k=aa (.int v):=by
 have c:k.toNat<b.length:=∅
 refine⟨b[k.toNat],?_⟩;rw[Bh d (by rw[fG];exact c)];simp
theorem F_(b:List Int):Pu.eqT aj (.lst (b.map .int)) (.lst [])=aa (.bl b.isEmpty):=by
 cases b with
 |nil=>rfl
 |cons x xs=>
  have d:∀l:List Int,h_ (l.map .int)=0:=λl=>by induction l with|nil=>rfl|cons y l c=>simp[h_,iX,c]
  have:h_ ((x::xs).map .int)=0:=d _;simp only[mn]at this;simp[Pu.eqT,cp,cx,fZ,iX,this]
theorem qS(b:Bool)(i j:Int):Pu.eqT b (.int i) (.int j)=aa (.bl (b^^decide (i=j))):=by show(if qU (V.int i) (V.int j)then aa (PV.bl (b^^decide (V.int i=V.int j)))else ae)=_;have:qU (V.int i) (V.int j)=ai:=rfl;rw[if_pos this];simp
theorem Eo(b:List Int)(k:Int)(j:0<=k):∃v,oY a [bI b,⇑k]=.ok (⇑v) [bI b,⇑k]:=by
 by_cases h:k<b.length
 .obtain⟨v,c⟩:=B_ b k j h;refine⟨v,?_⟩;simp![oY,yaz,br,bP,c,h]
 .have e:=F_ b;by_cases d:b=[]
  .subst d;refine⟨0,?_⟩;simp only[List.map_nil,List.isEmpty_nil]at e;have l:¬k<0:=∅
   simp![oY,yaz,br,bP,e,l]
  .have f:0<b.length:=by cases b with|nil=>exact absurd rfl d|cons=>simp
   obtain⟨v,c⟩:=B_ b (k % b.length) (Int.emod_nonneg _ ∅) (Dm _ ∅);refine⟨v*31+k,?_⟩;have m:b.isEmpty=aj:=by cases b with|nil=>exact absurd rfl d|cons=>rfl
   rw[m]at e;have i:eQ (.int k) (.int (b.length:Int))=aa (.int (k % b.length)):=by simp[eQ];lia
   have g:f_ (.int v) (.int 31)=aa (.int (v*31)):=by simp[f_,rg]
   simp![oY,yaz,br,bP,h,e,i,c,g,bt]
theorem HH(b:List Int)(k m:Int)(q:0<=k)(i:0<m):∃v,0<=v/\v<m/\uH a [bI b,⇑k,⇑m]=.ok (⇑v) [bI b,⇑k,⇑m]:=by
 obtain⟨c,p⟩:=Eo (a:=a) b k q;have r:0<=(c*1103515245+7919*k+12345) % 2147483647:=Int.emod_nonneg _ (by decide);have d1:(c*1103515245+7919*k+12345) % 2147483647<2147483647:=Dm _ (by decide);have o:f_ (.int c) (.int 1103515245)=aa (.int (c*1103515245)):=by simp[f_,rg]
 have n:f_ (.int 7919) (.int k)=aa (.int (7919*k)):=by simp[f_,rg]
 have h:eQ (.int (c*1103515245+7919*k+12345)) (.int 2147483647)=aa (.int ((c*1103515245+7919*k+12345) % 2147483647)):=by simp[eQ]
 generalize (c*1103515245+7919*k+12345) % 2147483647=d at r d1 h;have l:qI (.int d) (.int 5)=aa (.int (d^5)):=by
  have:d.natAbs<2^64:=∅
  simp[qI,this]
 have g:eQ (.int (d^5)) (.int 2147483647)=aa (.int (d^5 % 2147483647)):=by simp[eQ]
 generalize d^5 % 2147483647=d5 at g;have f:eQ (.int d5) (.int 999983)=aa (.int (d5 % 999983)):=by simp[eQ]
 generalize d5 % 999983=d6 at f;have j:eQ (.int d6) (.int m)=aa (.int (d6 % m)):=by simp[eQ,i]
 refine⟨d6 % m,Int.emod_nonneg _ ∅,Dm _ i,?_⟩;simp![uH,yaC,p,o,n,h,l,g,f,j,bt]
theorem kW(b:List Int)(xs:List PV)(m:Int)(h:0<m)(i:xs.length<=1000):∃v,0<=v/\v<m/\gc a [bI b,.own (.lst xs),⇑m]=.ok (⇑v) [bI b,.own (.lst (xs++[.int 0])),⇑m]:=by
 obtain⟨v,d,c,g⟩:=HH (a:=a) b ((xs.length:Int)+1) m ∅ h;refine⟨v,d,c,?_⟩;have f:xs.length<cU:=by unfold cU;lia
 simp![gc,yaA,br,f,g]
theorem zY{c:Type}(b:List c)(v:Int)(f:0<=v)(g:v<b.length):∃x∈b,fi b v=aa x:=by
 have d:v.toNat<b.length:=∅
 exact⟨b[v.toNat],yq _,Bh f d⟩
theorem xm(c:List Int)(xs b:List PV)(h:xs.length<=1000)(l:0<b.length):∃x∈b,nh a [bI c,.own (.lst xs),.val (.lst b)]=.ok (.val x) [bI c,.own (.lst (xs++[.int 0])),.val (.lst b)]:=by obtain⟨v,f,d,i⟩:=kW (a:=a) c xs (b.length:Nat) ∅ h;obtain⟨x,j,g⟩:=zY b v f d;refine⟨x,j,?_⟩;simp![nh,yaD,br,bP,i,g]
theorem ux{n:Nat}(h:n<=1000000):jb [.int n]=aa (dA 0 n):=by show(if(n:Int)<=1000000/\-1000000<=(n:Int)then aa (dA 0 (n:Int).toNat)else ae)=_;rw[if_pos ⟨∅,∅⟩];simp
theorem t8{x y:Tx}(h:x.length+y.length<=cU):bt (.str x) (.str y)=aa (.str (x++y)):=by show(if(x++y).length<=cU then aa (PV.str (x++y))else ae)=_;rw[if_pos (by rw[eZ];exact h)]
theorem eR{d1 d2:ak->R aP}{b ε1:ak}(h:d1 b=.ok .next ε1):bh d1 d2 b=d2 ε1:=by unfold bh;rw[h]
theorem JY{i:Nat}{d:ak->R PV}{c b:ak}{x:PV}(h:d c=.ok x b):dm i d c=.ok .next (b.set i (.val x)):=by unfold dm;rw[h];rfl
theorem v3{i:Nat}{db:ak->R aP}{I:Nat->ak->Prop}{N:Nat}(step:∀k c x,k<N->I k c->∃b,db (c.set i (.val x))=.ok .next b/\I (k+1) b):∀(xs:List PV) (k:Nat) (c:ak),k+xs.length<=N->I k c->∃b,eV i db xs c=.ok .next b/\I (k+xs.length) b
 |[],k,c,_,h=>⟨c,rfl,h⟩
 |x::xs,k,c,g,h=>by simp only[gf]at g;obtain⟨f,n,l⟩:=step k c x ∅ h;obtain⟨d,m,j⟩:=v3 step xs (k+1) f ∅ l;refine⟨d,by unfold eV;rw[n];exact m,?_⟩;rw[gf,show k+(xs.length+1)=k+1+xs.length by lia];exact j
theorem wM(l:List Int)(xs:List PV)(g b:Nat)(L:g<=b)(X:b<=100)(W:xs.length<=500):∃(z:Tx) (j:List PV),g<=z.length/\z.length<=b/\(∀c∈z,c∈cV)/\j.length<=xs.length+2+b /\ kG a [bI l,.own (.lst xs),⇑g,⇑b]=.ok (↥z) [bI l,.own (.lst j),⇑g,⇑b]:=by
 obtain⟨f,y,J⟩:=xm (a:=a) l xs [.int 1,.int 2,.int 2,.int 3,.int 3,.int 3] ∅ (by decide);obtain⟨h,rfl,P,Z⟩:∃h:Int,f=.int h/\0<h/\h<=3:=by simp only[bT,iD,or_false]at y;rcases y with rfl|rfl|rfl|rfl|rfl|rfl <;> exact⟨_,rfl,by decide,by decide⟩
 obtain⟨m,T,S,o⟩:=kW (a:=a) l (xs++[.int 0]) ((b:Int)-g+1) ∅ (by simp;lia);obtain⟨n,K⟩:∃n:Nat,(g:Int)+m=n:=⟨(g+m).toNat,∅⟩
 have H:jb [.int ((g:Int)+m)]=aa (dA 0 n):=by rw[K];exact ux ∅
 have bn:(dA 0 n).length=n:=by simp[dA]
 obtain⟨B,A,j,z,q,rfl,w,F,p⟩:=v3 (i:=6) (db:=dm 5 (d2 bt (dV 5) (d2 bP (dC (.str [97,98,99])) (ba (a7 (gc a) (gV (dV 0) (gO 1 (gV (dV 4) (Pu.bu)))))))))
  (I:=λk u=>∃j z q,u=[bI l,.own (.lst j),⇑g,⇑b,⇑h,↥z,q]/\z.length=k/\j.length<=xs.length+2+k/\∀c∈z,c∈cV) (N:=n)
  (by
   rintro k u x Y ⟨j,z,q,rfl,w,F,p⟩;obtain⟨v,C,Q,G⟩:=kW (a:=a) l j h P ∅;obtain⟨c,M,E⟩:=zY cV v C (by simp[cV];lia);refine⟨[bI l,.own (.lst (j++[.int 0])),⇑g,⇑b,⇑h,↥(z++[c]),.val x],?_,j++[.int 0],z++[c],.val x,rfl,by simp[w],by simp;lia,λd o=>?_⟩
   .have r:bP (.str [97,98,99]) (.int v)=aa (.str [c]):=by
     show(fi cV v).map _=_;rw[E];rfl
    have O:bt (.str z) (.str [c])=aa (.str (z++[c])):=t8 (by simp[cU];lia);simp![G,r,O]
   .simp only[ie,fJ]at o;rcases o with o|rfl
    .exact p d o
    .exact M)
  (dA 0 n) 0 [bI l,.own (.lst (xs++[.int 0]++[.int 0])),⇑g,⇑b,⇑h,.val (.str []),.none] ∅ ⟨xs++[.int 0]++[.int 0],[],.none,rfl,rfl,by simp,by simp⟩
 refine⟨z,j,∅,∅,p,∅,?_⟩;have D:je (.int b) (.int g)=aa (.int ((b:Int)-g)):=rfl;have t:bt (.int ((b:Int)-g)) (.int 1)=aa (.int ((b:Int)-g+1)):=rfl;have s:bt (.int g) (.int m)=aa (.int ((g:Int)+m)):=rfl;simp only[kh,n8,kj]at A;simp![kG,yaF,J,D,t,s,o,fR,H,fj,A]
theorem oJ{cap:List Nat}{dt:ak->R Bool}{de:ak->R PV}{ε:ak}(p:PV->Bool)(f:PV->PV):∀(xs:List PV),(∀x∈xs,cG (f8 cap dt x ε)=.ok (p x) ε/\(p x=ai->cG (f8 cap de x ε)=.ok (f x) ε))->∀b,kP cap dt de xs b ε=.ok (b++(xs.filter p).map f) ε
 |[],_,b=>by simp[kP]
 |x::xs,h,b=>by
  have g:=h x (by simp);have d:=oJ p f xs (λy i=>h y (by simp[i]));unfold kP;rw[g.1];simp only[R.bind_ok];cases c:p x with
  |false=>simp only[d b,List.filter_cons,c];simp
  |true=>simp only[g.2 c,R.bind_ok,d (b++[f x]),List.filter_cons,c];simp
theorem AI{z:Tx}{i w:Nat}(h:i+w<=z.length):dE z (aa (i:Int)) (aa ((i:Int)+w))=(z.drop i).take w:=by
 unfold dE;have c:HT.sIx z.length 0 (aa (i:Int))=i:=by rw[HT.sIx_nat];lia
 have b:HT.sIx z.length z.length (aa ((i:Int)+w))=i+w:=by rw[show(i:Int)+w=((i+w:Nat):Int) by lia,HT.sIx_nat];lia
 rw[c,b,Nat.add_sub_cancel_left]
theorem By(z:Tx)(w:Nat)(o:z.length<=60):qJ a [↥z,⇑w]=.ok (.val (.tup (ao (bx (bD z w))))) [↥z,⇑w]:=by
 have g:jb [.int (z.length:Nat)]=aa (dA 0 z.length):=ux ∅;have b:=oJ (cap:=[0,1]) (dt:=(dB (d2 (dj λi j=>decide (i<=j)) (d2 bt (dV 0) (dV 2)) (dL br (ay (dV 1) (aK)))))) (de:=(d9 dD (dV 1) (dq (dV 0)) (dq (d2 bt (dV 0) (dV 2)))))
  (ε:=[↥z,⇑w]) (λx=>match x with|.int i=>decide (i+w<=z.length)|_=>aj) (λx=>match x with|.int i=>.str (dE z (aa i) (aa (i+w)))|_=>.non) (dA 0 z.length)
  (by
   intro x d;simp only[dA,gW]at d;obtain⟨i,f,rfl⟩:=d;refine⟨?_,λh=>?_⟩
   .simp![f8,fg,cG,br,bt]
   .simp![f8,fg,cG,br,bt,d9,dq,dD]) []
 have l:(bD z w).length<=1000000:=by unfold bD;rw[fG];have:=List.length_filter_le (λi=>decide (i+w<=z.length)) (cz z.length);rw[C0]at this;lia
 have m:(((dA 0 z.length).filter (λx=>match x with|.int i=>decide (i+w<=z.length)|_=>aj)).map (λx=>match x with|.int i=>PV.str (dE z (aa i) (aa (i+w)))|_=>.non))=ao (bD z w):=by
  unfold dA bD ao;rw[List.filter_map,iE,iE];have n:((λx=>match x with|PV.int i=>decide (i+(w:Int)<=(z.length:Nat))|_=>aj) ∘ λ(i:Nat)=>PV.int (0+(i:Nat)))=λi=>decide (i+w<=z.length):=by funext i;simp only[Function.comp];congr 1;simp;lia
  rw[n];refine ym λi f=>?_;have:=(xU.mp f).2;simp only[decide_eq_true_eq]at this;simp only[Function.comp,Int.zero_add];rw[AI this]
 simp only[kj]at b;rw[m]at b;have c:=Ar l;generalize ao (bx (bD z w))=T at c;generalize ao (bD z w)=B at b c;simp![qJ,yaE,br,g,hV,b,c,o5]
theorem yS{z:Tx}{w:Nat}:∀x∈bD z w,x.length=w/\∀c∈x,c∈z:=by intro x b;simp only[bD,gW,xU,List.mem_range,decide_eq_true_eq]at b;obtain⟨i,⟨_,h⟩,rfl⟩:=b;exact⟨by rw[lc,pL];lia,λc d=>Do (List.mem_of_mem_take d)⟩
theorem JX{z:Tx}{w m:Nat}(c:1<=w)(f:w<=z.length)(d:z.length<=w+m):1<=(bD z w).length/\(bD z w).length<=m+1:=by
 unfold bD;rw[fG];have:∀n,((cz n).filter λi=>decide (i+w<=z.length)).length=min n (z.length+1-w):=by
  intro n
  induction n with
  |zero=>simp
  |succ n b=>
   rw[rV,List.filter_append,eZ,b];by_cases h:n+w<=z.length
   .simp[List.filter,h];lia
   .simp[List.filter,h];lia
 rw[this];lia
structure Good(l:Tx)(w:Nat)(ls:List Tx):Prop where
 len:∀x∈ls,x.length=w
 abc:∀x∈ls,∀c∈x,c∈l
 some:1<=ls.length
 few:ls.length<=9
theorem Good.perm{l:Tx}{w:Nat}{ls b:List Tx}(g:Good l w ls)(p:b.Perm ls):Good l w b:=⟨λx h=>g.len x (p.mem_iff.mp h),λx h=>g.abc x (p.mem_iff.mp h),by rw[p.length_eq];exact g.some,by rw[p.length_eq];exact g.few⟩
theorem Good.put{l:Tx}{w:Nat}{ls:List Tx}{z:Tx}{j:Nat}(g:Good l w ls)(b:z.length=w)(d:∀c∈z,c∈l):Good l w (ls.set j z):=by
 refine⟨λx h=>?_,λx h=>?_,by rw[e_];exact g.some,by rw[e_];exact g.few⟩
 .rcases List.mem_or_eq_of_mem_set h with h|rfl
  .exact g.len x h
  .exact b
 .rcases List.mem_or_eq_of_mem_set h with h|rfl
  .exact g.abc x h
  .exact d
theorem F7(ls:List Tx)(j:Nat)(z:Tx):(ao ls).set j (.str z)=ao (ls.set j z):=by simp[ao,List.map_set]
theorem iS(ls:List Tx):(ao ls).length=ls.length:=by simp[ao]
theorem Kv{n:Nat}{v:Int}(c:0<=v)(b:v<n):i8 n v=aa v.toNat:=by unfold i8;rw[if_pos c,if_pos b]
theorem GR(ls:List Tx):kJ (ao ls)=ai:=by
 induction ls with
 |nil=>rfl
 |cons x ls b=>show(imm (.str x)&&kJ (ao ls))=ai;rw[b];rfl
theorem Ia(j:List Int)(xs:List PV)(d f:Nat)(hs:d<3)(m1:1<=f)(m9:f<=9)(hx:xs.length<=300):∃(w:Nat) (ls:List Tx) (l:List PV),1<=w/\w<=4/\(d≠2->2<=w)/\Good cV w ls/\ls.Pairwise (λa b=>dQ a b=ai)/\ls.length<=f/\(d=0->∃z:Tx,ls=bx (bD z w)/\w<=z.length/\z.length+1<=w+f/\∀c∈z,c∈cV)/\l.length<=xs.length+60 /\ qc a [bI j,.own (.lst xs),⇑d,⇑f]=.ok (.val (.tup [.int w,.tup (ao ls)])) [bI j,.own (.lst l),⇑d,⇑f]:=by
 obtain⟨w,L,Q,S,X⟩:∃w:Nat,1<=w/\w<=4/\(d≠2->2<=w)/\(cH (dB (d2 (Pu.eqT ai) (dV 2) (dC (.int 2)))) (d2 bt (dC (.int 2)) (ba (a7 (gc a) (gV (dV 0) (gO 1 (gV (dC (.int 3)) (Pu.bu))))))) (d2 bt (dC (.int 1)) (ba (a7 (gc a) (gV (dV 0) (gO 1 (gV (dC (.int 4)) (Pu.bu)))))))) [bI j,.own (.lst xs),⇑d,⇑f,.none,.none,.none] =
   .ok (.int w) [bI j,.own (.lst (xs++[.int 0])),⇑d,⇑f,.none,.none,.none]:=by
  by_cases h2:d=2
  .subst h2;obtain⟨v,E,D,o⟩:=kW (a:=a) j xs 4 (by decide) ∅;refine⟨(1+v).toNat,∅,∅,λz=>absurd rfl z,?_⟩;have e:Pu.eqT ai (.int 2) (.int 2)=aa (.bl aj):=by rw[qS];rfl
   have:((1+v).toNat:Int)=1+v:=∅
   simp![e,o,bt,this]
  .obtain⟨v,E,D,o⟩:=kW (a:=a) j xs 3 (by decide) ∅;refine⟨(2+v).toNat,∅,∅,λ_=>∅,?_⟩;have e:Pu.eqT ai (.int ((d:Nat):Int)) (.int 2)=aa (.bl ai):=by
    have:d=0\/d=1:=∅
    rcases this with rfl|rfl <;> (rw[qS];rfl)
   have:((2+v).toNat:Int)=2+v:=∅
   simp![e,o,bt,this]
 obtain⟨z,C,A,J,g,F,y⟩:=wM (a:=a) j (xs++[.int 0]) w (w+(f-1)) ∅ ∅ (by simp;lia);simp only[eZ,u0]at F;have LW:=By (a:=a) z w ∅;have LY:=JX (z:=z) (w:=w) (m:=f-1) L A J;have g0:Good cV w (bx (bD z w)):=by exact Good.perm ⟨λx h=>(yS x h).1,λx h c hc=>g c ((yS x h).2 c hc),LY.1,∅⟩ (iL _)
 have p:eQ (.int d) (.int 3)=aa (.int d):=by
  have:d=0\/d=1\/d=2:=∅
  rcases this with rfl|rfl|rfl <;> rfl
 have Y:jb [.int d]=aa (dA 0 d):=ux ∅;have bn:(dA 0 d).length=d:=by simp[dA]
 obtain⟨P,e1,l,ls,u,rfl,s,n,h0,W⟩:=v3 (i:=6) (db:=(uJ 5 (ba (a7 (gc a) (gV (dV 0) (gO 1 (gV (js (λxs=>mU (br xs)) 5) (Pu.bu)))))) (ba (a7 (kG a) (gV (dV 0) (gO 1 (gV (dV 4) (gV (dV 4) (Pu.bu)))))))))
  (I:=λk H=>∃l ls u,H=[bI j,.own (.lst l),⇑d,⇑f,⇑w,.own (.lst (ao ls)),u]/\Good cV w ls/\ls.length<=f/\(k=0->ls=bx (bD z w))/\l.length<=C.length+10*k) (N:=d)
  (by
   rintro k H x hk ⟨l,ls,u,rfl,s,n,_,W⟩;obtain⟨z,K,A,J,g,sX,y⟩:=wM (a:=a) j l w w ∅ ∅ ∅;obtain⟨v,E,D,o⟩:=kW (a:=a) j K (ls.length:Nat) (by have:=s.some;lia) ∅;refine⟨[bI j,.own (.lst (K++[.int 0])),⇑d,⇑f,⇑w,.own (.lst (ao (ls.set v.toNat z))),.val x],?_,_,_,_,rfl,s.put ∅ g,by rw[e_];exact n,λz=>∅,by simp;lia⟩;have G:i8 (ao ls).length v=aa v.toNat:=Kv E (by rw[iS];exact D);have Z:br [.lst (ao ls)]=aa (.int (ls.length:Nat)):=by simp[br,iS]
   simp![uJ,y,Z,o,G,F7])
  (dA 0 d) 0 [bI j,.own (.lst C),⇑d,⇑f,⇑w,.own (.lst (ao (bx (bD z w)))),.none] ∅ ⟨C,_,.none,rfl,g0,by rw[w8];lia,λ_=>rfl,∅⟩
 refine⟨w,bx ls,l,L,Q,S,s.perm (iL _),xq _,by rw[w8];exact n,λz0=>⟨z,by rw[h0 ∅,BE (xq _)],A,∅,g⟩,∅,?_⟩;have M:bt (.int w) (.int f)=aa (.int ((w:Int)+f)):=rfl;have B:je (.int ((w:Int)+f)) (.int 1)=aa (.int (((w+(f-1):Nat)):Int)):=by show aa (PV.int ((w:Int)+f-1))=_;congr 2;lia
 have O:=Ar (ls:=ls) (by have:=s.few;lia);have t:yaG a [bI j,.own (.lst xs),⇑d,⇑f,.none,.none,.none]=.ok (.ret (.val (.tup [.int w,.tup (ao (bx ls))]))) [bI j,.own (.lst l),⇑d,⇑f,⇑w,.own (.lst (ao ls)),u]:=by unfold yaG;refine(eR (JY X)).trans ?_;have r:=GR (bx ls);generalize ao (bx ls)=T at O r;generalize ((w+(f-1):Nat):Int)=q at B y;generalize (w:Int)+f=q2 at M B;simp[bh,cH,dB,d2,d1,dV,dC,dL,dF,ay,aK,bV,mM,dm,kT,a7,gV,gO,Pu.bu,gu,gH,cr,et,g6,R.bind,aW,bw,dW,bC,back,fW,lJ,BI,zA,B0,Bf,ba,t_,fQ,dO,c8,K4,rD,Kq,jT,xA,qr,mI,kF,Iw,m_,dj,c0,o0,js,uz,bW,pJ,M,B,y,LW,o9,p,fR,Y,fj,e1,O,BC,r,o5]
 simp[qc,bw,dW,bC,t,back,fW]
theorem map_set{b c:Type}(f:b->c)(l:List b)(j:Nat)(x:b):(l.map f).set j (f x)=(l.set j x).map f:=by simp[List.map_set]
theorem K5(c b:List Tx):ao c++ao b=ao (c++b):=by simp[ao]
theorem we{b:Type}(xs:List b)(n:Nat):dE xs ae (aa (n:Int))=xs.take n:=by
 unfold dE;have c:HT.sIx xs.length 0 ae=0:=rfl;rw[c,HT.sIx_nat,List.drop_zero,Nat.sub_zero];by_cases h:n<=xs.length
 .rw[Nat.min_eq_left h]
 .rw[Nat.min_eq_right ∅,nU (a8 _),nU ∅]
theorem wC{b:Type}(xs:List b)(n:Nat):dE xs (aa (n:Int)) ae=xs.drop n:=by
 unfold dE;have c:HT.sIx xs.length xs.length ae=xs.length:=rfl;rw[c,HT.sIx_nat];by_cases h:n<=xs.length
 .rw[Nat.min_eq_left h,nU (by rw[pL];lia)]
 .rw[Nat.min_eq_right ∅,List.drop_of_length_le ∅,List.drop_of_length_le ∅];simp
theorem lV{t T:String}{b:Bool}{x:PV}(h:pA x=aa t)(e:fD [] (.type t) (.type T)=aa b):gb [x,.raw (.ty T)]=aa (.bl b):=by show((pA x).bind λt=>(fD [] (.type t) (.type T)).map λb=>PV.bl b)=_;rw[h,gh,e];rfl
theorem Iz:fD [] (.type "int") (.type "int")=aa ai:=by decide +kernel
theorem J6:fD [] (.type "int") (.type "bool")=aa aj:=by decide +kernel
theorem AM:fD [] (.type "str") (.type "str")=aa ai:=by decide +kernel
theorem vT:fD [] (.type "tuple") (.type "tuple")=aa ai:=by decide +kernel
theorem EO(bs:List Bool):kB (bs.map .bl)=aa bs:=by
 induction bs with
 |nil=>rfl
 |cons b bs c=>show(kB (bs.map .bl)).map (b::·)=_;rw[c];rfl
theorem wd(bs:List Bool):pc [.lst (bs.map .bl)]=aa (.bl (bs.all id)):=by show(kB (bs.map .bl)).map _=_;rw[EO];rfl
theorem Az(z s:Tx):rh a [↥z,↥s]=.ok (.val (.bl (z.all s.contains))) [↥z,↥s]:=by
 have b:=oJ (cap:=[1]) (dt:=iT) (de:=(d2 (oH aj) (dV 0) (dV 1))) (ε:=[↥z,↥s]) (λ_=>ai) (λx=>match x with|.str [c]=>.bl (s.contains c)|_=>.non) (z.map λc=>.str [c])
  (by
   intro x h;obtain⟨c,_,rfl⟩:=gW.mp h;refine⟨by simp![f8,fg,cG,iT],λ_=>?_⟩;have g:oH aj (.str [c]) (.str s)=aa (.bl (s.contains c)):=by rw[<-EC];simp[oH]
   simp![f8,fg,cG,g]) []
 have i:((z.map λc=>PV.str [c]).filter (λ_=>ai)).map (λx=>match x with|.str [c]=>PV.bl (s.contains c)|_=>.non)=(z.map s.contains).map .bl:=by rw[yG.mpr (by simp),iE,iE];rfl
 rw[kj,i]at b;have f:(z.map s.contains).all id=z.all s.contains:=by rw[u_];rfl
 generalize z.map s.contains=bs at b f;have d:=wd bs;rw[f]at d;simp![rh,yaq,hV,gA,lY,b,d]
def gv(w:Int)(s z:Tx):Bool:=decide ((z.length:Int)=w)&&z.all s.contains
theorem E5(z s:Tx)(w:Int):ph a [↥z,⇑w,↥s]=.ok (.val (.bl (gv w s z))) [↥z,⇑w,↥s]:=by
 have d:gb [.str z,.raw (.ty "str")]=aa (.bl ai):=lV rfl AM;have f:=Az (a:=a) z s;have c:br [.str z]=aa (.int (z.length:Nat)):=rfl;have b:=qS aj (z.length:Nat) w;unfold gv;by_cases h:((z.length:Nat):Int)=w
 .simp only[h,decide_true,Bool.xor_true,Bool.not_false]at b;simp![ph,yaw,d,c,b,f,h]
 .simp only[h,decide_false,Bool.xor_false]at b;simp![ph,yaw,d,c,b,h]
theorem Es(d c:List Tx):fZ (ao d) (ao c)=aa (decide (d=c)):=by
 induction d generalizing c with
 |nil=>cases c <;> simp[ao,fZ]
 |cons x d f=>
  cases c with
  |nil=>simp[ao,fZ]
  |cons y c=>
   show(cx (.str x) (.str y)).bind (λa=>(fZ (ao d) (ao c)).map λb=>a&&b)=_;rw[f];have:cx (.str x) (.str y)=aa (decide (x=y)):=by
    show aa (tS x == tS y)=_;by_cases h:x=y
    .subst h;simp
    .have:tS x≠tS y:=λz=>h (qE z);simp[h,this]
   rw[this];simp[List.cons.injEq]
theorem EG(b:List Tx):h_ (ao b)=0:=by
 induction b with
 |nil=>rfl
 |cons x b c=>show max (iX (.str x)) (h_ (ao b))=0;rw[c];rfl
theorem KB(b:Bool)(c d:List Tx):Pu.eqT b (.lst (ao c)) (.lst (ao d))=aa (.bl (b^^decide (c=d))):=by show(if iX (.lst (ao c))<=8 then(fZ (ao c) (ao d)).map (λk=>PV.bl (b^^k))else ae)=_;rw[if_pos (by show h_ (ao c)+1<=8;rw[EG];decide),Es];rfl
theorem Fi(b:List Tx)(w:Int)(s:Tx)(t:1<=b.length)(r:b.length<=9):lT a [.val (.tup (ao b)),⇑w,↥s]=.ok (.val (.bl (b.all (gv w s)&&decide (b=bx b)))) [.val (.tup (ao b)),⇑w,↥s]:=by
 have h:gb [.tup (ao b),.raw (.ty "tuple")]=aa (.bl ai):=lV rfl vT;have i:br [.tup (ao b)]=aa (.int (b.length:Nat)):=by simp[br,iS]
 have m:(1:Int)<=(b.length:Nat):=∅
 have l:((b.length:Nat):Int)<=9:=∅
 have d:=oJ (cap:=[1,2]) (dt:=iT) (de:=(ba (a7 (ph a) (gV (dV 0) (gV (dV 1) (gV (dV 2) (Pu.bu))))))) (ε:=[.val (.tup (ao b)),⇑w,↥s]) (λ_=>ai) (λx=>match x with|.str z=>.bl (gv w s z)|_=>.non) (ao b)
  (by intro x o;obtain⟨z,_,rfl⟩:=gW.mp o;refine⟨by simp![f8,fg,cG,iT],λ_=>?_⟩;have p:=E5 (a:=a) z s w;simp![f8,fg,cG,p]) []
 have q:((ao b).filter (λ_=>ai)).map (λx=>match x with|.str z=>PV.bl (gv w s z)|_=>.non)=(b.map (gv w s)).map .bl:=by rw[yG.mpr (by simp)];unfold ao;rw[iE,iE];rfl
 rw[kj,q]at d;have g:(b.map (gv w s)).all id=b.all (gv w s):=by rw[u_];rfl
 generalize b.map (gv w s)=bs at d g;have f:=wd bs;have n:b.length<=1000000:=∅
 have c:=KB aj b (bx b);cases j:b.all (gv w s)with
 |false=>rw[g,j]at f;simp![lT,yan,h,i,m,l,hV,gA,lY,d,f]
 |true=>rw[g,j]at f;simp only[Bool.false_xor]at c;simp![lT,yan,h,i,m,l,hV,gA,lY,d,f,o9,nq,qt,n,c]
theorem Lj(b:List Tx)(w:Int)(s:Tx)(h:b.length=0\/9<b.length):lT a [.val (.tup (ao b)),⇑w,↥s]=.ok (.val (.bl aj)) [.val (.tup (ao b)),⇑w,↥s]:=by
 have c:gb [.tup (ao b),.raw (.ty "tuple")]=aa (.bl ai):=lV rfl vT;have d:br [.tup (ao b)]=aa (.int (b.length:Nat)):=by simp[br,iS]
 by_cases f:(1:Int)<=(b.length:Nat)
 .have g:¬((b.length:Nat):Int)<=9:=∅
  simp![lT,yan,c,d,f,g]
 .simp![lT,yan,c,d,f]
theorem J0(i:Int):tF a [⇑i]=.ok (.val (.bl ai)) [⇑i]:=by have c:gb [.int i,.raw (.ty "int")]=aa (.bl ai):=lV rfl Iz;have b:gb [.int i,.raw (.ty "bool")]=aa (.bl aj):=lV rfl J6;simp![tF,yau,c,b]
theorem FK(i:Int):pB a [⇑i]=.ok (.val (.bl (decide (1<=i/\i<=4)))) [⇑i]:=by
 have h:=J0 (a:=a) i;by_cases b:1<=i
 .by_cases c:i<=4
  .simp![pB,yav,h,b,c]
  .simp![pB,yav,h,b,c]
 .simp![pB,yav,h,b]
def oF(s:Tx)(w:Int)(ls:List Tx):Bool:=decide (1<=w/\w<=4)&&(decide (1<=ls.length/\ls.length<=9)&&(ls.all (gv w s)&&decide (ls=bx ls)))
theorem Ln(s:Tx)(w:Int)(b:List Tx):o6 a [.val (.tup [.int w,.tup (ao b)]),↥s]=.ok (.val (.bl (oF s w b))) [.val (.tup [.int w,.tup (ao b)]),↥s]:=by
 have h:gb [.tup [.int w,.tup (ao b)],.raw (.ty "tuple")]=aa (.bl ai):=lV rfl vT;have l:br [.tup [.int w,.tup (ao b)]]=aa (.int 2):=rfl;have f:=qS ai 2 2;simp only[decide_true,Bool.true_xor,Bool.not_true]at f;have j:bP (.tup [.int w,.tup (ao b)]) (.int 0)=aa (.int w):=rfl;have i:bP (.tup [.int w,.tup (ao b)]) (.int 1)=aa (.tup (ao b)):=rfl;have d:=FK (a:=a) w;unfold oF;by_cases c:1<=w/\w<=4
 .rw[decide_eq_true c]at d ⊢;by_cases g:1<=b.length/\b.length<=9
  .have m:=Fi (a:=a) b w s g.1 g.2;rw[decide_eq_true g];simp![o6,yat,h,l,f,j,i,d,m]
  .have m:=Lj (a:=a) b w s ∅;rw[decide_eq_false g];simp![o6,yat,h,l,f,j,i,d,m]
 .rw[decide_eq_false c]at d ⊢;simp![o6,yat,h,l,f,j,i,d]
abbrev vw(w:Int)(ls:List Tx):Bool:=oF cV w ls
theorem zX(w:Int)(ls:List Tx):qT a [.val (.tup [.int w,.tup (ao ls)])]=.ok (.val (.bl (vw w ls))) [.val (.tup [.int w,.tup (ao ls)])]:=by have b:=Ln (a:=a) cV w ls;simp only[cV]at b;simp![qT,yas,b];rfl
theorem BF{w:Int}{b:List Tx}(h:vw w b=ai):jo a [.val (.tup [.int w,.tup (ao b)])]=.ok (.val .non) [.val (.tup [.int w,.tup (ao b)])]:=by have c:=zX (a:=a) w b;rw[h]at c;simp![jo,yap,c]
theorem Good.vw{w:Nat}{ls:List Tx}(g:Good cV w ls)(m:1<=w)(l:w<=4)(f:ls.Pairwise (λa b=>dQ a b=ai)):vw w ls=ai:=by
 have j:ls.all (gv w cV)=ai:=by rw[lj];intro x d;unfold gv;rw[g.len x d,decide_eq_true rfl,yo,lj];intro c h;simpa using g.abc x d c h
 have i:decide (ls=bx ls)=ai:=decide_eq_true (BE f).symm;show oF cV w ls=ai;unfold oF;rw[j,i,decide_eq_true (show 1<=(w:Int)/\(w:Int)<=4 by lia),decide_eq_true (show 1<=ls.length/\ls.length<=9 from⟨g.some,g.few⟩)];rfl
theorem D7{x:PV}(h:qT a [.val x]=.ok (.val (.bl aj)) [.val x]):jo a [.val x]=.er (.ref a.NoView) [.val x]:=by simp![jo,yap,h,qw,cG]
end
section
variable{a:Ad}
abbrev bQ(w:Nat)(ls:List Tx):PV:=.tup [.int w,.tup (ao ls)]
theorem Ak(b:List Tx):fq (ao b)=aa (cE b):=by
 induction b with
 |nil=>rfl
 |cons x b c=>show(cp (.str x)).bind (λv=>(fq (ao b)).map (v::·))=_;rw[c];rfl
theorem uA(b:List Tx)(x:Tx):gB (ao b) (.str x)=aa (.int (b.count x:Nat)):=by show(cp (.str x)).bind (λv=>(fq (ao b)).map λc=>PV.int (c.countP λz=>cb z v))=_;rw[Ak,<-Fb];rfl
end
end Sh
namespace Mx
open L2 Pu
def Jy(t:Tx)(w:Nat):List Tx:=(AE t.length).filter λz=>(bD z w).isPerm (bD t w)
def ovD(a w:Tx):Nat->Nat
 |0=>0
 |k+1=>if w.take (k+1) <:+ a then k+1 else ovD a w k
def ov(a w:Tx):Nat:=ovD a w (w.length-1)
def adW(a w:Tx):Tx:=w.drop (ov a w)
theorem ovD_le(a w:Tx):∀k,ovD a w k<=k
 |0=>a8 _
 |k+1=>by unfold ovD;split;exact a8 _;exact Nat.le_succ_of_le (ovD_le a w k)
theorem ovD_suf(a w:Tx):∀k,w.take (ovD a w k) <:+ a
 |0=>by simp[ovD]
 |k+1=>by unfold ovD;split;assumption;exact ovD_suf a w k
theorem ov_lt{a w:Tx}(h:1<=w.length):ov a w<w.length:=by have:=ovD_le a w (w.length-1);unfold ov;lia
theorem ov_nil(w:Tx):ov [] w=0:=by have h:=ovD_suf [] w (w.length-1);have b:=ovD_le [] w (w.length-1);unfold ov;have:=List.suffix_nil.mp h;have a:=congrArg pJ this;rw[lc,nQ]at a;lia
theorem adW_nil(w:Tx):adW [] w=w:=by unfold adW;rw[ov_nil];rfl
theorem adW_len(a w:Tx):(adW a w).length=w.length-ov a w:=by simp[adW]
theorem lay{a w:Tx}{n:Nat}(d:w.length=n)(c:1<=n)(g:a.length=n):∃p:Tx,1<=p.length/\a++adW a w=p++w:=by
 obtain⟨p,b⟩:=ovD_suf a w (w.length-1);have f:=ov_lt (a:=a) (w:=w) ∅;refine⟨p,?_,?_⟩
 .have:=congrArg pJ b;rw[eZ,lc]at this;have h:ov a w=ovD a w (w.length-1):=rfl;lia
 .show a++w.drop (ovD a w (w.length-1))=p++w;generalize ovD a w (w.length-1)=k at b;rw[<-b,kh,rT]
def chain:Tx->List Tx->Tx
 |_,[]=>[]
 |a,w::b=>adW a w++chain w b
theorem chain_len(n:Nat):∀(b:List Tx) (a:Tx),(∀x∈b,x.length=n)->(chain a b).length<=b.length*n
 |[],_,_=>by simp[chain]
 |w::b,a,h=>by have d:=h w (by simp);have f:=chain_len n b w λx c=>h x (by simp[c]);rw[chain,eZ,adW_len,d,gf,ye];lia
theorem chain_abc(l:Tx):∀(d:List Tx) (a:Tx),(∀x∈d,∀c∈x,c∈l)->∀c∈chain a d,c∈l
 |[],_,_,c,b=>by cases b
 |w::d,a,h,c,b=>by
  rcases ie.mp b with b|b
  .exact h w (by simp) c (Do b)
  .exact chain_abc l d w (λx f=>h x (by simp[f])) c b
theorem wins_cons{n:Nat}(a:1<=n)(c:Nat)(t:Tx)(h:n<=t.length+1):bD (c::t) n=(c::t).take n::bD t n:=by rw[qX _ _ a,qX _ _ a,gf,show t.length+1+1-n=(t.length+1-n)+1 by lia,yk,mn,iE];rfl
theorem wins_pre{n:Nat}(a:1<=n)(t:Tx)(h:n<=t.length):∀p:Tx,∃l:List Tx,bD (p++t) n=l++bD t n/\(1<=p.length->(p++t).take n∈l)/\l.length=p.length
 |[]=>⟨[],rfl,λz=>by simp at z,rfl⟩
 |c::p=>by obtain⟨l,d,_,b⟩:=wins_pre a t h p;refine⟨(c::(p++t)).take n::l,?_,λ_=>by simp,by simp[b]⟩;rw[n8,wins_cons a c (p++t) (by simp;lia),d];rfl
theorem wins_pre1{n:Nat}(a:1<=n)(t:Tx)(h:n<=t.length)(p:Tx)(b:1<=p.length):∃l:List Tx,bD (p++t) n=(p++t).take n::(l++bD t n):=by
 cases p with
 |nil=>simp at b
 |cons c p=>obtain⟨l,d,_,f⟩:=wins_pre a t h p;refine⟨l,?_⟩;rw[n8,wins_cons a c (p++t) (by simp;lia),d]
theorem chain_has{n:Nat}(c:1<=n):∀(b:List Tx) (a:Tx),a.length=n->(∀x∈b,x.length=n)->(a::b).Sublist (bD (a++chain a b) n)
 |[],a,d,_=>by rw[chain,iA,qX _ _ c,d,show n+1-n=1 by lia];show [a].Sublist [(a.drop 0).take n];rw[List.drop_zero,nU ∅];exact List.Sublist.refl _
 |w::b,a,d,h=>by
  have f:=h w (by simp);have i:=chain_has c b w f λx j=>h x (by simp[j]);obtain⟨p,m,e⟩:=lay (a:=a) f c d;have g:a++chain a (w::b)=p++(w++chain w b):=by rw[chain,<-kh,e,kh]
  obtain⟨l,o⟩:=wins_pre1 c (w++chain w b) (by simp;lia) p m;rw[g,o,<-g,List.take_append_of_le_length ∅,nU ∅];exact List.Sublist.cons_cons _ (i.trans (List.sublist_append_right _ _))
def Has(n:Nat)(t:Tx)(a:List Tx):Prop:=∀x,a.count x<=(bD t n).count x
theorem chain_has0{n:Nat}(c:1<=n){a b:List Tx}(h:∀x∈a,x.length=n)(p:a.Perm b):Has n (chain [] a) b:=λx=>by
 rw[<-p.count_eq];cases a with
 |nil=>simp
 |cons w a=>have:=chain_has c a w (h w (by simp)) λx d=>h x (by simp[d]);rw[chain,adW_nil];exact this.count_le x
def leN:Nat->Tx->List Tx->Tx
 |0,_,_=>[]
 |n+1,a,l=>(lW ((bx (cC l)).map λw=>adW a w++leN n w (l.erase w))).getD []
def LE(a:Tx)(l:List Tx):Tx:=leN l.length a l
theorem minX_some{l:List Tx}(h:l≠[]):∃x,lW l=aa x/\x∈l/\∀y∈l,cZ y x=aj:=by
 cases l with
 |nil=>exact absurd rfl h
 |cons b r=>obtain⟨c,a⟩:=AK r b;exact⟨_,rfl,c,a⟩
theorem LE_step{a:Tx}{l:List Tx}(h:l≠[]):∃w∈l,LE a l=adW a w++LE w (l.erase w)/\∀y∈l,cZ (adW a y++LE y (l.erase y)) (LE a l)=aj:=by
 have d:∀w,w∈bx (cC l)↔w∈l:=λw=>by rw[(iL _).mem_iff,oW]
 obtain⟨n,g⟩:∃n,l.length=n+1:=⟨l.length-1,by have:=List.length_pos_iff.mpr h;lia⟩
 have p:((bx (cC l)).map λw=>adW a w++leN n w (l.erase w))≠[]:=by
  intro z;rw[List.map_eq_nil_iff]at z;obtain⟨w,c⟩:=List.exists_mem_of_ne_nil l h;have:=(d w).mpr c;rw[z]at this;cases this
 have i:∀w∈l,leN n w (l.erase w)=LE w (l.erase w):=λw c=>by unfold LE;rw[yH c,g];rfl
 obtain⟨x,o,m,j⟩:=minX_some p;have e:LE a l=x:=by unfold LE;rw[g];show(lW _).getD []=x;rw[o];rfl
 obtain⟨w,c,rfl⟩:=gW.mp m;have b:=(d w).mp c;refine⟨w,b,by rw[e,i w b],λy f=>?_⟩;rw[e,<-i y f];exact j _ (gW.mpr ⟨y,(d y).mpr f,rfl⟩)
theorem LE_chain:∀(m:Nat) (a:Tx) (l:List Tx),l.length=m->∃b:List Tx,b.Perm l/\LE a l=chain a b
 |0,a,l,h=>⟨[],by rw[nV h],by rw[nV h];rfl⟩
 |m+1,a,l,h=>by obtain⟨w,c,e,_⟩:=LE_step (a:=a) (l:=l) (by rintro rfl;simp at h);obtain⟨b,p,d⟩:=LE_chain m w (l.erase w) (by rw[yH c,h];rfl);exact⟨w::b,(p.cons w).trans (List.perm_cons_erase c).symm,by rw[e,d];rfl⟩
def short(ls:List Tx):Tx:=LE [] ls
theorem short_has{n:Nat}(a:1<=n){ls:List Tx}(h:∀x∈ls,x.length=n):Has n (short ls) ls:=by obtain⟨c,p,e⟩:=LE_chain _ [] ls rfl;unfold short;rw[e];exact chain_has0 a (λx b=>h x (p.mem_iff.mp b)) p
theorem short_len{n:Nat}{ls:List Tx}(h:∀x∈ls,x.length=n):(short ls).length<=ls.length*n:=by obtain⟨a,p,e⟩:=LE_chain _ [] ls rfl;unfold short;rw[e,<-p.length_eq];exact chain_len n a [] λx b=>h x (p.mem_iff.mp b)
theorem LE_len{n:Nat}{a:Tx}{ls:List Tx}(h:∀x∈ls,x.length=n):(LE a ls).length<=ls.length*n:=by obtain⟨b,p,e⟩:=LE_chain _ a ls rfl;rw[e,<-p.length_eq];exact chain_len n b a λx c=>h x (p.mem_iff.mp c)
theorem short_abc{l:Tx}{ls:List Tx}(h:∀x∈ls,∀c∈x,c∈l):∀c∈short ls,c∈l:=by obtain⟨a,p,e⟩:=LE_chain _ [] ls rfl;unfold short;rw[e];exact chain_abc l a [] λx b=>h x (p.mem_iff.mp b)
end Mx
namespace Sh
open L2 Pu Mx
section
variable{a:Ad}
def alB:ak->R aP:=(cH (dB (qG qm (dV 0) (ay (d9 dD (dV 1) (g_) (dq (dV 2))) (aK)))) (bV (d9 dD (dV 1) (dq (dV 2)) (g_))) (c8))
theorem al_one(t w:Tx)(k:Nat)(f:Slot):alB ([↥t,↥w,f].set 2 (⇑k))=.ok (if w.take k <:+ t then .ret (↥(w.drop k))else .next) [↥t,↥w,⇑k]:=by
 have c:dD (.str w) ae (aa ((k:Nat):Int))=aa (.str (w.take k)):=by show aa (PV.str (dE w ae _))=_;rw[we]
 have d:dD (.str w) (aa ((k:Nat):Int)) ae=aa (.str (w.drop k)):=by show aa (PV.str (dE w _ ae))=_;rw[wC]
 have b:qm t [.str (w.take k)]=aa (.bl (decide (w.take k <:+ t))):=rfl;by_cases h:w.take k <:+ t
 .rw[if_pos h];rw[decide_eq_true h]at b;generalize w.take k=T at c b;generalize w.drop k=D at d;generalize ((k:Nat):Int)=KI at c d;simp![alB,qG,wR,d9,dq,g_,c,d,b]
 .rw[if_neg h];rw[decide_eq_false h]at b;generalize w.take k=T at c b;generalize ((k:Nat):Int)=KI at c;simp![alB,qG,wR,d9,dq,g_,c,b]
theorem al_loop(t w:Tx):∀(k:Nat) (b:Slot),∃c,eV 2 alB (j8 ((k:Nat):Int) k) [↥t,↥w,b]=.ok (if ovD t w k=0 then .next else .ret (↥(w.drop (ovD t w k)))) [↥t,↥w,c]
 |0,b=>⟨b,rfl⟩
 |k+1,b=>by
  have e:j8 (((k+1:Nat)):Int) (k+1)=.int ((k+1:Nat):Int)::j8 ((k:Nat):Int) k:=by unfold j8;rw[yk,mn,iE];refine congr (congrArg List.cons (by simp)) (ym λi _=>?_);show PV.int _=PV.int _;congr 1;lia
  have d:=al_one t w (k+1) b;rw[e,eV,d];unfold ovD;by_cases h:w.take (k+1) <:+ t
  .rw[if_pos h,if_pos h];exact⟨_,rfl⟩
  .rw[if_neg h,if_neg h];exact al_loop t w k _
theorem added_eq(t w:Tx)(o:1<=w.length)(p:w.length<=100):qB a [↥t,↥w]=.ok (↥(adW t w)) [↥t,↥w]:=by
 obtain⟨j,i⟩:=al_loop t w (w.length-1) .none;have l:br [.str w]=aa (.int (w.length:Nat)):=by simp[br]
 have d:je (.int (w.length:Nat)) (.int 1)=aa (.int ((w.length-1:Nat):Int)):=by show aa (PV.int ((w.length:Int)-1))=_;congr 2;lia
 have f:qo [.int ((w.length-1:Nat):Int),.int 0,.int (-1)]=aa (j8 ((w.length-1:Nat):Int) (w.length-1)):=by show(if(-1:Int)=-1/\(0:Int)<=1000000/\(-1000000:Int)<=0/\((w.length-1:Nat):Int)<=1000000/\-1000000<=((w.length-1:Nat):Int)then aa (j8 ((w.length-1:Nat):Int) (((w.length-1:Nat):Int)-0).toNat)else ae)=_;rw[if_pos ⟨rfl,by decide,by decide,∅,∅⟩];congr 2
 have m:oV (.int 1)=aa (.int (-1)):=rfl;have g:ov t w=ovD t w (w.length-1):=rfl;have b:(λc=>fj (fR 2 (dL qo (ay (d2 je (dL br (ay (dV 1) (aK))) (dC (.int 1))) (ay (dC (.int 0)) (ay (d1 oV (dC (.int 1))) (aK))))) alB c)) [↥t,↥w,.none]=.ok (if ovD t w (w.length-1)=0 then .next else .ret (↥(w.drop (ovD t w (w.length-1))))) [↥t,↥w,j]:=by generalize (if ovD t w (w.length-1)=0 then aP.next else aP.ret (↥(w.drop (ovD t w (w.length-1)))))=FL at i;generalize j8 ((w.length-1:Nat):Int) (w.length-1)=DW at i f;generalize ((w.length-1:Nat):Int)=W1 at d f;generalize ((w.length:Nat):Int)=W0 at l d;simp![fj,fR,l,d,m,f,i]
 have n:yam a [↥t,↥w,.none]=.ok (.ret (↥(adW t w))) [↥t,↥w,j]:=by
  show bh (λc=>fj (fR 2 _ alB c)) (bV (dV 1)) _=_;unfold adW;rw[g];by_cases h:ovD t w (w.length-1)=0
  .rw[if_pos h]at b;rw[h];exact(eR b).trans rfl
  .rw[if_neg h]at b;unfold bh;rw[b]
 simp[qB,bw,dW,bC,bW,n,back,fW,aW,R.bind]
theorem idx_txP{l:List Tx}{x:Tx}(h:x∈l):∃k,k<l.length/\kR (ao l) (.str x)=aa (.int k)/\l.take k++l.drop (k+1)=l.erase x:=by
 induction l with
 |nil=>cases h
 |cons y l i=>
  have g:∀b:List Tx,kR (ao b) (.str x)=((cE b).findIdx? λz=>cb z (tV x)).map λj=>PV.int (j:Nat):=λb=>by
   unfold kR;rw[Ak];show Option.map (λj=>PV.int j) ((List.findIdx? (λz=>cb z (tV x)) (cE b)).bind λa=>aa (a:Int))=_;cases List.findIdx? (λz=>cb z (tV x)) (cE b) <;> rfl
  rw[g];show ∃k,k<(y::l).length/\((tV y::cE l).findIdx? λz=>cb z (tV x)).map (λj=>PV.int (j:Nat))=_/\_;rw[List.findIdx?_cons,Cc];by_cases c:y=x
  .subst c;exact⟨0,by simp,by simp,by simp⟩
  .obtain⟨k,o,f,n⟩:=i ((bT.mp h).resolve_left λz=>c z.symm);rw[g]at f;refine⟨k+1,by simp;lia,?_,?_⟩
   .rw[decide_eq_false c];obtain⟨j,m,d⟩:=vq.mp f;have:j=k:=by injection d with d;exact Int.ofNat.inj d
    subst this;rw[m];rfl
   .rw[List.take_succ_cons,List.drop_succ_cons,n8,n,List.erase_cons_tail (by simpa using c)]
theorem add1_tx(xs b:List Tx)(h:xs.length+b.length<=1000):oE (.tup (ao xs)) (.tup (ao b))=aa (.tup (ao (xs++b))):=by
 cases xs with
 |nil=>rfl
 |cons x xs=>
  cases b with
  |nil=>show(if(ao xs).length<1000 then aa (PV.tup (.str x::ao xs))else ae)=_;rw[iS,if_pos (by simp at h;lia),iA];rfl
  |cons y b=>show(if(ao (x::xs)≠[]/\ao (y::b)≠[]/\(ao (x::xs)).length+(ao (y::b)).length<=1000)then aa (PV.tup (ao (x::xs)++ao (y::b)))else ae)=_;rw[if_pos ⟨by simp[ao],by simp[ao],by rw[iS,iS];exact h⟩,K5]
theorem without_eq{l:List Tx}{x:Tx}(h:x∈l)(m:l.length<=100):qM a [.val (.tup (ao l)),↥x]=.ok (.val (.tup (ao (l.erase x)))) [.val (.tup (ao l)),↥x]:=by
 obtain⟨k,j,f,i⟩:=idx_txP h;have d:dD (.tup (ao l)) ae (aa ((k:Nat):Int))=aa (.tup (ao (l.take k))):=by show(if HT.sIx (ao l).length 0 ae=0/\HT.sIx (ao l).length (ao l).length (aa ((k:Nat):Int))=(ao l).length then ae else aa (PV.tup (dE (ao l) ae (aa ((k:Nat):Int)))))=_;rw[if_neg (by rintro⟨_,z⟩;rw[HT.sIx_nat,iS]at z;lia),we];simp[ao]
 have c:dD (.tup (ao l)) (aa ((k+1:Nat):Int)) ae=aa (.tup (ao (l.drop (k+1)))):=by show(if HT.sIx (ao l).length 0 (aa ((k+1:Nat):Int))=0/\HT.sIx (ao l).length (ao l).length ae=(ao l).length then ae else aa (PV.tup (dE (ao l) (aa ((k+1:Nat):Int)) ae)))=_;rw[if_neg (by rintro⟨z,_⟩;rw[HT.sIx_nat,iS]at z;lia),wC];simp[ao]
 have g:oE (.int k) (.int 1)=aa (.int ((k+1:Nat):Int)):=rfl;have b:=add1_tx (l.take k) (l.drop (k+1)) (by simp;lia);rw[i]at b;generalize ((k+1:Nat):Int)=K1 at c g;generalize ((k:Nat):Int)=K0 at d g f;generalize ao (l.take k)=P1 at d b;generalize ao (l.drop (k+1))=P2 at c b;generalize ao (l.erase x)=P3 at b;generalize ao l=PL at d c f;simp![qM,yaM,iP,d9,dq,g_,f,d,c,g,b]
end
end Sh
namespace Mx
open L2 Pu
def kX(z:Tx)(i:Nat):Nat:=z.getD (i % z.length) 0
def Gr(z:Tx)(w:Nat):Tx:=((bW w z).flatten).take (z.length+w-1)
end Mx
namespace Sh
open L2 Pu Mx
section
variable{a:Ad}
def mL(t:Tx)(v:Nat):List Tx:=(cz (t.length+1-v)).map λi=>(t.drop i).take v
theorem Ep{t:Tx}{w:Nat}(m:w<=t.length+1)(o:t.length<=60):nA a [↥t,⇑w]=.ok (.own (.lst (ao (mL t w)))) [↥t,⇑w]:=by
 have j:br [.str t]=aa (.int (t.length:Nat)):=rfl;have h:je (.int (t.length:Nat)) (.int w)=aa (.int ((t.length:Int)-w)):=rfl;have f:bt (.int ((t.length:Int)-w)) (.int 1)=aa (.int ((t.length+1-w:Nat):Int)):=by show aa (PV.int ((t.length:Int)-w+1))=_;congr 2;lia
 have c:jb [.int ((t.length+1-w:Nat):Int)]=aa (dA 0 (t.length+1-w)):=ux ∅;have b:=oJ (cap:=[0,1]) (dt:=iT) (de:=(d9 dD (dV 1) (dq (dV 0)) (dq (d2 bt (dV 0) (dV 2))))) (ε:=[↥t,⇑w]) (λ_=>ai) (λx=>match x with|.int i=>.str (dE t (aa i) (aa (i+w)))|_=>.non) (dA 0 (t.length+1-w))
  (by intro x g;obtain⟨i,_,rfl⟩:=gW.mp g;refine⟨by simp![f8,fg,cG,iT],λ_=>?_⟩;simp![f8,fg,cG,bt,d9,dq,dD]) []
 have l:((dA 0 (t.length+1-w)).filter (λ_=>ai)).map (λx=>match x with|.int i=>PV.str (dE t (aa i) (aa (i+w)))|_=>.non)=ao (mL t w):=by
  rw[yG.mpr (by simp)];unfold dA ao mL;rw[iE,iE];refine ym λi d=>?_;have d:i<t.length+1-w:=by simpa using d
  simp only[Function.comp,Int.zero_add];rw[AI ∅]
 rw[kj,l]at b;generalize ao (mL t w)=T at b;generalize dA 0 (t.length+1-w)=RR at c b;generalize ((t.length+1-w:Nat):Int)=n at f c;simp![nA,yaJ,qe,hV,j,h,f,c,b]
theorem FI{t:Tx}{w:Nat}(b:1<=w):mL t w=bD t w:=(qX t w b).symm
theorem G_{t:Tx}{w:Nat}(b:1<=w)(c:w<=t.length+1)(d:t.length<=60):nA a [↥t,⇑w]=.ok (.own (.lst (ao (bD t w)))) [↥t,⇑w]:=by rw[<-FI b];exact Ep c d
def oS(b c:Nat):List Nat:=List.range' b (c-b)
def part(t:Tx)(i j:Nat):Tx:=(t.drop i).take (j-i)
def kX(b:List Tx)(i:Nat):Tx:=b.getD i []
def Ju(t:Tx)(s e g l:Nat):Tx:=t.take s++part t g l++part t e g++part t s e++t.drop l
def JC(t:Tx)(b:List Tx)(s g e:Nat):List Tx:=(oS (g+1) b.length).flatMap λl=>if kX b e=kX b l then [Ju t s e g l] else []
def GI(t:Tx)(b:List Tx)(s g:Nat):List Tx:=(oS (s+1) (g+1)).flatMap λe=>JC t b s g e
end
section
variable{a:Ad}
def Er(t:Tx)(b:List Tx)(s:Nat):List Tx:=(oS (s+1) b.length).flatMap λg=>if kX b s=kX b g then GI t b s g else []
def IF(t:Tx)(b:List Tx):List Tx:=(oS 0 b.length).flatMap λs=>Er t b s
def DL(t:Tx)(m w:Nat):List Tx:=(oS 1 m).map λp=>Gr ((t.take m).drop p++(t.take m).take p) w
def Hf(t:Tx)(b:List Tx)(w:Nat):List Tx:=if kX b 0=kX b (b.length-1)then DL t (b.length-1) w else []
def Fl(t:Tx)(w:Nat):List Tx:=IF t (mL t (w-1))++Hf t (mL t (w-1)) w
def EY(t:Tx)(m:Nat):List Tx:=(oS 1 m).map λp=>part (bW 3 (t.take m)).flatten p (p+t.length)
def i9(t:Tx)(b:List Tx):List Tx:=if kX b 0=kX b (b.length-1)then EY t (b.length-1)else []
end
section
variable{v:Nat}
def oc(v:Nat)(M:List Tx)(y:Tx):Nat:=(M.map λx=>if x.take v=y then 1 else 0).sum
abbrev en(v:Nat)(t:Tx):Tx:=t.drop (t.length-v)
abbrev b2(p:Prop)[Decidable p]:Nat:=if p then 1 else 0
end
inductive WN(w:Nat):Nat->Tx->Tx->Prop
 |here (n:Nat) (t:Tx):WN w n t t
 |on {n:Nat}{t u z:Tx}:WN w n t u->z∈Fl u w->WN w (n+1) t z
def Full(w:Nat)(t:Tx)(k:Nat):Prop:=∀z∈Jy t w,WN w k t z
abbrev ks(m:List (Tx×Int)):List Tx:=m.map (·.1)
def b1(p:Prop)[Decidable p]:Int:=if p then 1 else 0
def exc(a:List Tx)(y:Tx):Int:=(a.map λx=>b1 (x.dropLast=y)-b1 (x.tail=y)).sum
section
variable{a:Ad}
def f2(a:Ad):ak->R aP:=dm 2 (dF (hV [1] (gA (dF (K9 1))) (dB (d2 (dj λi j=>decide (j<i)) (BO 1 (dV 0)) (dC (.int 0)))) (dV 0)))
def f3:ak->R aP:=cH (dB (d2 (dj λi j=>decide (j<i)) (dL br (ay (dV 2) (aK))) (dC (.int 1)))) (bV (dL dO (ay (dC (.str [116,119,111])) (ay (d2 bP (dV 2) (dC (.int 0))) (ay (d2 bP (dV 2) (dC (.int 1))) (aK)))))) (c8)
def f4:ak->R aP:=cH (qr (dB (d2 (eqT aj) (dL br (ay (dV 2) (aK))) (dC (.int 1)))) (dB (d2 (dj λi j=>decide (j<i)) (BO 1 (d2 bP (dV 2) (dC (.int 0)))) (dC (.int 1))))) (bV (dL dO (ay (dC (.str [109,111,114,101])) (ay (d2 bP (dV 2) (dC (.int 0))) (aK))))) (c8)
theorem sortSetTP_eq{k:List Tx}(h:k.length<=1000):ny [.tup (ao k)]=aa (.lst (ao (bx (cC k)))):=by show(fz (ao k)).bind _=_;rw[qt,gh,if_pos];have:(cC k).length<=k.length:=(Jb k).length_le_of_subset λz b=>(oW _ _).mp b;lia
end
def TT:Nat->Nat
 |0=>0
 |m+1=>1+(m+1)*TT m
theorem TT_mono:∀{m n:Nat},m<=n->TT m<=TT n
 |m,0,h=>by rw[Nat.le_zero.mp h];exact a8 _
 |m,n+1,h=>by
  rcases Nat.lt_or_eq_of_le h with h|h
  .have:=TT_mono (Nat.le_of_lt_succ h);show TT m<=1+(n+1)*TT n;have a:TT n<=(n+1)*TT n:=Nat.le_mul_of_pos_left _ ∅;lia
  .rw[h];exact a8 _
def Kept(m:Nat)(a:List ((Tx×List Tx)×PV)):Prop:=∀p∈a,p.1.2.length<=m/\p.2=.str (LE p.1.1 p.1.2)
theorem Kept.app{m:Nat}{x y:List ((Tx×List Tx)×PV)}(c:Kept m x)(b:Kept m y):Kept m (x++y):=λp a=>(ie.mp a).elim (c p) (b p)
theorem Kept.mono{m n:Nat}{x:List ((Tx×List Tx)×PV)}(h:Kept m x)(b:m<=n):Kept n x:=λp a=>⟨cA (h p a).1 b,(h p a).2⟩
theorem valN_none{a:List ((Tx×List Tx)×PV)}{k:Tx×List Tx}(h:∀p∈a,p.1≠k):valN a k=ae:=by unfold valN;rw[List.find?_eq_none.mpr λp b=>by simpa using h p b];rfl
theorem valN_app{x y:List ((Tx×List Tx)×PV)}{k:Tx×List Tx}(h:valN x k=ae):valN (x++y) k=valN y k:=by
 unfold valN at h ⊢;rw[List.find?_append];cases e:x.find? λa=>decide (a.1=k)with
 |none=>rfl
 |some p=>rw[e]at h;cases h
theorem valN_some{a:List ((Tx×List Tx)×PV)}{k:Tx×List Tx}{m:Nat}(h:Kept m a){v:PV}(e:valN a k=aa v):v=.str (LE k.1 k.2):=by unfold valN at e;obtain⟨p,c,rfl⟩:=vq.mp e;have d:=List.mem_of_find?_eq_some c;have b:=List.find?_some c;simp only[decide_eq_true_eq]at b;rw[(h p d).2,b]
section
variable{a:Ad}
def leB(a:Ad)(rc:ak->R Slot):ak->R aP:=(o0 3 (d2 bt (ba (a7 (qB a) (gV (dV 0) (gV (dV 4) (Pu.bu))))) (ba (a7 (rc) (gV (dV 4) (gV (ba (a7 (qM a) (gV (dV 1) (gV (dV 4) (Pu.bu))))) (gO 2 (Pu.bu))))))))
theorem le_step{f:ak->R Slot}{t y:Tx}{l:List Tx}(p:y∈l)(w:l.length<=9)(n:1<=y.length)(s:y.length<=4){h g:List ((Tx×List Tx)×PV)}{r:Tx}(u:r.length<=100)(j:f [↥y,.val (.tup (ao (l.erase y))),.own (.dN h)]=.ok (↥r) [↥y,.val (.tup (ao (l.erase y))),.own (.dN g)]) (b:List Tx) (v:b.length<=100) (o:Slot):leB a f ([↥t,.val (.tup (ao l)),.own (.dN h),.own (.lst (ao b)),o].set 4 (↥y))=.ok .next [↥t,.val (.tup (ao l)),.own (.dN g),.own (.lst (ao (b++[adW t y++r]))),↥y]:=by
 have m:=added_eq (a:=a) t y n ∅;have d:=without_eq (a:=a) p ∅;have x:=adW_len t y;have c:bt (.str (adW t y)) (.str r)=aa (.str (adW t y++r)):=t8 (by simp[cU];lia);have i:(ao b).length<cU:=by rw[iS];unfold cU;lia
 have q:ao (b++[adW t y++r])=ao b++[.str (adW t y++r)]:=by simp[ao]
 rw[q];generalize adW t y++r=AR at c;generalize adW t y=A1 at m c;generalize ao (l.erase y)=L2 at d j;generalize ao l=L1 at d;generalize ao b=ES at i;simp![leB,m,d,j,c,i]
theorem le_loop{rc:ak->R Slot}{t:Tx}{l:List Tx}{n:Nat}(u:1<=n)(r:n<=4)(o:∀x∈l,x.length=n)(D:l.length<=9){m:Nat}(N:l.length=m+1){f:List ((Tx×List Tx)×PV)}(B:Kept 9 f)(P:f.length+TT (m+1)<=900000)(w:∀(y:Tx) (j:List ((Tx×List Tx)×PV)),y∈l->Kept 9 j->j.length+TT m<=900000->∃more,Kept m more/\more.length<=TT m/\rc [↥y,.val (.tup (ao (l.erase y))),.own (.dN j)]=.ok (↥(LE y (l.erase y))) [↥y,.val (.tup (ao (l.erase y))),.own (.dN (j++more))]):∀(d:List Tx) (c:List Tx) (more:List ((Tx×List Tx)×PV)) (g:Slot),(∀y∈d,y∈l)->c.length+d.length<=l.length->Kept m more->more.length<=c.length*TT m -> ∃b q,Kept m b/\b.length<=(c.length+d.length)*TT m/\eV 4 (leB a rc) (ao d) [↥t,.val (.tup (ao l)),.own (.dN (f++more)),.own (.lst (ao c)),g]=.ok .next [↥t,.val (.tup (ao l)),.own (.dN (f++b)),.own (.lst (ao (c++d.map λy=>adW t y++LE y (l.erase y)))),q]
 |[],c,more,g,_,_,p,C=>⟨more,g,p,by simpa using C,by simp[eV,ao]⟩
 |y::d,c,more,g,s,T,p,C=>by
  have h:=s y (by simp);simp only[gf]at T;have F:(c.length+1)*TT m<=(m+1)*TT m:=Nat.mul_le_mul_right _ ∅;have X:TT (m+1)=1+(m+1)*TT m:=rfl;rw[ye]at F;obtain⟨I,K,W,O⟩:=w y (f++more) h (B.app (p.mono ∅)) (by rw[eZ];lia);have Y:=LE_len (n:=n) (a:=y) (ls:=l.erase y) λx M=>o x (List.mem_of_mem_erase M);have i:(LE y (l.erase y)).length<=100:=by
   have Q:(l.erase y).length<=9:=by rw[yH h];lia
   have:=yr Q r;lia
  have E:=le_step (a:=a) (t:=t) h D (by rw[o y h];exact u) (by rw[o y h];exact r) i O c ∅ g;rw[kh]at E;obtain⟨H,G,J,v,A⟩:=le_loop u r o D N B P w d (c++[adW t y++LE y (l.erase y)]) (more++I) (↥y) (λz L=>s z (by simp[L])) (by simp;lia) (p.app K) (by rw[eZ,eZ,u0,ye];lia);refine⟨H,G,J,by simp only[eZ,u0]at v;rw[gf,show c.length+(d.length+1)=c.length+1+d.length by lia];exact v,?_⟩;have S:ao (y::d)=.str y::ao d:=rfl;rw[S,eV,E];simp only[kh,n8,kj,mn]at A ⊢;exact A
theorem le_eq:∀(k:Nat) (t:Tx) (l:List Tx) (b:List ((Tx×List Tx)×PV)) {n:Nat},1<=n->n<=4->(∀x∈l,x.length=n)->l.length<=9->l.length<k->Kept 9 b->b.length+TT l.length<=900000 -> ∃more,Kept l.length more/\more.length<=TT l.length/\jl a k [↥t,.val (.tup (ao l)),.own (.dN b)]=.ok (↥(LE t l)) [↥t,.val (.tup (ao l)),.own (.dN (b++more))]
 |0,t,l,b,n,_,_,_,_,h,_,_=>∅
 |k+1,t,l,b,n,n1,n4,hn,h9,hk,hK,hB=>by
  have s:br [.tup (ao l)]=aa (.int (l.length:Nat)):=by simp[br,iS]
  cases g:l.length with
  |zero=>
   have:=nV g;subst this;have e:Pu.eqT aj (.int 0) (.int 0)=aa (.bl ai):=rfl;refine⟨[],(λp c=>by cases c),by simp,?_⟩;have e2:LE t []=[]:=rfl;have K:br [.tup (ao ([]:List Tx))]=aa (.int 0):=rfl;rw[e2,iA];generalize ao ([]:List Tx)=T0 at K;simp![jl,yaI,K,e]
  |succ m=>
   have cK:l≠[]:=by rintro rfl;simp at g
   have F:Pu.eqT aj (.int (l.length:Nat)) (.int 0)=aa (.bl aj):=by rw[qS,decide_eq_false ∅];rfl
   have i:kD (.tup [.str t,.tup (ao l)])=aa (t,l):=by show(fz (ao l)).map _=_;rw[qt];rfl
   have O:dO [.str t,.tup (ao l)]=aa (.tup [.str t,.tup (ao l)]):=rfl;cases o:valN b (t,l)with
   |some v=>
    have D:=valN_some hK o;subst D;refine⟨[],(λp c=>by cases c),by simp,?_⟩;rw[iA];generalize LE t l=LL at o;generalize ((l.length:Nat):Int)=NI at s F;generalize J:((t,l):Tx×List Tx)=KK at i o;generalize ao l=PL at s i O;simp![jl,yaI,s,F,nD,rA,gM,i,o]
   |none=>
    rw[g]at hB;have r:=sortSetTP_eq (k:=l) ∅;obtain⟨more,A,B,Q,j⟩:=le_loop (a:=a) (rc:=jl a k) (t:=t) n1 n4 hn h9 g hK hB (λy B C fL S=>by
     have M:(l.erase y).length=m:=by rw[yH C,g];rfl
     have:=le_eq k y (l.erase y) B n1 n4 (λx X=>hn x (List.mem_of_mem_erase X)) ∅ ∅ fL (by rw[M];exact S);rw[M]at this;exact this) (bx (cC l)) [] [] .none (λy C=>(oW l y).mp ((iL _).mem_iff.mp C)) (by
      rw[nQ,r9,(iL _).length_eq];exact Bq l) (λp c=>by cases c) (by simp)
    rw[iA,kj,show ao []=[] from rfl]at j;have hT:TT (m+1)=1+(m+1)*TT m:=rfl;have Z:more.length<=(m+1)*TT m:=by refine cA Q (Nat.mul_le_mul_right _ ?_);rw[nQ,r9,(iL _).length_eq,<-g];exact Bq l
    have f:valN (b++more) (t,l)=ae:=by rw[valN_app o];refine valN_none λp c z=>?_;have:=(B p c).1;rw[z,g]at this;lia
    have H:lW ((bx (cC l)).map λy=>adW t y++LE y (l.erase y))=aa (LE t l):=by obtain⟨w,Y,e,T⟩:=LE_step (a:=t) cK;refine Bo (gW.mpr ⟨w,(iL _).mem_iff.mpr ((oW l w).mpr Y),e.symm⟩) λy C=>?_;obtain⟨z,W,rfl⟩:=gW.mp C;exact T z ((oW l z).mp ((iL _).mem_iff.mp W))
    have q:fz (ao ((bx (cC l)).map λy=>adW t y++LE y (l.erase y)))=aa ((bx (cC l)).map λy=>adW t y++LE y (l.erase y)):=qt _;refine⟨more++[((t,l),.str (LE t l))],?_,by rw[eZ,u0];lia,?_⟩
    .intro p c;rcases ie.mp c with c|c
     .exact⟨cA (B p c).1 ∅,(B p c).2⟩
     .rw[fJ.mp c];exact⟨by rw[g];exact a8 _,rfl⟩
    .have L:lY (.lst (ao (bx (cC l))))=aa (ao (bx (cC l))):=rfl;have N:(b++more).length<cU:=by rw[eZ];unfold cU;lia
     have d:valN (b++(more++[((t,l),PV.str (LE t l))])) (t,l)=aa (.str (LE t l)):=by rw[<-kh,valN_app f];simp[valN]
     have u:(b++more)++[((t,l),PV.str (LE t l))]=b++(more++[((t,l),PV.str (LE t l))]):=kh ..;generalize b++(more++[((t,l),PV.str (LE t l))])=KF at d u;generalize b++more=K2 at j f N u;generalize LE t l=LL at H d u;generalize ((bx (cC l)).map λy=>adW t y++LE y (l.erase y))=EN at j H q;generalize ao EN=PE at j q;generalize ((l.length:Nat):Int)=NI at s F;generalize J:((t,l):Tx×List Tx)=KK at i o f d u;generalize ao (bx (cC l))=SL at j r L;generalize ao l=PL at s i O r j;have P:(λG=>fj (fR 4 (gA (dF (dL ny (ay (dV 1) (aK))))) (leB a (jl a k)) G)) [↥t,.val (.tup PL),.own (.dN b),.own (.lst []),.none]=.ok .next [↥t,.val (.tup PL),.own (.dN K2),.own (.lst PE),A]:=by simp![fj,fR,gA,r,L,j]
     have E:q8 2 (dL dO (ay (dV 0) (ay (dV 1) (aK)))) (oN 3) [↥t,.val (.tup PL),.own (.dN K2),.own (.lst PE),A]=.ok .next [↥t,.val (.tup PL),.own (.dN KF),.own (.lst PE),A]:=by simp![q8,oN,gM,q,H,i,N,f,u]
     have I:(cH (dB (nD ai 2 (dL dO (ay (dV 0) (ay (dV 1) (aK)))))) (bh (kT 3 (dL fQ (aK))) (bh (λG=>fj (fR 4 (gA (dF (dL ny (ay (dV 1) (aK))))) (leB a (jl a k)) G)) (q8 2 (dL dO (ay (dV 0) (ay (dV 1) (aK)))) (oN 3)))) (c8)) [↥t,.val (.tup PL),.own (.dN b),.none,.none]=.ok .next [↥t,.val (.tup PL),.own (.dN KF),.own (.lst PE),A]:=by
      have h1:(dB (nD ai 2 (dL dO (ay (dV 0) (ay (dV 1) (aK)))))) [↥t,.val (.tup PL),.own (.dN b),.none,.none]=.ok ai [↥t,.val (.tup PL),.own (.dN b),.none,.none]:=by simp![nD,gM,i,o]
      have h2:(kT 3 (dL fQ (aK))) [↥t,.val (.tup PL),.own (.dN b),.none,.none]=.ok .next [↥t,.val (.tup PL),.own (.dN b),.own (.lst []),.none]:=by simp![]
      unfold cH;rw[h1];simp only[R.bind_ok];exact(eR h2).trans ((eR P).trans E)
     have hd:yaI a (jl a k) [↥t,.val (.tup PL),.own (.dN b),.none,.none]=.ok (.ret (↥LL)) [↥t,.val (.tup PL),.own (.dN KF),.own (.lst PE),A]:=by unfold yaI;refine(eR (ε1:=[↥t,.val (.tup PL),.own (.dN b),.none,.none]) (by simp![s,F])).trans ?_;refine(eR I).trans ?_;simp![rA,gM,i,d]
     simp[jl,bw,dW,bC,bW,hd,back,fW,aW,R.bind,lJ]
theorem short_eq{w:Nat}{ls:List Tx}(g:Good cV w ls)(h:1<=w)(f:w<=4)(l:ls.Pairwise (λa b=>dQ a b=ai)):qV a [.val (bQ w ls)]=.ok (↥(short ls)) [.val (bQ w ls)]:=by
 have i:jo a [.val (bQ w ls)]=.ok (.val .non) [.val (bQ w ls)]:=BF (a:=a) (g.vw h f l);have j:=g.few;have n:TT ls.length<=623530:=cA (TT_mono j) (by decide);obtain⟨more,_,_,c⟩:=le_eq (a:=a) 10 [] ls [] h f g.len j ∅ (λp m=>by cases m) (by simp;lia);have d:bP (bQ w ls) (.int 1)=aa (.tup (ao ls)):=rfl;rw[kj]at c;have e:LE [] ls=short ls:=rfl;rw[e]at c;generalize short ls=SH at c;generalize ao ls=PL at c d;generalize bQ w ls=V at i d;simp![qV,yaK,i,tq,t9,gN,wZ,Ai,d,c]
end
def hasB(n:Nat)(t:Tx)(ls:List Tx):Bool:=ls.all λx=>decide (ls.count x<=(bD t n).count x)
theorem hasB_iff{n:Nat}{t:Tx}{ls:List Tx}:hasB n t ls=ai↔Has n t ls:=by
 unfold hasB;rw[lj];constructor
 .intro h x;by_cases a:x∈ls
  .simpa using h x a
  .rw[List.count_eq_zero.mpr a];lia
 .intro h x _;simpa using h x
section
variable{a:Ad}
theorem upTo_eq(z:Tx)(m:Nat):jv a [↥z,⇑m]=.ok (.val (.bl (decide (1<=z.length/\z.length<=m)&&z.all cV.contains))) [↥z,⇑m]:=by
 have c:gb [.str z,.raw (.ty "str")]=aa (.bl ai):=lV rfl AM;have f:=Az (a:=a) z cV;simp only[cV]at f ⊢;have d:br [.str z]=aa (.int (z.length:Nat)):=rfl;by_cases g:(1:Int)<=(z.length:Nat)
 .by_cases b:((z.length:Nat):Int)<=(m:Nat)
  .rw[decide_eq_true (show 1<=z.length/\z.length<=m by lia),yo];generalize (z.all λx=>List.contains [97,98,99] x)=B at f;generalize ((m:Nat):Int)=MI at b;simp![jv,yar,c,d,g,b,f]
  .rw[decide_eq_false (show ¬(1<=z.length/\z.length<=m) by lia),xX];generalize ((m:Nat):Int)=MI at b;simp![jv,yar,c,d,g,b]
 .rw[decide_eq_false (show ¬(1<=z.length/\z.length<=m) by lia),xX];generalize ((m:Nat):Int)=MI;simp![jv,yar,c,d,g]
theorem upTo_no{x:PV}{t:String}(h:pA x=aa t)(e:fD [] (.type t) (.type "str")=aa aj)(m:Int):jv a [.val x,⇑m]=.ok (.val (.bl aj)) [.val x,⇑m]:=by have b:=lV (T:="str") h e;simp![jv,yar,b]
theorem around_yes{z:Tx}(f:1<=z.length)(d:z.length<=60)(b:∀c∈z,c∈cV):l7 a [↥z]=.ok (.val .non) [↥z]:=by
 have h:=upTo_eq (a:=a) z 60;have i:z.all cV.contains=ai:=by rw[lj];intro c h;simpa using b c h
 rw[i,decide_eq_true ⟨f,d⟩]at h;have g:jv a [↥z,⇑60]=.ok (.val (.bl ai)) [↥z,⇑60]:=h;simp![l7,yao,g]
theorem around_no{x:PV}(h:jv a [.val x,⇑60]=.ok (.val (.bl aj)) [.val x,⇑60]):l7 a [.val x]=.er (.ref a.NoText) [.val x]:=by simp![l7,yao,h,qw,cG]
theorem pieces_any{t:Tx}{w:Nat}(c:1<=w)(l:w<=4)(i:t.length<=60):nA a [↥t,⇑w]=.ok (.own (.lst (ao (bD t w)))) [↥t,⇑w]:=by
 by_cases h:w<=t.length+1
 .exact G_ c h i
 .have j:br [.str t]=aa (.int (t.length:Nat)):=rfl;have d:je (.int (t.length:Nat)) (.int w)=aa (.int ((t.length:Int)-w)):=rfl;have b:bt (.int ((t.length:Int)-w)) (.int 1)=aa (.int ((t.length:Int)-w+1)):=rfl;have f:jb [.int ((t.length:Int)-w+1)]=aa []:=by show(if(t.length:Int)-w+1<=1000000/\-1000000<=(t.length:Int)-w+1 then aa (dA 0 ((t.length:Int)-w+1).toNat)else ae)=_;rw[if_pos ⟨∅,∅⟩,show((t.length:Int)-w+1).toNat=0 by lia];rfl
  have g:bD t w=[]:=by rw[qX t w c,show t.length+1-w=0 by lia];rfl
  rw[g,show ao []=[] from rfl];generalize (t.length:Int)-w+1=N1 at b f;generalize (t.length:Int)-w=N0 at b d;simp![nA,yaJ,qe,hV,j,d,b,f,kP]
theorem within_eq{w:Nat}{ls:List Tx}(g:Good cV w ls)(p:1<=w)(o:w<=4)(A:ls.Pairwise (λa b=>dQ a b=ai)){t:Tx}(E:1<=t.length)(h:t.length<=60)(D:∀c∈t,c∈cV):iQ a [↥t,.val (bQ w ls)]=.ok (.val (.bl (hasB w t ls))) [↥t,.val (bQ w ls)]:=by
 have r:jo a [.val (bQ w ls)]=.ok (.val .non) [.val (bQ w ls)]:=BF (a:=a) (g.vw p o A);have y:=around_yes (a:=a) E h D;have n:=pieces_any (a:=a) (t:=t) p o h;have m:bP (bQ w ls) (.int 0)=aa (.int w):=rfl;have f:bP (bQ w ls) (.int 1)=aa (.tup (ao ls)):=rfl;have q:lY (.tup (ao ls))=aa (ao ls):=rfl;have d:=oJ (cap:=[2,1]) (dt:=iT) (de:=(d2 (dj λi j=>decide (j<=i)) (uK gB (dV 1) (dV 0)) (iP gB (d2 bP (dV 2) (dC (.int 1))) (dV 0)))) (ε:=[↥t,.val (bQ w ls),.val (.lst (ao (bD t w)))]) (λ_=>ai)
  (λx=>match x with|.str z=>.bl (decide (ls.count z<=(bD t w).count z))|_=>.non) (ao ls)
  (by intro x v;obtain⟨z,_,rfl⟩:=gW.mp v;have u:=uA (bD t w) z;have s:=uA ls z;generalize ao (bD t w)=A1 at u;generalize ao ls=B1 at s f;generalize bQ w ls=V at f;refine⟨by simp![f8,fg,cG,iT],λ_=>?_⟩;simp![f8,fg,cG,iP,uK,u,s,f]) []
 have C:((ao ls).filter (λ_=>ai)).map (λx=>match x with|.str z=>PV.bl (decide (ls.count z<=(bD t w).count z))|_=>.non)=(ls.map λz=>decide (ls.count z<=(bD t w).count z)).map .bl:=by rw[yG.mpr (by simp)];unfold ao;rw[iE,iE];rfl
 rw[kj,C]at d;have F:(ls.map λz=>decide (ls.count z<=(bD t w).count z)).all id=hasB w t ls:=by rw[u_];rfl
 have l:=wd (ls.map λz=>decide (ls.count z<=(bD t w).count z));rw[F]at l;generalize hasB w t ls=B at l;generalize (ls.map λz=>decide (ls.count z<=(bD t w).count z)).map PV.bl=BL at d l;generalize ao (bD t w)=A1 at n d;generalize ao ls=B1 at f q d;generalize bQ w ls=V at m f r d;generalize ((w:Nat):Int)=WI at m n;simp![iQ,yaL,y,r,m,n,hV,gA,f,q,d,l]
theorem within_noT{x y:PV}(h:l7 a [.val x]=.er (.ref a.NoText) [.val x]):iQ a [.val x,.val y]=.er (.ref a.NoText) [.val x,.val y]:=by simp![iQ,yaL,h]
theorem within_noV{t:Tx}{y:PV}(g:1<=t.length)(b:t.length<=60)(f:∀c∈t,c∈cV)(h:jo a [.val y]=.er (.ref a.NoView) [.val y]):iQ a [↥t,.val y]=.er (.ref a.NoView) [↥t,.val y]:=by have d:=around_yes (a:=a) g b f;simp![iQ,yaL,d,h]
end
end Sh
namespace K14
open L2 Pu Mx Sh
section
variable{a:Ad}
def ref(n:Int):PV:=.tup [.str [114,101,102,117,115,101,100],.int n]
theorem AO(b:Bool)(n:Int)(c:n=0\/n=2):Pu.eqT b (ref n) (.tup [.str [114,101,102,117,115,101,100],.int n])=aa (.bl (!b)):=by rcases c with rfl|rfl <;> cases b <;> rfl
structure Wh(a:Ad):Prop where
 t:pf a [.val (.exc (.ref a.NoText))]=.ok (.val (ref 0)) [.val (.exc (.ref a.NoText))]
 v:pf a [.val (.exc (.ref a.NoView))]=.ok (.val (ref 2)) [.val (.exc (.ref a.NoView))]
theorem Ml(c:pf a [.val (.exc (.ref a.NoText))]=.ok (.val (ref 0)) [.val (.exc (.ref a.NoText))])(b:pf a [.val (.exc (.ref a.NoView))]=.ok (.val (ref 2)) [.val (.exc (.ref a.NoView))]):Wh a:=⟨c,b⟩
theorem zH(b:Wh a){x y:PV}(h:iQ a [.val x,.val y]=.er (.ref a.NoText) [.val x,.val y]):jt a [.val x,.val y]=.ok (.val (ref 0)) [.val x,.val y]:=by
 have c:=b.t;have d:lL a (.ref a.NoText)=ai:=by simp[lL,fu]
 simp![jt,yay,nk,o_,cG,h,d,c]
theorem GU(b:Wh a){x y:PV}(h:iQ a [.val x,.val y]=.er (.ref a.NoView) [.val x,.val y]):jt a [.val x,.val y]=.ok (.val (ref 2)) [.val x,.val y]:=by
 have c:=b.v;have d:lL a (.ref a.NoView)=ai:=by simp[lL,fu]
 simp![jt,yay,nk,o_,cG,h,d,c]
theorem FM{x y:PV}{b:Bool}(h:iQ a [.val x,.val y]=.ok (.val (.bl b)) [.val x,.val y]):jt a [.val x,.val y]=.ok (.val (.bl b)) [.val x,.val y]:=by simp![jt,yay,nk,o_,cG,h]
def s_:List PV:=[.non,.str [],.str [97,98,100],.str (bW 61 97),.int 5,.tup [.str [97]],.str [65]]
theorem Cm:∀x∈s_,l7 a [.val x]=.er (.ref a.NoText) [.val x]:=by
 intro x c;refine around_no ?_;have b:∀z:Tx,(decide (1<=z.length/\z.length<=60)&&z.all cV.contains)=aj->jv a [↥z,⇑60]=.ok (.val (.bl aj)) [↥z,⇑60]:=λz h=>by have:=upTo_eq (a:=a) z 60;rw[h]at this;exact this
 simp only[s_,bT,iD,or_false]at c;rcases c with rfl|rfl|rfl|rfl|rfl|rfl|rfl
 .exact upTo_no (t:="NoneType") rfl (by decide +kernel) 60
 .exact b _ (by decide)
 .exact b _ (by decide)
 .exact b _ (by decide)
 .exact upTo_no (t:="int") rfl (by decide +kernel) 60
 .exact upTo_no (t:="tuple") rfl (by decide +kernel) 60
 .exact b _ (by decide)
def iN:ak->R aP:=(cH (dB (d2 (dj λi j=>decide (i<j)) (iP gB (dV 2) (dV 3)) (iP gB (d2 bP (dV 1) (dC (.int 1))) (dV 3)))) (bV (dC (.bl aj))) (c8))
theorem Au{w:Nat}{ls:List Tx}(t:Tx)(M:List Tx):∀(c:List Tx) (l:Slot),∃d,eV 3 iN (ao c) [↥t,.val (bQ w ls),.val (.tup (ao M)),l]=.ok (if c.all (λx=>decide (ls.count x<=M.count x))=ai then .next else .ret (.val (.bl aj))) [↥t,.val (bQ w ls),.val (.tup (ao M)),d]
 |[],l=>⟨l,rfl⟩
 |x::c,l=>by
  have g:bP (bQ w ls) (.int 1)=aa (.tup (ao ls)):=rfl;have j:=uA M x;have i:=uA ls x;have n:ao (x::c)=.str x::ao c:=rfl;by_cases h:ls.count x<=M.count x
  .have f:¬((M.count x:Nat):Int)<((ls.count x:Nat):Int):=∅
   have m:iN [↥t,.val (bQ w ls),.val (.tup (ao M)),↥x]=.ok .next [↥t,.val (bQ w ls),.val (.tup (ao M)),↥x]:=by generalize ((M.count x:Nat):Int)=C1 at j f;generalize ((ls.count x:Nat):Int)=C2 at i f;generalize ao M=A1 at j;generalize ao ls=B1 at i g;generalize bQ w ls=V at g;simp![iN,iP,j,i,g,f]
   obtain⟨d,o⟩:=Au t M c (↥x);refine⟨d,?_⟩;rw[n,eV];show(match iN [↥t,.val (bQ w ls),.val (.tup (ao M)),↥x]with
    |.ok .next b=>eV 3 iN (ao c) b
    |.ok .cont b=>eV 3 iN (ao c) b
    |.ok .brk b=>.ok .next b
    |r=>r)=_
   rw[m,ml,decide_eq_true h,yo];exact o
  .have f:((M.count x:Nat):Int)<((ls.count x:Nat):Int):=∅
   have m:iN [↥t,.val (bQ w ls),.val (.tup (ao M)),↥x]=.ok (.ret (.val (.bl aj))) [↥t,.val (bQ w ls),.val (.tup (ao M)),↥x]:=by generalize ((M.count x:Nat):Int)=C1 at j f;generalize ((ls.count x:Nat):Int)=C2 at i f;generalize ao M=A1 at j;generalize ao ls=B1 at i g;generalize bQ w ls=V at g;simp![iN,iP,j,i,g,f]
   refine⟨↥x,?_⟩;rw[n,eV];show(match iN [↥t,.val (bQ w ls),.val (.tup (ao M)),↥x]with
    |.ok .next b=>eV 3 iN (ao c) b
    |.ok .cont b=>eV 3 iN (ao c) b
    |.ok .brk b=>.ok .next b
    |r=>r)=_
   rw[m,ml,decide_eq_false h,xX];rfl
theorem Bm{w:Nat}{ls:List Tx}{t:Tx}(h:t.length<=60):qL a [↥t,.val (bQ w ls)]=.ok (.val (.bl (hasB w t ls))) [↥t,.val (bQ w ls)]:=by
 have b:=By (a:=a) t w h;obtain⟨i,c⟩:=Au (w:=w) (ls:=ls) t (bx (bD t w)) ls .none;have n:ls.all (λx=>decide (ls.count x<=(bx (bD t w)).count x))=hasB w t ls:=by unfold hasB;refine congrArg _ ?_;funext x;rw[(iL _).count_eq]
 rw[n]at c;have g:bP (bQ w ls) (.int 0)=aa (.int w):=rfl;have f:bP (bQ w ls) (.int 1)=aa (.tup (ao ls)):=rfl;have j:lY (.tup (ao ls))=aa (ao ls):=rfl;have m:yaB a [↥t,.val (bQ w ls),.none,.none]=.ok (.ret (.val (.bl (hasB w t ls)))) [↥t,.val (bQ w ls),.val (.tup (ao (bx (bD t w)))),i]:=by
  generalize hasB w t ls=B at c;generalize ao (bx (bD t w))=M1 at c b;generalize ao ls=B1 at f j c;generalize bQ w ls=V at g f c;generalize ((w:Nat):Int)=WI at g b;show bh _ (bh (λd=>fj (fR 3 _ iN d)) (bV (dC (.bl ai)))) _=_;refine(eR (ε1:=[↥t,.val V,.val (.tup M1),.none]) (by simp![g,b])).trans ?_;have l:(λd=>fj (fR 3 (gA (d2 bP (dV 1) (dC (.int 1)))) iN d)) [↥t,.val V,.val (.tup M1),.none]=.ok (if B=ai then .next else .ret (.val (.bl aj))) [↥t,.val V,.val (.tup M1),i]:=by simp![fj,fR,gA,f,j,c]
  cases B with
  |true=>exact(eR l).trans rfl
  |false=>unfold bh;rw[l];rfl
 simp[qL,bw,dW,bC,bW,m,back,fW,aW,R.bind]
structure qj(t:Tx):Prop where
 h1:1<=t.length
 h60:t.length<=60
 abc:∀c∈t,c∈cV
def W1(a:Ad):ak->R aP:=cH (dB (d2 (dj λi j=>decide (i<j)) (dV 2) (dC (.int 2)))) (dm 6 (ba (a7 (kG a) (gV (dV 0) (gO 1 (gV (dC (.int 1)) (gV (dC (.int 30)) (Pu.bu)))))))) (c8)
theorem GK(d:List Int)(c:List PV)(v:c.length<=400)(m:Int){t:Tx}(q:qj t)(g:t.length<=40)(l j i:Slot):∃(b:List PV) (u:Tx),b.length<=480/\qj u/\u.length<=40 /\ W1 a [bI d,.own (.lst c),⇑m,l,j,i,↥t,.none]=.ok .next [bI d,.own (.lst b),⇑m,l,j,i,↥u,.none]:=by
 by_cases h:m<2
 .obtain⟨u,b,o,r,n,s,p⟩:=wM (a:=a) d c 1 30 (by decide) (by decide) ∅;refine⟨b,u,∅,⟨o,∅,n⟩,∅,?_⟩;have f:kG a [bI d,.own (.lst c),⇑1,⇑30]=.ok (↥u) [bI d,.own (.lst b),⇑1,⇑30]:=p;simp![W1,h,f]
 .exact⟨c,t,∅,q,g,by simp![W1,h]⟩
def W2(a:Ad):ak->R aP:=cH (qr (dB (d2 (dj λi j=>decide (j<i)) (dV 2) (dC (.int 3)))) (dB (d2 (dj λi j=>decide (j<i)) (dL br (ay (dV 6) (aK))) (dC (.int 1))))) (bh (dm 7 (ba (a7 (gc a) (gV (dV 0) (gO 1 (gV (dL br (ay (dV 6) (aK))) (Pu.bu))))))) (dm 6 (d2 bt (d2 bt (d9 dD (dV 6) (g_) (dq (dV 7))) (ba (a7 (nh a) (gV (dV 0) (gO 1 (gV (dF (dL fQ (ay (dC (.str [])) (ay (dC (.str [])) (ay (dC (.str [97])) (ay (dC (.str [98])) (ay (dC (.str [99])) (aK)))))))) (Pu.bu))))))) (d9 dD (dV 6) (dq (d2 bt (dV 7) (dC (.int 1)))) (g_))))) (c8)
def tW:List PV:=[.str [],.str [],.str [97],.str [98],.str [99]]
theorem Hh{x:PV}(h:x∈tW):∃q:Tx,x=.str q/\q.length<=1/\∀c∈q,c∈cV:=by
 simp only[tW,bT,iD,or_false]at h;rcases h with rfl|rfl|rfl|rfl|rfl
 .exact⟨[],rfl,by decide,by decide⟩
 .exact⟨[],rfl,by decide,by decide⟩
 .exact⟨[97],rfl,by decide,by decide⟩
 .exact⟨[98],rfl,by decide,by decide⟩
 .exact⟨[99],rfl,by decide,by decide⟩
theorem Fx(g:List Int)(b:List PV)(J:b.length<=480)(m:Int){t:Tx}(j:qj t)(F:t.length<=40)(A z y:Slot):∃(B:List PV) (u:Tx) (C:Slot),qj u /\ W2 a [bI g,.own (.lst b),⇑m,A,z,y,↥t,.none]=.ok .next [bI g,.own (.lst B),⇑m,A,z,y,↥u,C]:=by
 have l:br [.str t]=aa (.int (t.length:Nat)):=rfl;by_cases h:3<m
 .by_cases n:(1:Int)<(t.length:Nat)
  .obtain⟨v,H,G,i⟩:=kW (a:=a) g b (t.length:Nat) ∅ ∅;obtain⟨k,rfl⟩:∃k:Nat,v=k:=⟨v.toNat,∅⟩
   obtain⟨p,E,d⟩:=xm (a:=a) g (b++[.int 0]) tW (by simp;lia) (by decide);obtain⟨q,rfl,I,D⟩:=Hh E;have w:dD (.str t) ae (aa ((k:Nat):Int))=aa (.str (t.take k)):=by show aa (PV.str (dE t ae _))=_;rw[we]
   have s:dD (.str t) (aa ((k+1:Nat):Int)) ae=aa (.str (t.drop (k+1))):=by show aa (PV.str (dE t _ ae))=_;rw[wC]
   have r:bt (.int k) (.int 1)=aa (.int ((k+1:Nat):Int)):=rfl;have x:bt (.str (t.take k)) (.str q)=aa (.str (t.take k++q)):=t8 (by simp[cU];lia);have o:bt (.str (t.take k++q)) (.str (t.drop (k+1)))=aa (.str (t.take k++q++t.drop (k+1))):=t8 (by simp[cU];lia);refine⟨b++[.int 0]++[.int 0],t.take k++q++t.drop (k+1),⇑k,⟨by simp;lia,by simp;lia,λc f=>?_⟩,?_⟩
   .rcases ie.mp f with f|f
    .rcases ie.mp f with f|f
     .exact j.abc c (List.mem_of_mem_take f)
     .exact D c f
    .exact j.abc c (Do f)
   .unfold tW at d;generalize b++[PV.int 0]++[PV.int 0]=Y2 at d;generalize b++[PV.int 0]=Y1 at d i;generalize t.take k++q++t.drop (k+1)=T3 at o;generalize t.take k++q=T2 at x o;generalize t.take k=T1 at x w;generalize t.drop (k+1)=T0 at o s;generalize ((k+1:Nat):Int)=K1 at s r;generalize ((k:Nat):Int)=K0 at w r i;generalize ((t.length:Nat):Int)=TL at l n i;simp![W2,h,l,n,i,d9,dq,g_,w,d,x,r,s,o]
  .generalize ((t.length:Nat):Int)=TL at l n;exact⟨b,t,.none,j,by simp![W2,h,l,n]⟩
 .exact⟨b,t,.none,j,by simp![W2,h]⟩
theorem BV(c n:Nat)(d:n<=100):f_ (.str [c]) (.int n)=aa (.str (bW n c)):=by
 show(if 0<=(n:Int)/\(n:Int)<=100/\[c].length<=100 then aa (PV.str (bW (n:Int).toNat [c]).flatten)else ae)=_;rw[if_pos ⟨∅,∅,by simp⟩];congr 2;rw[lf]
 induction n with
 |zero=>rfl
 |succ n b=>rw[u5,u5,CV,b ∅];rfl
theorem Hw(N:Wh a)(b:List Int):qv a [bI b]=.ok (.val (.bl ai)) [bI b]:=by
 obtain⟨m,_,_,hd⟩:=kW (a:=a) b [] 6 (by decide) (by simp);obtain⟨x,hx,d⟩:=xm (a:=a) b ([]++[.int 0]) s_ (by simp) (by decide);obtain⟨p,p0,p5,X⟩:=kW (a:=a) b ([]++[.int 0]++[.int 0]) 3 (by decide) (by simp);obtain⟨sp,rfl⟩:∃n:Nat,p=n:=⟨p.toNat,∅⟩
 obtain⟨w,ls,B,o,q,_,g,I,h7,_,T,hv⟩:=Ia (a:=a) b ([]++[.int 0]++[.int 0]++[.int 0]) sp 7 ∅ (by decide) (by decide) (by simp);simp only[kj,n8,gf,nQ]at hd d X hv T;have E:=short_eq (a:=a) g o q I;have hsl:=short_len g.len;have s:qj (short ls)/\(short ls).length<=40:=by
  have hb:ls.length*w<=7*4:=yr h7 q;have hh:=short_has o g.len;refine⟨⟨?_,∅,short_abc g.abc⟩,∅⟩;have J:=g.some;obtain⟨y,r,e⟩:∃y r,ls=y::r:=List.exists_cons_of_ne_nil (by rintro rfl;simp at J);cases hz:short ls with
  |nil=>have:=hh y;rw[hz,e]at this;simp[bD]at this
  |cons=>simp
 obtain⟨zs,t1,S,W,Z,f⟩:=GK (a:=a) b B ∅ m s.1 s.2 (.val x) (⇑sp) (.val (bQ w ls));obtain⟨C,t,D,i,l⟩:=Fx (a:=a) b zs S m W Z (.val x) (⇑sp) (.val (bQ w ls));have L:=within_eq (a:=a) g o q I i.h1 i.h60 i.abc;have j:=Bm (a:=a) (w:=w) (ls:=ls) i.h60;have F:=within_eq (a:=a) g o q I s.1.h1 s.1.h60 s.1.abc;rw[hasB_iff.mpr (short_has o g.len)]at F;have a1:=zH N (within_noT (a:=a) (y:=.non) (Cm x hx));have a2:=zH N (within_noT (a:=a) (y:=bQ w ls) (Cm x hx));have lA:∀c∈bW 60 98,c∈cV:=λc hc=>by rw[(List.mem_replicate.mp hc).2];decide
 have H:=FM (within_eq (a:=a) g o q I (t:=bW 60 98) (by simp) (by simp) lA);have G:=Bm (a:=a) (w:=w) (ls:=ls) (t:=bW 60 98) (by simp);have Y:jo a [.val (.tup [.int w,.tup (ao (ls++[[]]))])]=.er (.ref a.NoView) [.val (.tup [.int w,.tup (ao (ls++[[]]))])]:=by
  refine D7 ?_;have h:=zX (a:=a) w (ls++[[]]);have e:vw w (ls++[[]])=aj:=by
   have:(ls++[[]]).all (gv w cV)=aj:=by
    rw[List.all_append];have:gv w cV []=aj:=by unfold gv;rw[decide_eq_false (by simp;lia)];rfl
    simp[this]
   unfold vw oF;rw[this];simp
  rw[e]at h;exact h
 have K:=GU N (within_noV (a:=a) i.h1 i.h60 i.abc Y);have O:bt (.tup (ao ls)) (.tup [.str []])=aa (.tup (ao (ls++[[]]))):=by have J:=g.some;have h9:=g.few;show(if ao ls≠[]/\([PV.str []]:List PV)≠[]/\(ao ls).length+1<=1000 then aa (PV.tup (ao ls++[.str []]))else ae)=_;rw[if_pos ⟨λz=>by have:=congrArg pJ z;rw[iS]at this;simp at this;rw[this]at J;simp at J,by simp,by rw[iS];lia⟩];congr 2;simp[ao]
 have e1:=BN ai (hasB w t ls) (hasB w t ls);rw[decide_eq_true rfl]at e1;have e2:=BN ai (hasB w (bW 60 98) ls) (hasB w (bW 60 98) ls);rw[decide_eq_true rfl]at e2;have q0:=AO ai 0 (.inl rfl);have q2:=AO aj 2 (.inr rfl);have v:f_ (.str [98]) (.int 60)=aa (.str (bW 60 98)):=BV 98 60 (by decide);have u:f_ (.str [97]) (.int 61)=aa (.str (bW 61 97)):=BV 97 61 (by decide);have Q:bP (bQ w ls) (.int 0)=aa (.int w):=rfl;have P:bP (bQ w ls) (.int 1)=aa (.tup (ao ls)):=rfl;have M:qc a [bI b,.own (.lst [.int 0,.int 0,.int 0]),⇑sp,⇑7]=.ok (.val (bQ w ls)) [bI b,.own (.lst B),⇑sp,⇑7]:=hv;have A:yax a [bI b,.none,.none,.none,.none,.none,.none,.none]=.ok (.ret (.val (.bl ai))) [bI b,.own (.lst C),⇑m,.val x,⇑sp,.val (bQ w ls),↥t,D]:=by unfold yax;generalize ((sp:Nat):Int)=SP at X M f l ⊢;generalize short ls=SH at E F f;refine(eR (ε1:=[bI b,.own (.lst []),.none,.none,.none,.none,.none,.none]) (by simp![])).trans ?_;refine(eR (ε1:=[bI b,.own (.lst [.int 0]),⇑m,.none,.none,.none,.none,.none]) (by simp![hd])).trans ?_;refine(eR (ε1:=[bI b,.own (.lst [.int 0,.int 0]),⇑m,.val x,.none,.none,.none,.none]) (by unfold s_ at d;generalize bW 61 97=R61 at d u;simp![u,d])).trans ?_;refine(eR (ε1:=[bI b,.own (.lst [.int 0,.int 0,.int 0]),⇑m,.val x,⇑SP,.none,.none,.none]) (by simp![X])).trans ?_;generalize hasB w t ls=B1 at L j e1;generalize hasB w (bW 60 98) ls=B2 at H G e2;generalize bW 60 98=R60 at H G v;generalize ao (ls++[[]])=LX at O K;generalize ao ls=PL at O P;generalize bQ w ls=V at M E f l L j F a2 H G Q P ⊢;generalize ((w:Nat):Int)=WI at Q K;refine(eR (ε1:=[bI b,.own (.lst B),⇑m,.val x,⇑SP,.val V,.none,.none]) (by simp![M])).trans ?_;refine(eR (ε1:=[bI b,.own (.lst B),⇑m,.val x,⇑SP,.val V,↥SH,.none]) (by simp![E])).trans ?_;refine(eR f).trans ?_;refine(eR l).trans ?_;refine(eR (ε1:=[bI b,.own (.lst C),⇑m,.val x,⇑SP,.val V,↥t,D]) (by simp![L,j,e1,E,F])).trans ?_;refine(eR (ε1:=[bI b,.own (.lst C),⇑m,.val x,⇑SP,.val V,↥t,D]) (by generalize ref 0=RF at a1 a2 q0;simp![a1,a2,q0])).trans ?_;refine(eR (ε1:=[bI b,.own (.lst C),⇑m,.val x,⇑SP,.val V,↥t,D]) (by simp![v,H,G,e2])).trans ?_;generalize ref 2=RF at K q2;simp![Q,P,O,K,q2]
 simp[qv,bw,dW,bC,bW,A,back,fW,aW,R.bind]
end
open L2 Pu Sh
def qZ(K:aw)(a:Ad):Bool:=mr K a.SlitError qP "ValueError.__new__" && (fu a).all (λx=>mr K x qP "ValueError.__new__" && subB K a.SlitError x&&ue K x&&(fu a).all (λd=>fD K (.ref x) (.ref d) == aa (x == d))&&fD K (.ref x) (.type "ValueError") == aa ai)&&vD K&&decide (fu a).Nodup
section
variable{K:aw}{h g:az}{i:Str->Option ah}{a:Ad}
theorem oM(h:qZ K a=ai):mr K a.SlitError qP "ValueError.__new__"=ai/\(∀x∈fu a,mr K x qP "ValueError.__new__"=ai/\subB K a.SlitError x=ai/\ue K x=ai/\(∀d∈fu a,fD K (.ref x) (.ref d)=aa (x == d))/\fD K (.ref x) (.type "ValueError")=aa ai)/\vD K=ai/\(fu a).Nodup:=by unfold qZ at h;simp only[eB,lj,beq_iff_eq,decide_eq_true_eq]at h;obtain⟨⟨⟨l,c⟩,j⟩,f⟩:=h;exact⟨l,λx b=>⟨(c x b).1.1.1.1,(c x b).1.1.1.2,(c x b).1.1.2,(c x b).1.2,(c x b).2⟩,j,f⟩
theorem Iy(h:qZ K a=ai):wb K (hU a):=by
 obtain⟨_,l,_,_⟩:=oM h;intro c D b e;unfold hU at e;split at e
 .rename_i x d;split at e
  .rename_i f;rw[eB]at f;cases e;have j:x∈fu a:=by simpa using f.1
   have m:d∈fu a:=by simpa using f.2
   exact⟨x,.ref d,rfl,zO (l x j).2.2.1,rfl,(l x j).2.2.2.1 d m⟩
  .cases e
 .rename_i x T;split at e
  .rename_i f;rw[eB]at f;cases e;have j:x∈fu a:=by simpa using f.1
   have n:T = "ValueError":=by simpa using f.2
   subst n;exact⟨x,.type "ValueError",rfl,zO (l x j).2.2.1,rfl,(l x j).2.2.2.2⟩
  .cases e
 .cases e
theorem Je(X:K.In g)(h:qZ K a=ai):∀c,lL a c=ai->Under g a.SlitError c:=by
 obtain⟨_,d,_,_⟩:=oM h;intro c e;unfold lL at e;split at e
 .rename_i x;have b:x∈fu a:=by simpa using e
  exact Fy X (d x b).1 (d x b).2.1
 .cases e
structure Top(K:aw)(a:Ad):Prop where
 yaz:cL K "_law_cell_at" vN
 yaC:cL K "_law_mixed" vG
 yaA:cL K "_law_draw" wz
 yaD:cL K "_law_pick" xJ
 yaE:cL K "_law_seen" tt
 yaF:cL K "_law_text" wp
 yaG:cL K "_law_view" vZ
 yau:cL K "is_whole_number" v7
 yav:cL K "is_width" xR
 yaq:cL K "has_only" tQ
 yaw:cL K "is_window" xr
 yan:cL K "are_windows" tT
 yat:cL K "is_view_with" xg
 yas:cL K "is_view" wK
 yap:cL K "check_view" xS
 yam:cL K "added_letters" wj
 yaM:cL K "without" xH
 yaI:cL K "least_ending" wf
 yaK:cL K "shortest" w_
 yar:cL K "is_text_up_to" xy
 yao:cL K "check_text_around" vH
 yaJ:cL K "pieces" t7
 yaL:cL K "within" tx
 yaB:cL K "_law_has" wm
 yaH:cL K "_law_which" wl
 yay:cL K "_law_ask" v6
 yax:cL K "law" tj
 yaO:cm K bA "ValueError"=aa ae
 yaP:cm K bA "all"=aa ae
 yaQ:cm K bA "bool"=aa ae
 yaR:cm K bA "int"=aa ae
 yaS:cm K bA "isinstance"=aa ae
 yaT:cm K bA "len"=aa ae
 yaU:cm K bA "list"=aa ae
 yaV:cm K bA "min"=aa ae
 yaW:cm K bA "range"=aa ae
 yaX:cm K bA "set"=aa ae
 yaY:cm K bA "sorted"=aa ae
 yaZ:cm K bA "str"=aa ae
 ya0:cm K bA "tuple"=aa ae
 ya3:∃t,cm K bA "LETTERS"=aa (aa (.str (tS [97,98,99]) t))
 ya4:∃t,cm K bA "MOST_LETTERS_AROUND"=aa (aa (.int 60 t))
 ya5:∃t,cm K bA "MOST_WINDOWS"=aa (aa (.int 9 t))
 ya6:∃t,cm K bA "WIDEST"=aa (aa (.int 4 t))
 yak:cm K bA "SlitError"=aa (aa (.ref a.SlitError))
 yaf:cm K bA "NoText"=aa (aa (.ref a.NoText))
 yah:cm K bA "NoWidth"=aa (aa (.ref a.NoWidth))
 yag:cm K bA "NoView"=aa (aa (.ref a.NoView))
 yai:cm K bA "NoWindow"=aa (aa (.ref a.NoWindow))
 yac:cm K bA "Never"=aa (aa (.ref a.Never))
 yab:cm K bA "Full"=aa (aa (.ref a.Full))
 yaj:cm K bA "Nothing"=aa (aa (.ref a.Nothing))
 yal:cm K bA "Unlike"=aa (aa (.ref a.Unlike))
 yae:cm K bA "NoPlace"=aa (aa (.ref a.NoPlace))
 yad:cm K bA "NoLetters"=aa (aa (.ref a.NoLetters))
 yaa:cm K bA "BadText"=aa (aa (.ref a.BadText))
 ck:qZ K a=ai
 z_least_ending:jy K "least_ending"=aa (250,246)/\u7 K 250 246=ai/\K.lookup 246=ae
 wh:Wh a
theorem FG(T:Top K a)(X:K.In g)(G:g.Ns bA i):cR K i g a where
 yaz:=T.yaz.at X G
 yaC:=T.yaC.at X G
 yaA:=T.yaA.at X G
 yaD:=T.yaD.at X G
 yaE:=T.yaE.at X G
 yaF:=T.yaF.at X G
 yaG:=T.yaG.at X G
 yau:=T.yau.at X G
 yav:=T.yav.at X G
 yaq:=T.yaq.at X G
 yaw:=T.yaw.at X G
 yan:=T.yan.at X G
 yat:=T.yat.at X G
 yas:=T.yas.at X G
 yap:=T.yap.at X G
 yam:=T.yam.at X G
 yaM:=T.yaM.at X G
 yaI:=T.yaI.at X G
 yaK:=T.yaK.at X G
 yar:=T.yar.at X G
 yao:=T.yao.at X G
 yaJ:=T.yaJ.at X G
 yaL:=T.yaL.at X G
 yaB:=T.yaB.at X G
 yaH:=T.yaH.at X G
 yay:=T.yay.at X G
 yax:=T.yax.at X G
 yaO:=jj X G T.yaO
 yaP:=jj X G T.yaP
 yaQ:=jj X G T.yaQ
 yaR:=jj X G T.yaR
 yaS:=jj X G T.yaS
 yaT:=jj X G T.yaT
 yaU:=jj X G T.yaU
 yaV:=jj X G T.yaV
 yaW:=jj X G T.yaW
 yaX:=jj X G T.yaX
 yaY:=jj X G T.yaY
 yaZ:=jj X G T.yaZ
 ya0:=jj X G T.ya0
 ya3:=T.ya3.imp λ_ e=>eM X G e
 ya4:=T.ya4.imp λ_ e=>eM X G e
 ya5:=T.ya5.imp λ_ e=>eM X G e
 ya6:=T.ya6.imp λ_ e=>eM X G e
 yak:=eM X G T.yak
 yaf:=eM X G T.yaf
 yah:=eM X G T.yah
 yag:=eM X G T.yag
 yai:=eM X G T.yai
 yac:=eM X G T.yac
 yab:=eM X G T.yab
 yaj:=eM X G T.yaj
 yal:=eM X G T.yal
 yae:=eM X G T.yae
 yad:=eM X G T.yad
 yaa:=eM X G T.yaa
 ya2:=zw X (eM X G T.yag) ((oM T.ck).2.1 a.NoView (by simp[fu])).1
 ya1:=zw X (eM X G T.yaf) ((oM T.ck).2.1 a.NoText (by simp[fu])).1
 err_SlitError:=J_ X (oM T.ck).1
 und:=Je X T.ck
 tab:=Iy T.ck
 yaN:=⟨_,_,Jd X G T.z_least_ending.1 T.z_least_ending.2.1⟩
theorem GT{l:yg}{w:aD}{d:af}(X:K.In h)(G:h.Ns bA i)(b:i "law"=aa (.ref d))(T:Top K a):∃c:fE,(∀(s:am) (v:ah),BindsTo s c ⟨[v],[]⟩ [("_law_script",v)])/\∀g:az,K.In g->g.Ns bA i->jn l.prog w K i g (ce l.prog w) 14 d c ["_law_script"] (bH K (qv a)):=by
 obtain⟨f,oc,u,kV,x,t,A,z,y,r,o,n,m,j⟩:=T.yax;have e:=b.symm.trans (eM X G o);cases e;exact⟨_,λs v=>.of_eq rfl,λg p q=>HE (FG T p q) (BA n m j)⟩
theorem Gh{l:yg}{q:aN}{j:List Str}{XP:(Str->Option ah)->az->Prop}{p:aD->az->Prop}{d:DefRec}{K:Params->aw}(y:l.most=aa 63)(u:d.params.defaults=[])(m:d.name = "law")(o:∀(w:aD) (h:az),p w h->(K w.params).In h/\h.get? 246=aa (PySem.W.tabObj #[])) {a:Ad} (T:∀w:aD,Top (K w.params) a):PySem.W.WalkO q j XP p l.row.toRowW d [] (λf r=>PySem.call f r) :=
 L2.Mq (n:=63) (k:=14) (x:="_law_script") (K:=K) (CX:=λw=>ce l.prog w) (sp:=λw=>bH (K w.params) (qv a)) y (by decide) u ⟨rfl,by decide,by decide⟩ (λw h Y=>⟨(o w h Y).1,λc P e=>by rw[(T w).z_least_ending.1]at e;cases e;exact⟨(T w).z_least_ending.2.1,(T w).z_least_ending.2.2,(o w h Y).2⟩⟩)
  (λw i E h B G t=>GT B G (by rw[<-m];exact t) (T w))
  (λw H b v D _ A=>Kr (JP (oM (T w).ck).2.2.1 A) (Hw (T w).wh v))
  (λw H s e C z=>by obtain⟨_,_,_,_,_,_,_,_,_,_,_,f⟩:=z;exact f)
theorem Mm{l:yg}{q:aN}{b:List Str}{XP:(Str->Option ah)->az->Prop}{j:aD->az->Prop}{d:DefRec}{K:Params->aw}{yak yaf yah yag yai yac yab yaj yal yae yad yaa:af}(o:l.most=aa 63)(n:d.params.defaults=[])(c:d.name = "law")(p:∀(w:aD) (h:az),j w h->(K w.params).In h/\h.get? 246=aa (PySem.W.tabObj #[])) (T:∀w:aD,Top (K w.params) ⟨yak,yaf,yah,yag,yai,yac,yab,yaj,yal,yae,yad,yaa,0,0⟩):PySem.W.WalkO q b XP j l.row.toRowW d [] (λf m=>PySem.call f m):=Gh o n c p T
end
end K14
def PySem.W.Fast.tw17401826228783553618:Nat:=0
def PySem.W.Fast.tw15976368237083952891:Nat:=0
def PySem.W.Fast.tw11855060994871593063:Nat:=0
def PySem.W.Fast.tw9040140494540127031:Nat:=0
def PySem.W.Fast.tw10327525733663541334:Nat:=0
def PySem.W.Fast.tw4513629569099971846:Nat:=0
def PySem.W.Fast.tw12649125565711933209:Nat:=0
def PySem.W.Fast.tw5126487546132105302:Nat:=0
def PySem.W.Fast.tw12831800979890241675:Nat:=0
def PySem.W.Fast.tw12040730323469874759:Nat:=0
def PySem.W.Fast.tw5420240892321090593:Nat:=0
def PySem.W.Fast.tw1073484450059688288:Nat:=0
def PySem.W.Fast.tw13937112272637448529:Nat:=0
def PySem.W.Fast.tw2943634439274092484:Nat:=0
def PySem.W.Fast.tw16617899676842999005:Nat:=0
def PySem.W.Fast.tw5429961135995433773:Nat:=0
def PySem.W.Fast.tw12618759021453566973:Nat:=0
def PySem.W.Fast.tw6930729834398189062:Nat:=0
def PySem.W.Fast.tw6816315889102314406:Nat:=0
def PySem.W.Fast.tw10497150620475350383:Nat:=0
def PySem.W.Fast.tw15036177086548612728:Nat:=0
def PySem.W.Fast.tw14542958624960602620:Nat:=0
def PySem.W.Fast.tw6399007039295089480:Nat:=0
def PySem.W.Fast.tw12709668741028208872:Nat:=0
def PySem.W.Fast.tw9327832945653416995:Nat:=0
def PySem.W.Fast.tw8804664853793777811:Nat:=0
def PySem.W.Fast.tw13919596305986172408:Nat:=0
def PySem.W.Fast.tw16059962888376537340:Nat:=0
def PySem.W.Fast.tw4831929576622849223:Nat:=0
def PySem.W.Fast.tw9493655915452788129:Nat:=0
def PySem.W.Fast.tw15616155127017588885:Nat:=0
def PySem.W.Fast.tw18200986158238005295:Nat:=0
def PySem.W.Fast.tw1596815918507148888:Nat:=0
def PySem.W.Fast.tw17225962577487773363:Nat:=0
def PySem.W.Fast.tw16586916178675788014:Nat:=0
def PySem.W.Fast.tw1274051363116056466:Nat:=0
def PySem.W.Fast.tw6707138318769267069:Nat:=0
def PySem.W.Fast.tw9724529310457637732:Nat:=0
def PySem.W.Fast.tw16879186812902877844:Nat:=0
def PySem.W.Fast.tw5800179277634998450:Nat:=0
def PySem.W.Fast.tw4225125061750010089:Nat:=0
def PySem.W.Fast.tw4366522773835265161:Nat:=0
def PySem.W.Fast.tw1041218992286101287:Nat:=0
def PySem.W.Fast.tw13053449342863134990:Nat:=0
def PySem.W.Fast.tw3167976872025748964:Nat:=0
def PySem.W.Fast.tw16149317250949388831:Nat:=0
def PySem.W.Fast.tw16261063331769033682:Nat:=0
def PySem.W.Fast.tw12068160132787985470:Nat:=0
def PySem.W.Fast.tw5752407290138066156:Nat:=0
def PySem.W.Fast.tw15787903415175668878:Nat:=0
def PySem.W.Fast.tw9675179005199761497:Nat:=0
def PySem.W.Fast.tw1370081519602441713:Nat:=0
def PySem.W.Fast.tw6259151844236938207:Nat:=0
def PySem.W.Fast.tw4436763233431700984:Nat:=0
def PySem.W.Fast.tw10005487360158146174:Nat:=0
def PySem.W.Fast.tw1528247826642017911:Nat:=0
def PySem.W.Fast.tw3332353548227308823:Nat:=0
def PySem.W.Fast.tw10190666295551417912:Nat:=0
def PySem.W.Fast.tw5498424603754504056:Nat:=0
def PySem.W.Fast.tw9313605651807387209:Nat:=0
open PySem PySem.W PyProof.Rows
set_option maxRecDepth 100000 in
set_option maxHeartbeats 0 in
theorem PySem.Challenge.cw_slitview_k14_whole_within_holds : PySem.Challenge.rw_slitview_k14_whole_within.Holds := by
 w_on; o_law; k_head; (case hw=>w_witness2)
 k_fill
 refine' K14.Mm (l:=PySem.Challenge.rw_slitview_k14_whole_within) rfl rfl rfl (fun w h Y=>⟨PySem.W.km_in_of Y,PySem.W.km_tabs_of Y _ (by simp)⟩) ?T
 case T =>
  intro w
  refine' { yaz:=?yaz,yaC:=?yaC,yaA:=?yaA,yaD:=?yaD,yaE:=?yaE,yaF:=?yaF,yaG:=?yaG,yau:=?yau,yav:=?yav,yaq:=?yaq,yaw:=?yaw,yan:=?yan,yat:=?yat,yas:=?yas,yap:=?yap,yam:=?yam,yaM:=?yaM,yaI:=?yaI,yaK:=?yaK,yar:=?yar,yao:=?yao,yaJ:=?yaJ,yaL:=?yaL,yaB:=?yaB,yaH:=?yaH,yay:=?yay,yax:=?yax,yaO:=?yaO,yaP:=?yaP,yaQ:=?yaQ,yaR:=?yaR,yaS:=?yaS,yaT:=?yaT,yaU:=?yaU,yaV:=?yaV,yaW:=?yaW,yaX:=?yaX,yaY:=?yaY,yaZ:=?yaZ,ya0:=?ya0,ya3:=?ya3,ya4:=?ya4,ya5:=?ya5,ya6:=?ya6,yak:=?yak,yaf:=?yaf,yah:=?yah,yag:=?yag,yai:=?yai,yac:=?yac,yab:=?yab,yaj:=?yaj,yal:=?yal,yae:=?yae,yad:=?yad,yaa:=?yaa,ck:=?ck,z_least_ending:=?z_least_ending,wh:=?wh }
  (case yak=>k_is)
  (case yaf=>k_is)
  (case yah=>k_is)
  (case yag=>k_is)
  (case yai=>k_is)
  (case yac=>k_is)
  (case yab=>k_is)
  (case yaj=>k_is)
  (case yal=>k_is)
  (case yae=>k_is)
  (case yad=>k_is)
  (case yaa=>k_is)
  (case yaz=>and_intros)
  (case yaC=>and_intros)
  (case yaA=>and_intros)
  (case yaD=>and_intros)
  (case yaE=>and_intros)
  (case yaF=>and_intros)
  (case yaG=>and_intros)
  (case yau=>and_intros)
  (case yav=>and_intros)
  (case yaq=>and_intros)
  (case yaw=>and_intros)
  (case yan=>and_intros)
  (case yat=>and_intros)
  (case yas=>and_intros)
  (case yap=>and_intros)
  (case yam=>and_intros)
  (case yaM=>and_intros)
  (case yaI=>and_intros)
  (case yaK=>and_intros)
  (case yar=>and_intros)
  (case yao=>and_intros)
  (case yaJ=>and_intros)
  (case yaL=>and_intros)
  (case yaB=>and_intros)
  (case yaH=>and_intros)
  (case yay=>and_intros)
  (case yax=>and_intros)
  (case yaO=>k_is)
  (case yaP=>k_is)
  (case yaQ=>k_is)
  (case yaR=>k_is)
  (case yaS=>k_is)
  (case yaT=>k_is)
  (case yaU=>k_is)
  (case yaV=>k_is)
  (case yaW=>k_is)
  (case yaX=>k_is)
  (case yaY=>k_is)
  (case yaZ=>k_is)
  (case ya0=>k_is)
  (case ya3=>refine' Pu.Mf ?e; (case e=>k_is))
  (case ya4=>refine' Pu.Mj ?e; (case e=>k_is))
  (case ya5=>refine' Pu.Mj ?e; (case e=>k_is))
  (case ya6=>refine' Pu.Mj ?e; (case e=>k_is))
  (case ck=>kernel_rfl)
  (case z_least_ending=>refine⟨?u1,?u2,?u3⟩; (case u1=>kernel_rfl); (case u2=>kernel_rfl); (case u3=>kernel_rfl))
  (case wh=>refine K14.Ml ?_ ?_ <;> kernel_rfl)
