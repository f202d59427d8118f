import PyProof.Rows.All
import Wide.All
import OpenK.AllK
import Wide.FinOn
import Lean
import PyProof.EqAt
import PyProof.EqKinds
import PyProof.TupleCall
import KE.KIntText
import KE.KDictList
import KE.KDictSum
import PyProof.Rows.Range3
import PyProof.DictWalks
import KE.KMinKey
import KE.KSortTup
import PyProof.EnumStmt
import PyProof.EnumMake
import PyProof.EnumFor
import PyProof.Draws
import PyProof.Rows.TupDisplay
import PySem.Challenge.RW_slitview_k07_whole_clears
noncomputable section
set_option compiler.extract_closed false
local macro_rules | `(tactic| eq_refl) => `(tactic| first | exact Or.inl rfl | exact Or.inr (Or.inl rfl) | exact Or.inr (Or.inr rfl))
local macro_rules | `(∅) => `(by first | lia | omega)
set_option Elab.async false
set_option bootstrap.genMatcherCode false
set_option genSizeOf false
set_option linter.all false
set_option maxRecDepth 100000
local macro_rules | `(tactic| ac_nf) => `(tactic| exact ⟨rfl,rfl,rfl,by decide +kernel,rfl,by decide +kernel,by decide +kernel⟩)
open Option renaming some->aa,none->ag,bind_some->fm,map_eq_some_iff->l_,map_some->uV,isSome_iff_exists->xS,getD_none->CD,bind_eq_some_iff->C1
open PySem renaming Addr->af,Value->ai,Shared->ao,model->ay,wpAny_bind->az,Expr->aA,Heap->aB,wpAny->aC,World->aK,starEach->aR,Program->aT,Around->aV,Stmt->bf,wpAny_pure->bg,eval->bi,sizeLine->bj,mainGlobals->bQ,backTo->cS,Paired->c7,Scope->dD,compareOp->dP,bootBuiltins->eD,cellsFrom->eE,wpAny_mono->fj,bindArgs->fk,NameKind->fM,FuncData->gi,binaryOp->ij,rawInt->iI,swapsWith->i8,Keyword->ja,sysModules->jo,holding->jQ,mem_of_lookup->jT,IsPart->jU,wpAny_holding->kx,foldedSetIterable->kA,isTrue->lh,assign->li,codeAny->l0,wpAny_newObj_type->l5,builtinsNs->ni,wpAny_truthy_bool->nq,wpAny_field->nu,getItem->pt,wpAny_call_entry->pB,sliceBounds->pC,attributeBase->pD,backToKw->pE,keywordEach->pF,callerA->pG,DictEntry->pH,wpAny_rule->pN,tupleKind->rm,codeAny_mono->rz,wpAny_setField->rJ,wpAny_passesOwn->uC,sizeLine_eq->uE,wpAny_Call_Name_kw->uG,setFlight->uQ,letOwnedTupleGo->xP,PassesOwn->xQ,behindInMarks->xR,wpAny_callSpecial?_slot->xU,excClassObj->yj,wpAny_typeNameOfWhole_keyiter->yx,wpAny_typeNameOf_keyiter->yy,wpAny_execs_cons->Cs,noFill_tuple_add->Cy,wpAny_loadPart_at->CK,wpAny_dictEntries->C3
open Bool renaming true->ah,false->aj,false_ne_true->eh,and_eq_true->fP,eq_iff_iff->i9,false_eq_true->kC,true_xor->nD,true_and->pI,or_eq_true->uO,not_true->uX,and_false->yb,not_eq_true'->CN
open PySem.W renaming Frag->ar,nsIn->cH,kitOne->dQ,mg_of->fQ,fnOf->ik,kia_one->jS,mg_none_of->kF,excIn->l9,tabIn->nj,findIn->nr,keepIn->nt,InstAt->rq,codeIn->rD,mroIn->uF,OpenLaw->x_,clsIn->yk,methodObj->Cr,specialIn->Ct,callWith_K->Cu,cellsFrom_some->Cv
open PyProof.Rows renaming wpS_bind->aF,wpS_pure->aM,pendingOf->bn,SortSt->bw,SortKind->fR,wpS_mono->fS,wpS_forRange->fU,seqObj->gp,envOfC->ix,pairsOf->js,StrsAre->jW,wpS_get->jY,AllBare->lg,wpS_modify->lp,wpS_lift->pL,slot_tuple_getitem->xW
open Nat renaming le_refl->bB,le_trans->cK,ne_of_lt->gh,lt_of_lt_of_le->gJ,lt_irrefl->ii,zero_le->l8,le_of_lt->nk,le_of_eq->nv,ne_of_gt->xO,add_comm->xY,mul_le_mul->ye,add_assoc->yn,add_right_comm->CM,lt_succ_of_lt->CZ
open PySem.Heap renaming lt_size->bM,get?_push_of_some->dE,get?_push_size->fL,get?_update_other->l6,get?_update_self->rE,SameBut->uB,get?_none_of_le->xN,size_update->CJ
open List renaming getElem?_eq_some_iff->bY,getElem?_set_ne->b9,size_toArray->cq,length_map->cr,getElem?_set_self->cR,range->cW,mem_cons->dm,replicate->dq,length_set->dX,getElem?_eq_getElem->dY,map_cons->eF,length_cons->eP,getElem?_map->fN,length_append->fO,map_map->gn,mem_map->gK,mem_append->iw,append_nil->i_,nil_append->jb,lookup_cons->jq,mem_singleton->jr,mem_append_right->jR,all_eq_true->jV,mem_cons_of_mem->kw,mem_of_getElem?->kB,nodup_cons->lj,all_cons->lm,foldl_cons->ln,mem_cons_self->lZ,length_take->l4,any_cons->l7,any_eq_true->ma,append_assoc->nA,mem_reverse->nB,length->pr,length_drop->pA,drop_eq_getElem_cons->pK,mem_append_left->rn,of_mem_zip->rA,all_map->rG,take_of_length_le->rH,sum_cons->rK,filter_cons->rL,filter_eq_self->rM,mem_filter->uA,getElem?_append_left->uH,take_append_drop->uJ,map_congr_left->uK,eq_nil_of_length_eq_zero->uL,getElem_mem->uN,getElem?_of_mem->uS,getElem_of_mem->uT,cons_append->uU,filter_map->uW,filterMap_cons->xM,find?_cons->xZ,lookup->ya,toList_toArray->yc,pairwise_map->yd,take_zero->yf,getElem?_eq_none->yg,drop_length->yh,count_cons->ym,singleton_append->yq,drop_eq_nil_iff->yr,ext_getElem?->yt,map_id'->yz,not_mem_nil->yA,mem_of_mem_take->yB,map_set->yC,mem_flatMap->yD,foldl_append->yE,filter_filter->yF,filter_congr->yG,getElem?_append_right->Cw,replicate_succ->CG,lookup_append->CH,range_succ_eq_map->CI,getElem?_cons_zero->CL,pairwise_append->CO,getElem_drop->CP,getElem_take->CQ,pairwise_iff_getElem->CS,reverse_append->CT,reverse_perm->CU,pairwise_reverse->CV,take_length->CW,getElem?_cons_succ->CY,map_snd_zip->C0,mem_or_eq_of_mem_set->C6,perm_middle->C7
open Option.some renaming inj->cp
open Ne renaming symm->cX
open False renaming elim->gj
open Array renaming toList_append->iy,length_toList->i7,getElem_extract->lq,getElem?_eq_some_iff->ny,getElem?_toList->pO,toList_push->yo,perm_iff_toList_perm->yu,getElem?_eq_getElem->C4
open PySem.Obj renaming mapFields->jX,mapSeq->ll,data_mapFields->nz,isFreed_of_fields->uR
open PyProof.Rows.KeyOrd renaming kle_of_klt->jZ,kle_refl->kD,kle_trans->pM
open PySem.Paired renaming length->ku,snoc->x0
open PySem.PassesOwn renaming never->kE
open Iff renaming rfl->pJ
open List.cons renaming injEq->pP
open PySem.SeqAt renaming EqAt->rF
open PySem.Builtin.Str renaming occurrences->uD
open Int renaming toNat_natCast->uI,emod_lt_of_pos->C5
open List.Perm renaming refl->uP
open PySem.Builtin.Slice renaming slicePlaces->xT,sliceAdjust->CC
open PySem.Str renaming ofString->xV
open PySem.Builtin.Tuple renaming tupleExact->xX
open PySem.F renaming plainAttrs_list->yi,slot_dict_keyiterator_next->yw,slot_tuple_add->Cz,entry_tuple_add->CA,args_tuple_add_2->CB,entry_dict_keyiterator_next->K2,args_dict_keyiterator_next_1->K3
open Function renaming comp_def->yv
open PySem.Builtin.List renaming listTooLong->CF
open PySem PySem.Spec PyProof.Rows
namespace L2
abbrev aQ:=Sum Int Str
def oU:aQ->ai->Bool
 |.inl k,v=>Value.isInt k v
 |.inr x,v=>Value.isStrOf x v
def KC(w:aK):aQ->Int
 |.inl k=>hashInt k
 |.inr x=>hashStr w x
theorem k9:∀{k:aQ}{v:ai},oU k v=ah->(∃i t,k=Sum.inl i/\v=Value.int i t)\/(∃x t,k=Sum.inr x/\v=Value.str x t)
 |.inl i,v,h=>by obtain⟨t,e⟩:=Value.isInt_shape (k:=i) (v:=v) h;exact .inl ⟨i,t,rfl,e⟩
 |.inr x,v,h=>by obtain⟨t,e⟩:=Value.isStrOf_shape (x:=x) (v:=v) h;exact .inr ⟨x,t,rfl,e⟩
theorem Eb(i:Int)(t:Tok):oU (.inl i) (.int i t)=ah:=by simp[oU,Value.isInt]
theorem Iz(x:Str)(t:Tok):oU (.inr x) (.str x t)=ah:=by simp[oU,Value.isStrOf]
theorem JX(a b:Int):decide ((Sum.inl a:aQ)=Sum.inl b)=(a == b):=by
 by_cases e:a=b
 .subst e;simp
 .have h:¬(Sum.inl a:aQ)=Sum.inl b:=λq=>e (Sum.inl.inj q);rw[decide_eq_false h];exact(beq_eq_false_iff_ne.mpr e).symm
theorem Ke(a b:Str):decide ((Sum.inr a:aQ)=Sum.inr b)=decide (a=b):=by
 by_cases e:a=b
 .subst e;simp
 .have h:¬(Sum.inr a:aQ)=Sum.inr b:=λq=>e (Sum.inr.inj q);rw[decide_eq_false h,decide_eq_false e]
theorem E4(a:Int)(b:Str):decide ((Sum.inl a:aQ)=Sum.inr b)=aj:=decide_eq_false (λq=>nomatch q)
theorem Fj(a:Str)(b:Int):decide ((Sum.inr a:aQ)=Sum.inl b)=aj:=decide_eq_false (λq=>nomatch q)
def iF(c:aT)(w:aK):PySem.KeyKind c w aQ where
 is:=oU
 hash:=KC w
 inj:=λv a b l f=>by
  rcases k9 l with⟨i,t,rfl,rfl⟩|⟨x,t,rfl,rfl⟩
  .rcases k9 f with⟨j,u,rfl,e⟩|⟨y,u,rfl,e⟩
   .injection e with e1 _;rw[e1]
   .exact nomatch e
  .rcases k9 f with⟨j,u,rfl,e⟩|⟨y,u,rfl,e⟩
   .exact nomatch e
   .injection e with e1 _;rw[e1]
 byValue:=λk v h=>by rcases k9 h with⟨i,t,rfl,rfl⟩|⟨x,t,rfl,rfl⟩ <;> rfl
 pyHash:=λd h=>by
  rcases k9 d with⟨i,t,rfl,rfl⟩|⟨x,t,rfl,rfl⟩
  .exact wpAny_pyHash_int h
  .exact wpAny_pyHash_str h
 eqBool:=λg d h=>by
  rcases k9 g with⟨i,t,rfl,rfl⟩|⟨x,t,rfl,rfl⟩
  .rcases k9 d with⟨j,u,rfl,rfl⟩|⟨y,u,rfl,rfl⟩
   .rw[JX]at h;exact wpAny_eqBool_int h
   .rw[E4]at h;exact SeqAt.EqAt.int_str i t y u _ _ _ _ h
  .rcases k9 d with⟨j,u,rfl,rfl⟩|⟨y,u,rfl,rfl⟩
   .rw[Fj]at h;exact SeqAt.EqAt.str_int x t j u _ _ _ _ h
   .rw[Ke]at h;exact wpAny_eqBool_str h
 «strs»:=λk x t v h=>by
  rcases k9 h with⟨i,u,rfl,e⟩|⟨y,u,rfl,e⟩
  .exact nomatch e
  .injection e with e1 _;subst e1;cases v <;> rfl
theorem Dw(a:aT)(w:aK)(i:Int)(t:Tok):(iF a w).is (.inl i) (.int i t)=ah:=Eb i t
theorem Fk(a:aT)(w:aK)(x:Str)(t:Tok):(iF a w).is (.inr x) (.str x t)=ah:=Iz x t
inductive V where
 |non|bl (b:Bool)|int (i:Int)|str (x:Str)|byt (b:Array UInt8)|flt (b:UInt64)|ref (a:af)|ty (n:String)
 deriving DecidableEq
def RelV:V->ai->Prop
 |.non,u=>u=Value.none
 |.bl b,u=>u=Value.bool b
 |.int i,u=>∃t,u=Value.int i t
 |.str x,u=>∃t,u=Value.str x t
 |.byt b,u=>∃t,u=Value.bytes b t
 |.flt b,u=>∃t,u=Value.float b t
 |.ref a,u=>u=Value.ref a
 |.ty n,u=>u=Value.type n
abbrev bv:List V->List ai->Prop:=c7 RelV
theorem bv.length{xs:List V}{a:List ai}(r:bv xs a):xs.length=a.length:=ku r
theorem bv.get:∀{xs:List V}{a:List ai}{i:Nat}{x:V},bv xs a->xs[i]?=aa x->∃u,a[i]?=aa u/\RelV x u
 |_,_,_,_,.nil,e=>by simp at e
 |_,_,0,_,.cons r _,e=>by simp at e;subst e;exact⟨_,rfl,r⟩
 |_,_,i+1,x,.cons _ t,e=>by obtain⟨u,c,b⟩:=bv.get (i:=i) (x:=x) t (by simpa using e);exact⟨u,by simpa using c,b⟩
theorem bv.set{x:V}{u:ai}(r:RelV x u):∀{xs:List V}{a:List ai} (i:Nat),bv xs a->bv (xs.set i x) (a.set i u)
 |_,_,_,.nil=>.nil
 |_,_,0,.cons _ t=>.cons r t
 |_,_,i+1,.cons q t=>.cons q (bv.set r i t)
theorem bv.append:∀{xs a:List V}{c b:List ai},bv xs c->bv a b->bv (xs++a) (c++b)
 |_,_,_,_,.nil,s=>s
 |_,_,_,_,.cons r t,s=>.cons r (bv.append t s)
theorem bv.take:∀{xs:List V}{a:List ai} (n:Nat),bv xs a->bv (xs.take n) (a.take n)
 |_,_,0,_=>.nil
 |_,_,_+1,.nil=>.nil
 |_,_,n+1,.cons r t=>.cons r (bv.take n t)
theorem bv.drop:∀{xs:List V}{a:List ai} (n:Nat),bv xs a->bv (xs.drop n) (a.drop n)
 |_,_,0,r=>r
 |_,_,_+1,.nil=>.nil
 |_,_,n+1,.cons _ t=>bv.drop n t
def rh:Option V->Option ai->Prop
 |some v,aa u=>RelV v u
 |none,ag=>True
 |_,_=>False
def KV{a:Type}:List (a×V)->List (a×ai)->Prop:=c7 λ(p:a×V) (q:a×ai)=>p.1=q.1/\RelV p.2 q.2
def kV:aQ->V
 |.inl i=>.int i
 |.inr x=>.str x
inductive HO where
 |lst (xs:List V)
 |tup (xs:List V)
 |dK (kvs:List (aQ×V))|dT (kvs:List (List aQ×V))
 |set (S:Int->Bool) (n:Nat)
 |ins (C dx:af) (fs:List (Str×V))
 |own (x:af)
 |xd (fs:List (Str×V))
 |met (f x:af)
 |rng (lo hi:Int)
 |frz (o:Obj) (u:HO)
 |tbl (q:Str)
 |ext (φ:aB->Prop)
abbrev Hp:=af->Option HO
def upd(H:Hp)(a:af)(o:HO):Hp:=λb=>if b=a then aa o else H b
theorem upd_same{H:Hp}{a:af}{o:HO}:upd H a o a=aa o:=by unfold upd;rw[if_pos rfl]
theorem bd{H:Hp}{a b:af}{o:HO}(h:b≠a):upd H a o b=H b:=by unfold upd;rw[if_neg h]
theorem sL{H:Hp}{a b:af}{o u:HO}(h:H a=aa o)(h':H b=aa u)(d:o≠u):a≠b:=by intro e;subst e;rw[h]at h';exact d (cp h')
theorem kU{H:Hp}{a b:af}{o:HO}(h:H a=aa o)(c:H b=ag):a≠b:=by
 intro e;subst e;rw[h]at c;cases c
def Co(h:aB)(a:af)(b:Array ai):Prop:=IsTup h a b/\∃o,h.get? a=aa o/\o.dict=ag
theorem Co.new(h:aB)(its:Array ai):Co (h.push {cls:=.type "tuple",data:=.seq its}) h.objs.size its:=⟨IsTup.new _ _,_,fL _ rfl,rfl⟩
section
variable(P:aT)(w:aK)
def bZ(H:Hp)(h:aB)(a:af):HO->Prop
 |.lst xs=>xs.length<=bj/\∃(d:List ai) (n:Nat),bv xs d/\h.get? a=aa {cls:=.type "list",data:=.seq d.toArray n}
 |.tup xs=>xs.length<=bj/\∃d:List ai,bv xs d/\Co h a d.toArray
 |.dK b=>b.length<=bj/\(a == jo)=aj/\∃r,KV b r/\h.DictOf (iF P w) a r
 |.dT b=>b.length<=bj/\(a == jo)=aj/\∃xs:List (List aQ×af×ai),
   c7 (λ(p:List aQ×V) (q:List aQ×af×ai)=>p.1=q.1/\H q.2.1=aa (.tup (p.1.map kV))/\RelV p.2 q.2.2) b xs /\
   ∃o es ep,h.get? a=aa o/\o.ExactDict/\o.data=.dict es ep/\es.toList=xs.map (entryOfKey (rm (iF P w)))/\(xs.map (·.1)).Nodup
 |.set S n=>h.SetOf (intKind P w) a S n
 |.ins C g fs=>H g=aa (.own a)/\fs.length<=1000/\g≠a/\h.get? a=aa (PySem.W.instObj C g) /\
   ∃e,h.Ns1 g e/\(∀f,rh (fs.lookup f) (e f))/\PySem.Within e (fs.map (·.1))
 |.own _=>∃o,h.get? a=aa o
 |.xd fs=>∃e,h.Ns1 a e/\∀f,rh (fs.lookup f) (e f)
 |.rng z A=>∃t u v,h.get? a=aa {cls:=.type "range",data:=.fields #[.int z t,.int A u,.int 1 v]}
 |.frz o u=>h.get? a=aa o/\bZ H h a u
 |.tbl q=>∃j:Array ai,h.get? a=aa {cls:=.none,data:=.fields j}/\TriplesOk j.toList/\∀l m,codeAmong l j.toList=aa m->∃c,m=.ref c/\H c=aa (.own a)/\h.CodeRec m q
 |.met f x=>h.get? a=aa (Cr (.ref f) (.ref x))
 |.ext i=>i h/\(∃o,h.get? a=aa o)/\∀y s:aB,i y->(∀o,y.get? a=aa o->s.get? a=aa o)->i s
def cG(H:Hp)(h:aB):Prop:=∀a o,H a=aa o->bZ P w H h a o
end
section
variable{P:aT}{w:aK}{H i:Hp}{h h':aB}{a:af}{o:HO}
theorem bZ.lt(x:bZ P w H h a o):a<h.objs.size:=by
 cases o with
 |lst xs=>obtain⟨_,_,_,_,e⟩:=x;exact bM e
 |tup xs=>obtain⟨_,_,_,p,_⟩:=x;exact p.lt
 |dK b=>obtain⟨_,_,_,_,o,_,_,e,_⟩:=x;exact bM e
 |dT b=>obtain⟨_,_,_,_,o,_,_,e,_⟩:=x;exact bM e
 |set S n=>obtain⟨o,_,_,_,e,_⟩:=x;exact bM e
 |ins C l fs=>obtain⟨_,_,_,e,_⟩:=x;exact bM e
 |own y=>obtain⟨_,e⟩:=x;exact bM e
 |xd fs=>obtain⟨_,⟨_,_,_,e,_⟩,_⟩:=x;exact bM e
 |rng g j=>obtain⟨_,_,_,e⟩:=x;exact bM e
 |frz d u=>obtain⟨e,_⟩:=x;exact bM e
 |tbl q=>obtain⟨_,e,_⟩:=x;exact bM e
 |met f y=>exact bM (show h.get? a=aa _ from x)
 |ext c=>obtain⟨_,⟨_,e⟩,_⟩:=x;exact bM e
theorem Paired.mapP{g e:Type}{F G:g->e->Prop}:∀{d:List g}{c:List e},c7 F d c->(∀a b,F a b->G a b)->c7 G d c
 |_,_,.nil,_=>.nil
 |_,_,.cons r t,f=>.cons (f _ _ r) (Paired.mapP t f)
theorem bZ.stay(x:bZ P w H h a o)(k:∀b u,(b=a\/H b=aa (.own a))->h.get? b=aa u->h'.get? b=aa u)(J:∀b,H b=aa (.own a)->i b=aa (.own a)) (W:∀b xs,H b=aa (.tup xs)->i b=aa (.tup xs)):bZ P w i h' a o:=by
 induction o with
 |lst xs=>obtain⟨z,s,n,r,e⟩:=x;exact⟨z,s,n,r,k _ _ (.inl rfl) e⟩
 |tup xs=>obtain⟨z,s,r,⟨j,e,c⟩,O,A,L⟩:=x;exact⟨z,s,r,⟨j,k _ _ (.inl rfl) e,c⟩,O,k _ _ (.inl rfl) A,L⟩
 |dK G=>obtain⟨z,y,B,r,j,l,m,e,c⟩:=x;exact⟨z,y,B,r,j,l,m,k _ _ (.inl rfl) e,c⟩
 |dT G=>obtain⟨z,y,xs,r,j,l,m,e,c⟩:=x;exact⟨z,y,xs,Paired.mapP r λp q z=>⟨z.1,W _ _ z.2.1,z.2.2⟩,j,l,m,k _ _ (.inl rfl) e,c⟩
 |set S n=>obtain⟨j,l,m,t,e,c⟩:=x;exact⟨j,l,m,t,k _ _ (.inl rfl) e,c⟩
 |ins C dx fs=>obtain⟨d,z,Q,e,F,⟨E,l,m,A,c⟩,r⟩:=x;exact⟨J _ d,z,Q,k _ _ (.inl rfl) e,F,⟨E,l,m,k _ _ (.inr d) A,c⟩,r⟩
 |own y=>obtain⟨j,e⟩:=x;exact⟨j,k _ _ (.inl rfl) e⟩
 |xd fs=>obtain⟨F,⟨E,l,m,e,c⟩,r⟩:=x;exact⟨F,⟨E,l,m,k _ _ (.inl rfl) e,c⟩,r⟩
 |rng lo hi=>obtain⟨t,u,v,e⟩:=x;exact⟨t,u,v,k _ _ (.inl rfl) e⟩
 |frz j u T=>obtain⟨e,q⟩:=x;exact⟨k _ _ (.inl rfl) e,T q⟩
 |tbl q=>
  obtain⟨N,e,t,g⟩:=x;refine⟨N,k a _ (.inl rfl) e,t,λD Z X=>?_⟩;obtain⟨c,rfl,K,L,o,B,M,A,Y,r⟩:=g D Z X;cases A;exact⟨c,rfl,J c K,c,o,B,M,rfl,k c _ (.inr K) Y,r⟩
 |met f y=>have e:h.get? a=aa (Cr (.ref f) (.ref y)):=x;show h'.get? a=aa (Cr (.ref f) (.ref y));exact k a _ (.inl rfl) e
 |ext φ=>obtain⟨p,⟨o,e⟩,I⟩:=x;exact⟨I _ _ p λo q=>k _ _ (.inl rfl) q,⟨o,k _ _ (.inl rfl) e⟩,I⟩
theorem cG.lt(x:cG P w H h)(e:H a=aa o):a<h.objs.size:=(x a o e).lt
theorem cG.fresh(x:cG P w H h)(e:h.objs.size<=a):H a=ag:=by
 cases q:H a with
 |none=>rfl
 |some u=>exact absurd (gJ (x.lt q) e) (ii _)
theorem cG.kept(x:cG P w H h)(k:∀b u,h.get? b=aa u->h'.get? b=aa u):cG P w H h':=λa o e=>(x a o e).stay (λb u _ q=>k b u q) (λ_ q=>q) λ_ _ q=>q
theorem cG.laid(x:cG P w H h)(k:∀b u,h.get? b=aa u->h'.get? b=aa u)(f:h.objs.size<=a)(new:bZ P w (upd H a o) h' a o):cG P w (upd H a o) h':=λb u e=>by
 have hn:=x.fresh f;by_cases d:b=a
 .subst d;rw[upd_same]at e;cases e;exact new
 .rw[bd d]at e;exact(x b u e).stay (λc v _ q=>k c v q) (λc q=>by rw[bd (kU q hn)];exact q) λc xs q=>by rw[bd (kU q hn)];exact q
end
def Rd(H:Hp)(a:af)(u:HO):Prop:=H a=aa u\/∃o,H a=aa (.frz o u)
theorem Rd.ok{P:aT}{w:aK}{H:Hp}{h:aB}{a:af}{u:HO}(r:Rd H a u)(x:cG P w H h):bZ P w H h a u:=by
 rcases r with r|⟨o,r⟩
 .exact x a u r
 .obtain⟨_,q⟩:=x a _ r;exact q
def qw:Option HO->Prop
 |some (.lst _)=>True
 |some (.dK _)=>True
 |some (.dT _)=>True
 |some (.set _ _)=>True
 |some (.ins _ _ _)=>True
 |some (.ext _)=>True
 |_=>False
section
variable{P:aT}{w:aK}{H:Hp}{h a:aB}{x e:af}{d:HO}
theorem cG.write(ok:cG P w H h)(i:qw (H x))(o:e=x\/H e=aa (.own x))(k:∀b u,b≠e->h.get? b=aa u->a.get? b=aa u)(p:∃u,a.get? e=aa u)(new:bZ P w (upd H x d) a x d):cG P w (upd H x d) a:=λb u q=>by
 have f:∀c y,H c=aa (.own y)->c≠x:=λc y r z=>by subst z;rw[r]at i;exact i
 have g:∀c xs,H c=aa (.tup xs)->c≠x:=λc xs r z=>by subst z;rw[r]at i;exact i
 by_cases m:b=x
 .subst m;rw[upd_same]at q;cases q;exact new
 .rw[bd m]at q;by_cases j:b=e
  .have n:H b=aa (.own x):=by
    rcases o with z|z
    .exact absurd (j.trans z) m
    .rw[j];exact z
   rw[q]at n;cases n;obtain⟨v,s⟩:=p;exact⟨v,by rw[j];exact s⟩
  .refine(ok b u q).stay (λc v l r=>k c v ?_ r) (λc r=>by rw[bd (f c b r)];exact r) λc xs r=>by rw[bd (g c xs r)];exact r
   rcases l with rfl|l
   .exact j
   .rintro rfl;rcases o with z|z
    .exact f c b l z
    .rw[l]at z;cases z;exact m rfl
end
structure Un(fs ex:List af)(H H':Hp)(h h':aB):Prop where
 keep:∀b o,h.get? b=aa o->H b=ag->b∉fs->b∉ex->h'.get? b=aa o
 slot:∀b o,h.get? b=aa o->H b=ag->b∈fs->b∉ex->∃sl,h'.get? b=aa {o with slots:=sl}
 free:∀b o,h.get? b=aa o->H b=ag->b∉ex->H' b=ag
 there:∀b o,h.get? b=aa o->b∉ex->∃o',h'.get? b=aa o'
 tups:∀b xs,H b=aa (.tup xs)->H' b=aa (.tup xs)
 frzs:∀b o u,H b=aa (.frz o u)->H' b=aa (.frz o u)
 tbls:∀b q,H b=aa (.tbl q)->H' b=aa (.tbl q)
section
variable{fs f c g:List af}{H i l:Hp}{h d j h':aB}{a x e:af}{o:HO}
theorem Un.any(u:Un fs c H i h d){b:af}{m:Obj}(q:h.get? b=aa m)(n:H b=ag)(p:b∉c):∃s,d.get? b=aa {m with slots:=s}:=by
 by_cases r:b∈fs
 .exact u.slot b m q n r p
 .exact⟨m.slots,u.keep b m q n r p⟩
theorem Un.kept(k:∀b u,h.get? b=aa u->h'.get? b=aa u):Un fs c H H h h' :=⟨λb m q _ _ _=>k b m q,λb m q _ _ _=>⟨m.slots,k b m q⟩,λ_ _ _ n _=>n,λb m q _=>⟨m,k b m q⟩,λ_ _ q=>q,λ_ _ _ q=>q,λ_ _ q=>q⟩
theorem Un.refl:Un fs c H H h h:=Un.kept λ_ _ q=>q
theorem Un.laid(k:∀b u,h.get? b=aa u->h'.get? b=aa u)(m:h.objs.size<=a)(hn:H a=ag):Un fs c H (upd H a o) h h' where
 keep:=λb u q _ _ _=>k b u q
 slot:=λb u q _ _ _=>⟨u.slots,k b u q⟩
 free:=λb u q n _=>by rw[bd (gh (gJ (bM q) m))];exact n
 there:=λb u q _=>⟨u,k b u q⟩
 tups:=λb xs q=>by rw[bd (kU q hn)];exact q
 frzs:=λb u xs q=>by rw[bd (kU q hn)];exact q
 tbls:=λb p q=>by rw[bd (kU q hn)];exact q
theorem Un.write(m:qw (H x))(B:e=x\/H e=aa (.own x))(k:∀b u,b≠e->h.get? b=aa u->h'.get? b=aa u)(y:∃u,h'.get? e=aa u):Un fs c H (upd H x o) h h':=by
 have v:∀b,H b=ag->b≠x:=λb n z=>by subst z;rw[n]at m;exact m
 have w:∀b,H b=ag->b≠e:=λb n z=>by
  subst z;rcases B with r|r
  .exact v b n r
  .rw[n]at r;cases r
 have p:∀b u,H b=aa u->¬qw (aa u)->b≠x:=λb u q A z=>by subst z;rw[q]at m;exact A m
 refine⟨λb u q n _ _=>k b u (w b n) q,λb u q n _ _=>⟨u.slots,k b u (w b n) q⟩,λb u q n _=>by rw[bd (v b n)];exact n,λb u q _=>?_,
  λb xs q=>by rw[bd (p b _ q λz=>z)];exact q,λb u xs q=>by rw[bd (p b _ q λz=>z)];exact q,λb C q=>by rw[bd (p b _ q λz=>z)];exact q⟩
 by_cases s:b=e
 .subst s;exact y
 .exact⟨u,k b u s q⟩
end
def tY(h:aB)(H:Hp):List af:=(cW h.objs.size).filter λa=>(H a).isSome
def k4(h:aB)(H:Hp):aB:=PySem.W.hideAll h (tY h H)
theorem Dh(h:aB)(H:Hp):(k4 h H).objs.size=h.objs.size:=PySem.W.hideAll_size _ _
theorem GH{h:aB}{H:Hp}{b:af}{o:Obj}(e:h.get? b=aa o)(n:H b=ag):(k4 h H).get? b=aa o :=PySem.W.hideAll_get _ e λa=>by have q:(H b).isSome=ah:=(uA.mp a).2;rw[n]at q;simp at q
theorem KZ{h:aB}{H:Hp}{b:af}{o:Obj}(e:(k4 h H).get? b=aa o):h.get? b=aa o/\H b=ag:=by
 have a:h.get? b=aa o:=PySem.W.of_hideAll (tY h H) e;refine⟨a,?_⟩;cases q:H b with
 |none=>rfl
 |some x=>
  have c:b∈tY h H:=uA.mpr ⟨List.mem_range.mpr (bM a),by simp[q]⟩;have z:(k4 h H).get? b=ag:=PySem.W.hideAll_none (tY h H) c;rw[z]at e;cases e
def Ij(g h:aB)(L:af):List (af×Obj):=(cW h.objs.size).filterMap λa=>if a=L\/(g.get? a).isSome=ah then ag else(h.get? a).map λo=>(a,o)
def rest(g h:aB)(L d:af):List (af×Obj):=(Ij g h L).filter λp=>decide (p.1≠d)
structure Mod(K:ar)(mg:Str->Option ai)(base:aB):Prop where
 kin:K.In base
 glob:base.Ns bQ mg
 blt:∃mb,base.Ns ni mb/\∀x:Str,x≠"__name__"->mb x=eD x
 nolimit:base.NoLimit
 bm:∃bm ob,mg "__builtins__"=aa (.ref bm)/\bm≠ni/\base.get? bm=aa ob/\ob.cls=.type "module"/\ob.dict=aa ni/\ob.data=.plain
set_option genInjectivity false in
structure Cx where
 prog:aT
 w:aK
 K:ar
 mg:Str->Option ai
 base:aB
 A:aV
 N:List Str
 s₀:ao
 H₀:Hp
 env:Env
 outer:List Env
 stack:List Env
 ex:List af
 fn:Str->Bool
 calm:Bool
 pn:List (af×Obj)
 xe:ai->ao->Prop
def eL(l:List Env):List af:=l.filterMap (·.frame)
abbrev Cx.fs(X:Cx):List af:=eL X.outer
def d_(a:dD)(x:Str):Prop:=a.names.lookup x=aa .local\/a.names.lookup x=aa .cell\/a.names.lookup x=aa .free
def Loc(a:dD)(x:Str):Prop:=a.names.lookup x=aa .local\/a.names.lookup x=aa .cell
def Look(a:Env)(h:aB)(m:Str->Option ai)(x:Str)(u:ai):Prop :=(a.kindOf x=aa .local/\m x=aa u)\/((a.kindOf x=aa .cell\/a.kindOf x=aa .free)/\∃c,a.cells.lookup x=aa c/\h.IsCell c (aa u))
def xy:List Str:=["road"]
def sI(K:ar)(H:Hp):Prop:=∀x∈xy,∀c P,nj K x=aa (c,P)->H P=aa (.tbl (x++".<locals>.<lambda>"))
set_option genInjectivity false in
structure Cx.Ok(X:Cx):Prop where
 mod:Mod X.K X.mg X.base
 kind:X.env.scope.kind=.function
 glob:X.env.globals=bQ
 blt:X.env.builtins=ni
 above:X.s₀.heap.objs.size<=X.env.locals
 inj:∀x y c,X.env.cells.lookup x=aa c->X.env.cells.lookup y=aa c->x=y
 has:∀x,(X.env.kindOf x=aa .cell\/X.env.kindOf x=aa .free)->∃c,X.env.cells.lookup x=aa c
 cab:∀x c,X.fn x=ah->X.env.cells.lookup x=aa c->X.s₀.heap.objs.size<=c
 hd:X.calm=ah->X.A.handled=ag
 frames:X.A.frames=aa X.stack
 stk:X.stack=X.outer\/(X.stack=X.env::X.outer/\X.env.frame=aa X.env.locals)
 exf:∀b∈X.ex,b≠X.env.locals/\∀x c,X.env.cells.lookup x=aa c->c≠b
 bs:∀b o,X.base.get? b=aa o->X.s₀.heap.get? b=aa o/\X.H₀ b=ag
 bsz:X.base.objs.size<=X.s₀.heap.objs.size
 noex:∀b o,X.base.get? b=aa o->b∉X.ex
 exfs:∀b∈X.ex,b∉X.fs
 funs:X.s₀.heap.FunFrames X.base X.outer
 frf:∀b∈X.fs,X.H₀ b=ag
 tab:sI X.K X.H₀
structure Inv(X:Cx)(ae:List (af×Obj))(σ:List (Option V))(H:Hp)(s:ao):Prop where
 ok:X.Ok
 os:s.os=X.s₀.os
 bare:lg s.gens
 base:Un X.fs X.ex X.H₀ H X.s₀.heap s.heap
 loc:∃m,s.heap.Ns X.env.locals m/\∀(i:Nat) (x:Str) (v:V),X.N[i]?=aa x->σ[i]?=aa (aa v)->d_ X.env.scope x->∃u,RelV v u/\Look X.env s.heap m x u
 cell:∀x c,X.env.cells.lookup x=aa c->∃v,s.heap.IsCell c v
 free:H X.env.locals=ag
 freeC:∀x c,X.env.cells.lookup x=aa c->H c=ag
 pin:∀p∈X.pn++ae,s.heap.get? p.1=aa p.2/\H p.1=ag/\p.1≠X.env.locals/\p.1∉X.fs/\∀v,p.2.data≠.cell v
 hok:cG X.prog X.w H s.heap
 len:σ.length=X.N.length
section
variable{X:Cx}{f:List (af×Obj)}{g:List (Option V)}{H w:Hp}{s:ao}{h':aB}
theorem Cx.Ok.nofr(ok:X.Ok){b:af}{o:Obj}(e:X.base.get? b=aa o):b∉X.fs:=λa=>by
 have:=(ok.funs.mem a).1;rw[e]at this;cases this
theorem Inv.bs(I:Inv X f g H s):∀b o,X.base.get? b=aa o->s.heap.get? b=aa o/\H b=ag:=λb o e=>⟨I.base.keep b o (I.ok.bs b o e).1 (I.ok.bs b o e).2 (I.ok.nofr e) (I.ok.noex b o e),I.base.free b o (I.ok.bs b o e).1 (I.ok.bs b o e).2 (I.ok.noex b o e)⟩
theorem Inv.bk(I:Inv X f g H s):∀b o,X.base.get? b=aa o->s.heap.get? b=aa o:=λb o e=>(I.bs b o e).1
theorem Inv.mod(I:Inv X f g H s):Mod X.K X.mg X.base:=I.ok.mod
theorem Inv.kIn(I:Inv X f g H s):X.K.In s.heap:=I.ok.mod.kin.keeps I.bk
theorem Inv.lt(I:Inv X f g H s):X.env.locals<s.heap.objs.size:=let ⟨_,hn,_⟩:=I.loc;hn.lt
theorem Inv.sz(I:Inv X f g H s):X.s₀.heap.objs.size<=s.heap.objs.size:=cK I.ok.above (nk I.lt)
theorem Inv.nofs(I:Inv X f g H s){a:af}(h:s.heap.objs.size<=a):a∉X.fs:=λc=>by obtain⟨_,o,b,_⟩:=I.ok.funs.mem c;exact absurd (gJ (bM b) (cK I.sz h)) (ii _)
theorem Inv.cne(I:Inv X f g H s):∀x c,X.env.cells.lookup x=aa c->c≠X.env.locals:=λx c e z=>by
 obtain⟨v,o,a,b⟩:=I.cell x c e;obtain⟨m,⟨i,j,l,h,d,_⟩,_⟩:=I.loc;rw[z,h]at a;cases a;rw[d]at b;cases b
theorem Inv.tab(I:Inv X f g H s):sI X.K H:=λx a c P h=>I.base.tbls P _ (I.ok.tab x a c P h)
theorem Inv.funs(I:Inv X f g H s):s.heap.FunFrames X.base X.outer:=by
 have all:∀(l:List Env),(∀b∈eL l,b∈X.fs)->X.s₀.heap.FunFrames X.base l->s.heap.FunFrames X.base l:=by
  intro l
  induction l with
  |nil=>intro _ _;trivial
  |cons v r i=>intro h p;obtain⟨q,⟨L,o,a,n,m,u⟩,j⟩:=p;have d:L∈X.fs:=h L (by unfold eL;rw[xM,a];exact lZ);obtain⟨x,e⟩:=I.base.slot L o m (I.ok.frf L d) d λz=>I.ok.exfs L z d;exact⟨q,⟨L,_,a,n,e,u⟩,i (λb c=>h b (by unfold eL;rw[xM,a];exact kw _ c)) j⟩
 exact all X.outer (λ_ c=>c) I.ok.funs
theorem Inv.stack(I:Inv X f g H s):s.heap.FunFrames X.base X.stack:=by
 rcases I.ok.stk with e|⟨e,b⟩
 .rw[e];exact I.funs
 .rw[e];obtain⟨m,a,_⟩:=I.loc;refine .cons (by rw[I.ok.kind];decide) b a ?_ I.funs;exact xN (cK I.ok.bsz I.ok.above)
theorem Inv.stkSub(I:Inv X f g H s):∀b∈eL X.stack,b∈X.env.locals::X.fs:=λb a=>by
 rcases I.ok.stk with e|⟨e,c⟩
 .rw[e]at a;exact kw _ a
 .rw[e]at a;unfold eL at a;rw[xM,c]at a;exact a
theorem Inv.stkFree(I:Inv X f g H s):∀b∈eL X.stack,H b=ag:=λb a=>by
 rcases dm.mp (I.stkSub b a)with e|a
 .rw[e];exact I.free
 .obtain⟨_,o,c,_⟩:=I.ok.funs.mem a;exact I.base.free b o c (I.ok.frf b a) λz=>I.ok.exfs b z a
theorem Inv.step{g':Array GenState}{t':Nat}{d':Drawn}{ch:List af}(I:Inv X f g H s)(M:∀b∈ch,(b∈X.ex\/X.s₀.heap.objs.size<=b)/\b≠X.env.locals/\(∀x c,X.env.cells.lookup x=aa c->c≠b)/\∀p∈X.pn++f,p.1≠b)(keep:∀b o,b≠X.env.locals->b∉X.fs->b∉ch->s.heap.get? b=aa o->H b=ag->h'.get? b=aa o)(B:∀b o,b≠X.env.locals->b∈X.fs->b∉ch->s.heap.get? b=aa o->H b=ag->∃P,h'.get? b=aa {o with slots:=P}) (h:∀b o,b∉ch->s.heap.get? b=aa o->H b=ag->w b=ag)(C:∀b o,b∉ch->s.heap.get? b=aa o->∃K,h'.get? b=aa K)(G:∀b xs,H b=aa (.tup xs)->w b=aa (.tup xs)) (N:∀b o u,H b=aa (.frz o u)->w b=aa (.frz o u)) (J:∀b q,H b=aa (.tbl q)->w b=aa (.tbl q))(ns:∀m,s.heap.Ns X.env.locals m->h'.Ns X.env.locals m) (Q:cG X.prog X.w w h') (hg:lg g'):Inv X f g w {s with heap:=h',gens:=g',drawn:=d',toks:=t'}:=by
 have L:∀b o,X.s₀.heap.get? b=aa o->b≠X.env.locals:=λb o e=>gh (gJ (bM e) I.ok.above);have A:∀b o,X.s₀.heap.get? b=aa o->b∉X.ex->b∉ch:=λb o e a D=>by
  rcases(M b D).1 with z|z
  .exact a z
  .exact absurd (gJ (bM e) z) (ii _)
 have y:∀x c,X.env.cells.lookup x=aa c->∀v,s.heap.IsCell c v->h'.IsCell c v:=λx c e v ⟨o,F,S⟩=>by
  have j:c∉ch:=λz=>(M c z).2.2.1 x c e rfl;by_cases hc:c∈X.fs
  .obtain⟨P,q⟩:=B c o (I.cne x c e) hc j F (I.freeC x c e);exact⟨_,q,S⟩
  .exact⟨o,keep c o (I.cne x c e) hc j F (I.freeC x c e),S⟩
 refine⟨I.ok,I.os,hg,⟨λb o e n D a=>?_,λb o e n D a=>?_,λb o e n a=>?_,λb o e a=>?_,λb xs e=>G b xs (I.base.tups b xs e),λb o xs e=>N b o xs (I.base.frzs b o xs e),λb ps e=>?_⟩,?_,λx c e=>?_,?_,λx c e=>?_,λp Z=>?_,Q,I.len⟩
 .exact keep b o (L b o e) D (A b o e a) (I.base.keep b o e n D a) (I.base.free b o e n a)
 .obtain⟨P,E⟩:=I.base.slot b o e n D a;obtain⟨O,T⟩:=B b _ (L b o e) D (A b o e a) E (I.base.free b o e n a);exact⟨O,T⟩
 .obtain⟨K,E⟩:=I.base.there b o e a;exact h b K (A b o e a) E (I.base.free b o e n a)
 .obtain⟨K,E⟩:=I.base.there b o e a;exact C b K (A b o e a) E
 .exact J b _ (I.base.tbls b ps e)
 .obtain⟨m,hn,hl⟩:=I.loc;refine⟨m,ns m hn,λi x v E T e3=>?_⟩;obtain⟨u,r,l⟩:=hl i x v E T e3;refine⟨u,r,?_⟩;rcases l with l|⟨k,c,e,z⟩
  .exact .inl l
  .exact .inr ⟨k,c,e,y x c e _ z⟩
 .obtain⟨v,z⟩:=I.cell x c e;exact⟨v,y x c e v z⟩
 .obtain⟨m,⟨o,_,_,F,_⟩,_⟩:=I.loc;exact h _ o (λz=>(M _ z).2.1 rfl) F I.free
 .obtain⟨v,o,F,S⟩:=I.cell x c e;exact h c o (λz=>(M c z).2.2.1 x c e rfl) F (I.freeC x c e)
 .obtain⟨e,n,Y,W,d⟩:=I.pin p Z;have j:p.1∉ch:=λz=>(M p.1 z).2.2.2 p Z rfl;exact⟨keep p.1 p.2 Y W j e n,h p.1 p.2 j e n,Y,W,d⟩
theorem Inv.un{t':Nat}(I:Inv X f g H s)(u:Un X.fs [] H w s.heap h')(a:cG X.prog X.w w h'):Inv X f g w {s with heap:=h',toks:=t'}:=by
 obtain⟨m,⟨o,A,B,i,r⟩,_⟩:=id I.loc;obtain⟨v,q⟩:=u.any i I.free (by simp);exact I.step (g':=s.gens) (d':=s.drawn) (ch:=[]) (λ_ z=>nomatch z) (λb o _ c _ e n=>u.keep b o e n c (by simp)) (λb o _ c _ e n=>u.slot b o e n c (by simp)) (λb o _ e n=>u.free b o e n (by simp)) (λb o _ e=>u.there b o e (by simp)) u.tups u.frzs u.tbls (λy p=>by
  obtain⟨x,d,h,j,l⟩:=p;rw[i]at j;cases j;exact⟨_,d,h,q,l⟩) a I.bare
theorem Inv.call{g':Array GenState}{t':Nat}{d':Drawn}{ch:List af}(I:Inv X f g H s)(u:Un (eL X.stack) ch H w s.heap h')(d:cG X.prog X.w w h')(B:lg g')(l:∀b∈ch,(b∈X.ex\/X.s₀.heap.objs.size<=b)/\b≠X.env.locals/\(∀x c,X.env.cells.lookup x=aa c->c≠b)/\∀p∈X.pn++f,p.1≠b):Inv X f g w {s with heap:=h',gens:=g',drawn:=d',toks:=t'}:=by
 obtain⟨m,⟨o,G,J,q,r⟩,_⟩:=id I.loc;obtain⟨D,h⟩:=u.any q I.free λz=>(l _ z).2.1 rfl;exact I.step (ch:=ch) l (λb o h C a e n=>u.keep b o e n (λz=>(dm.mp (I.stkSub b z)).elim h C) a) (λb o _ _ a e n=>u.any e n a) (λb o a e n=>u.free b o e n a) (λb o a e=>u.there b o e a) u.tups u.frzs u.tbls (λF A=>by
  obtain⟨E,i,j,v,y⟩:=A;rw[q]at v;cases v;exact⟨_,i,j,h,y⟩) d B
theorem Inv.turned{t':Nat}{it:af}(I:Inv X f g H s)(k:∀b o,b≠it->s.heap.get? b=aa o->h'.get? b=aa o)(j:H it=ag)(h:it≠X.env.locals)(C:it∈X.ex\/X.s₀.heap.objs.size<=it) (B:∀x c,X.env.cells.lookup x=aa c->c≠it) (A:∀p∈X.pn++f,p.1≠it):Inv X f g H {s with heap:=h',toks:=t'}:=by
 have d:∀b u,H b=aa u->b≠it:=λb u e z=>by rw[z,j]at e;cases e
 refine I.step (g':=s.gens) (d':=s.drawn) (ch:=[it]) (λb y=>?_) (λb o _ _ a e _=>k b o (λz=>a (by simp[z])) e) (λb o _ _ a e _=>⟨o.slots,k b o (λz=>a (by simp[z])) e⟩) (λ_ _ _ _ n=>n)
  (λb o a e=>⟨o,k b o (λz=>a (by simp[z])) e⟩) (λ_ _ e=>e) (λ_ _ _ e=>e) (λ_ _ e=>e) (λm l=>?_) (λb u e=>?_) I.bare
 .have e:b=it:=by simpa using y
  subst e;exact⟨C,h,B,A⟩
 .obtain⟨o,D,E,i,r⟩:=l;exact⟨o,D,E,k _ o (cX h) i,r⟩
 .refine(I.hok b u e).stay (λc v a q=>k c v ?_ q) (λ_ q=>q) λ_ _ q=>q;rcases a with z|z
  .rw[z];exact d b u e
  .exact d c _ z
theorem Inv.tok(I:Inv X f g H s)(t:Nat):Inv X f g H {s with toks:=t}:=I.un (h':=s.heap) (t':=t) Un.refl I.hok
theorem Inv.kept{t':Nat}(I:Inv X f g H s)(k:∀b u,s.heap.get? b=aa u->h'.get? b=aa u):Inv X f g H {s with heap:=h',toks:=t'}:=I.un (Un.kept k) (I.hok.kept k)
theorem Inv.laid{a:af}{o:HO}{t':Nat}(I:Inv X f g H s)(k:∀b u,s.heap.get? b=aa u->h'.get? b=aa u)(c:s.heap.objs.size<=a)(new:bZ X.prog X.w (upd H a o) h' a o):Inv X f g (upd H a o) {s with heap:=h',toks:=t'}:=I.un (Un.laid k c (I.hok.fresh c)) (I.hok.laid k c new)
theorem Inv.write{x e:af}{o:HO}{h:Nat}(I:Inv X f g H s)(c:qw (H x))(d:e=x\/H e=aa (.own x))(k:∀b u,b≠e->s.heap.get? b=aa u->h'.get? b=aa u)(a:∃u,h'.get? e=aa u)(new:bZ X.prog X.w (upd H x o) h' x o):Inv X f g (upd H x o) {s with heap:=h',toks:=h}:=I.un (Un.write c d k a) (I.hok.write c d k a new)
theorem Inv.pins_of{a:List (af×Obj)}(I:Inv X f g H s)(h:∀p∈a,s.heap.get? p.1=aa p.2/\H p.1=ag/\p.1≠X.env.locals/\p.1∉X.fs/\∀v,p.2.data≠.cell v):Inv X a g H s :=⟨I.ok,I.os,I.bare,I.base,I.loc,I.cell,I.free,I.freeC,λp b=>(iw.mp b).elim (λz=>I.pin p (rn _ z)) (h p),I.hok,I.len⟩
theorem vx{N:List Str}(c:N.Nodup){i j:Nat}{x:Str}(a:N[i]?=aa x)(b:N[j]?=aa x):i=j:=by obtain⟨l,e⟩:=bY.mp a;obtain⟨h,d⟩:=bY.mp b;exact(List.getElem_inj c).mp (e.trans d.symm)
theorem Bo{M:Model}{A:aV}{E:ai->ao->Prop}{i:Nat}{x:Str}{v:V}{u:ai}{Q:Unit->ao->Prop}(I:Inv X f g H s)(hN:X.N.Nodup)(T:X.N[i]?=aa x)(F:Loc X.env.scope x)(r:RelV v u)(h:∀s',Inv X f (g.set i (aa v)) H s'->(∃a,uB a s.heap s'.heap/\(a=X.env.locals\/X.env.cells.lookup x=aa a))->Q () s') (hf:X.fn x=ah\/X.env.scope.names.lookup x=aa .local:=by first|exact .inl rfl|exact .inr rfl|assumption):aC M A (storeName X.env x u) Q E s:=by
 obtain⟨m,hn,hl⟩:=id I.loc;have lu:(X.env.scope.kind == .class||(X.env.scope.kind == .module&&X.env.locals != X.env.globals))=aj:=by rw[I.ok.kind];rfl
 have K:i<g.length:=by rw[I.len];exact(bY.mp T).1
 have cne:=I.cne;have B:∀{a:af}{h':aB},(∃o,s.heap.get? a=aa o/\H a=ag)->uB a s.heap h'->cG X.prog X.w H h':=λ{a h'} ha l b ob e=>by
  obtain⟨_,_,rN⟩:=ha;refine(I.hok b ob e).stay (λc Y D q=>(l.2 c ?_).trans q) (λ_ q=>q) λ_ _ q=>q;rintro rfl;rcases D with rfl|D
  .rw[rN]at e;cases e
  .rw[rN]at D;cases D
 rcases F with J|J
 .refine wpAny_storeName_local J hn (λh' hn' l=>?_) lu;obtain⟨oL,_,_,kH,_⟩:=id hn;refine h _ ⟨I.ok,I.os,I.bare,⟨λb o e n O F=>?_,λb o e n O F=>?_,I.base.free,λb o e F=>?_,I.base.tups,I.base.frzs,I.base.tbls⟩,⟨_,hn',λj y v' C G e3=>?_⟩,λy c e=>?_,I.free,I.freeC,λp hp=>?_,B ⟨oL,kH,I.free⟩ l,by simpa using I.len⟩ ⟨_,l,.inl rfl⟩
  .exact(l.2 b (gh (gJ (bM e) I.ok.above))).trans (I.base.keep b o e n O F)
  .obtain⟨sl,C⟩:=I.base.slot b o e n O F;exact⟨sl,(l.2 b (gh (gJ (bM e) I.ok.above))).trans C⟩
  .obtain⟨o',C⟩:=I.base.there b o e F;exact⟨o',(l.2 b (gh (gJ (bM e) I.ok.above))).trans C⟩
  .by_cases L:j=i
   .subst L;rw[T]at C;cases C;rw[cR K]at G;cases G;exact⟨u,r,.inl ⟨J,by simp⟩⟩
   .rw[b9 (cX L)]at G;obtain⟨u',r',q⟩:=hl j y v' C G e3;refine⟨u',r',?_⟩;rcases q with⟨k,e⟩|⟨k,c,e,z⟩
    .refine .inl ⟨k,?_⟩;have:y≠x:=λe=>L (vx hN C (e ▸ T));simp[this,e]
    .exact .inr ⟨k,c,e,z.sameBut l (cne y c e)⟩
  .obtain⟨Y,z⟩:=I.cell y c e;exact⟨Y,z.sameBut l (cne y c e)⟩
  .obtain⟨e,n,Z,nf,d⟩:=I.pin p hp;exact⟨(l.2 p.1 Z).trans e,n,Z,nf,d⟩
 .have N:X.fn x=ah:=by
   rcases hf with z|z
   .exact z
   .rw[z]at J;cases J
  obtain⟨c,D⟩:=I.ok.has x (.inl J);obtain⟨Y,z⟩:=I.cell x c D;refine wpAny_storeName_cell I.ok.kind J D z (λh' iJ l=>?_);obtain⟨oc,S,P⟩:=id z;refine h {s with heap:=h'} ⟨I.ok,I.os,I.bare,⟨λb o e n O F=>?_,λb o e n O F=>?_,I.base.free,λb o e F=>?_,I.base.tups,I.base.frzs,I.base.tbls⟩,⟨m,hn.sameBut l (cX (cne x c D)),λj y v' C G e3=>?_⟩,λy c' e=>?_,I.free,I.freeC,λp hp=>?_,B ⟨oc,S,I.freeC x c D⟩ l,by simpa using I.len⟩ ⟨c,l,.inr D⟩
  .exact(l.2 b (gh (gJ (bM e) (I.ok.cab x c N D)))).trans (I.base.keep b o e n O F)
  .obtain⟨sl,C⟩:=I.base.slot b o e n O F;exact⟨sl,(l.2 b (gh (gJ (bM e) (I.ok.cab x c N D)))).trans C⟩
  .obtain⟨o',C⟩:=I.base.there b o e F;exact⟨o',(l.2 b (gh (gJ (bM e) (I.ok.cab x c N D)))).trans C⟩
  .by_cases L:j=i
   .subst L;rw[T]at C;cases C;rw[cR K]at G;cases G;exact⟨u,r,.inr ⟨.inl J,c,D,iJ⟩⟩
   .rw[b9 (cX L)]at G;obtain⟨u',r',q⟩:=hl j y v' C G e3;refine⟨u',r',?_⟩;rcases q with q|⟨k,c',e,z'⟩
    .exact .inl q
    .refine .inr ⟨k,c',e,z'.sameBut l ?_⟩;rintro rfl;exact L (vx hN C (I.ok.inj _ _ _ e D ▸ T))
  .by_cases W:c'=c
   .subst W;exact⟨_,iJ⟩
   .obtain⟨w2,z2⟩:=I.cell y c' e;exact⟨w2,z2.sameBut l W⟩
  .obtain⟨e,n,Z,nf,d⟩:=I.pin p hp;refine⟨(l.2 p.1 ?_).trans e,n,Z,nf,d⟩;intro q;rw[q,S]at e;have q':oc=p.2:=cp e;exact d Y (by rw[<-q'];exact P)
theorem tU{M:Model}{A:aV}{E:ai->ao->Prop}{i:Nat}{x:Str}{v:V}{u:ai}{Q:Unit->ao->Prop}(I:Inv X f g H s)(d:X.N.Nodup)(b:X.N[i]?=aa x)(a:Loc X.env.scope x)(r:RelV v u)(h:∀s',Inv X f (g.set i (aa v)) H s'->Q () s') (c:X.fn x=ah\/X.env.scope.names.lookup x=aa .local:=by first|exact .inl rfl|exact .inr rfl|assumption):aC M A (storeName X.env x u) Q E s :=Bo I d b a r (λs' e _=>h s' e) c
theorem Inv.call'{s':ao}{ch:List af}(I:Inv X f g H s)(i:s'.os=s.os)(u:Un (eL X.stack) ch H w s.heap s'.heap)(a:cG X.prog X.w w s'.heap)(j:lg s'.gens)(h:∀b∈ch,(b∈X.ex\/X.s₀.heap.objs.size<=b)/\b≠X.env.locals/\(∀x c,X.env.cells.lookup x=aa c->c≠b)/\∀p∈X.pn++f,p.1≠b):Inv X f g w s':=by obtain⟨h',g',d',t',d⟩:=s';have e:d=s.os:=i;subst e;exact I.call (g':=g') (t':=t') (d':=d') u a j h
end
abbrev XK:=ai->Option af->Hp->Prop
abbrev St:=List (Option V)
abbrev VK:=V->Hp->Prop
abbrev TE:=St->Hp->VK->Prop
abbrev TT:=St->Hp->(Bool->Hp->Prop)->Prop
abbrev TA:=St->Hp->(List V->Hp->Prop)->Prop
structure iV where
 nx:St->Hp->Prop
 rt:VK
 bk:St->Hp->Prop:=λ_ _=>False
 ct:St->Hp->Prop:=λ_ _=>False
abbrev TS:=iV->St->Hp->Prop
def EP(X:Cx)(d:List (af×Obj))(b:St)(Q:VK)(u:ai)(c:ao):Prop:=∃v a,Inv X d b a c/\RelV v u/\Q v a
def TP(X:Cx)(e:List (af×Obj))(c:St)(Q:Bool->Hp->Prop)(b:Bool)(d:ao):Prop:=∃a,Inv X e c a d/\Q b a
def AP(X:Cx)(f:List (af×Obj))(c:St)(Q:List V->Hp->Prop)(d:List ai)(e:ao):Prop:=∃a b,Inv X f c b e/\bv a d/\Q a b
def SP(X:Cx)(c:List (af×Obj))(D:iV)(f:Flow)(s':ao):Prop :=
 match f with
 |.next=>∃a b,Inv X c a b s'/\D.nx a b
 |.brk=>∃a b,Inv X c a b s'/\D.bk a b
 |.cont=>∃a b,Inv X c a b s'/\D.ct a b
 |.ret u=>∃v a b,Inv X c a b s'/\RelV v u/\D.rt v b
def PE(X:Cx)(e:aA)(t:TE):Prop :=
 ∀(b:List (af×Obj)) (s:ao) (a:St) (H:Hp) (Q:VK),Inv X b a H s->t a H Q->aC (ay X.prog X.w) X.A (bi e X.env) (EP X b a Q) X.xe s
def PT(X:Cx)(e:aA)(t:TT):Prop :=
 ∀(b:List (af×Obj)) (s:ao) (a:St) (H:Hp) (Q:Bool->Hp->Prop),Inv X b a H s->t a H Q->aC (ay X.prog X.w) X.A (lh e X.env (bi e X.env)) (TP X b a Q) X.xe s
def PW(X:Cx)(e:aA)(t:TT):Prop :=
 ∀(c:Sem ai) (b:List (af×Obj)) (s:ao) (a:St) (H:Hp) (Q:Bool->Hp->Prop),Inv X b a H s->t a H Q->aC (ay X.prog X.w) X.A (lh e X.env c) (TP X b a Q) X.xe s
def PA(X:Cx)(d:List aA)(t:TA):Prop :=
 ∀(b:Pos) (c:List (af×Obj)) (s:ao) (a:St) (H:Hp) (Q:List V->Hp->Prop),Inv X c a H s->t a H Q->aC (ay X.prog X.w) X.A (spliced (cS b (aR d X.env))) (AP X c a Q) X.xe s
def PS(X:Cx)(c:bf)(t:TS):Prop :=
 ∀(b:List (af×Obj)) (s:ao) (a:St) (H:Hp) (D:iV),Inv X b a H s->t D a H->aC (ay X.prog X.w) X.A (exec c X.env) (SP X b D) X.xe s
def jM(X:Cx)(c:List bf)(t:TS):Prop :=
 ∀(b:List (af×Obj)) (s:ao) (a:St) (H:Hp) (D:iV),Inv X b a H s->t D a H->aC (ay X.prog X.w) X.A (execs c X.env) (SP X b D) X.xe s
theorem a6{b:Type}{t:Sem b}{Q c:b->ao->Prop}{M:Model}{A:aV}{E:ai->ao->Prop}{s:ao}(h:aC M A t Q E s)(d:∀a s,Q a s->c a s):aC M A t c E s:=fj h d λ_ _ x=>x
section
variable{X:Cx}
def BO(i:Nat):TE:=λa H Q=>∃v,a[i]?=aa (aa v)/\Q v H
def tC(v:V):TE:=λ_ H Q=>Q v H
theorem fD{i:Nat}{x:Str}{f:Pos}(p:X.N[i]?=aa x)(j:d_ X.env.scope x)(d:(x==("__debug__":Str))=aj:=by decide)(q:(x==("__classdict__":Str))=aj:=by decide):PE X (.Name x f) (BO i):=by
 intro w s g H Q I h;obtain⟨v,e,h⟩:=h;obtain⟨m,n,o⟩:=I.loc;obtain⟨u,r,l⟩:=o i x v p e j;have b:EP X w g Q u s:=⟨v,H,I,r,h⟩
 rcases l with⟨a,hm⟩|⟨a,c,hc,uY⟩
 .exact wpAny_Name (wpAny_loadName_local I.ok.kind a n hm b) d
 .rcases a with a|a
  .exact wpAny_Name (wpAny_loadName_cell I.ok.kind a hc uY b) d
  .exact wpAny_Name (wpAny_loadName_free I.ok.kind a hc uY b q) d
theorem Kg{i j f}:PE X (.Constant (.int i) j f) (tC (.int i)):=λ_ _ _ H _ I h=>wpAny_Constant_int ⟨.int i,H,I.tok _,⟨_,rfl⟩,h⟩
theorem HA{b j f}:PE X (.Constant (.bool b) j f) (tC (.bl b)):=λ_ _ _ H _ I h=>Constant_bool ⟨.bl b,H,I,rfl,h⟩
theorem HR{j f}:PE X (.Constant .none j f) (tC .non):=λ_ _ _ H _ I h=>Constant_none ⟨.non,H,I,rfl,h⟩
theorem GP{x j f}:PE X (.Constant (.str x) j f) (tC (.str x)):=λ_ _ _ H _ I h=>Calls.Constant_str ⟨.str x,H,I.tok _,⟨_,rfl⟩,h⟩
def Gl(X:Cx)(x:Str):Prop:=X.env.kindOf x=aa .globalImplicit
theorem ph{E:ai->ao->Prop}{e:List (af×Obj)}{s:ao}{a:St}{H:Hp}{x:Str}{u:ai}{f:Pos}{Q:ai->ao->Prop}(I:Inv X e a H s)(c:Gl X x)(b:X.mg x=aa u)(h:Q u s)(d:(x==("__debug__":Str))=aj:=by decide):aC (ay X.prog X.w) X.A (bi (.Name x f) X.env) Q E s :=Calls.Name_function_global I.ok.kind c (Calls.loadGlobal_global (by rw[I.ok.glob];exact I.mod.glob.keeps I.bk) b h) d
theorem ue{E:ai->ao->Prop}{l:List (af×Obj)}{s:ao}{a:St}{H:Hp}{x:Str}{u:ai}{f:Pos}{Q:ai->ao->Prop}(I:Inv X l a H s)(e:Gl X x)(d:X.mg x=ag)(b:eD x=aa u)(h:Q u s)(c:x≠"__name__":=by decide) (g:(x==("__debug__":Str))=aj:=by decide):aC (ay X.prog X.w) X.A (bi (.Name x f) X.env) Q E s:=by obtain⟨m,j,i⟩:=I.mod.blt;exact Calls.Name_function_global I.ok.kind e (Calls.loadGlobal_builtin (by rw[I.ok.glob];exact I.mod.glob.keeps I.bk) d (by rw[I.ok.blt];exact j.keeps I.bk) ((i x c).trans b) h) g
theorem wE{x:Str}{v:V}{u:ai}{f:Pos}(b:Gl X x)(a:X.mg x=aa u)(r:RelV v u)(c:(x==("__debug__":Str))=aj:=by decide):PE X (.Name x f) (tC v) :=λ_ _ _ H _ I h=>ph I b a ⟨v,H,I,r,h⟩ c
theorem Gu{x:Str}{v:V}{u:ai}{f:Pos}(d:Gl X x)(c:X.mg x=ag)(a:eD x=aa u)(r:RelV v u)(b:x≠"__name__":=by decide)(e:(x==("__debug__":Str))=aj:=by decide):PE X (.Name x f) (tC v) :=λ_ _ _ H _ I h=>ue I d c a ⟨v,H,I,r,h⟩ b e
variable{a b:aA}{g n:TE}{f:Pos}
def tB(t:TE):TT:=λd H Q=>t d H λx e=>∃c,x=.bl c/\Q c e
theorem Ja{e:aA}{t:TE}(h:PE X e t)(o:∀c,lh e X.env c=(do let v <-c;standAt e.pos;jQ [v] (truthy v)):=by intro _;rfl):PT X e (tB t):=by
 intro p s i H Q I m;refine isTrue_plain (a6 (h p s i H _ I m) λv w ⟨x,u,r,j,l⟩=>?_) (o _);obtain⟨d,rfl,q⟩:=l;cases j;exact nq ⟨u,r,q⟩
variable{o p:TT}{rest:List aA}
def Ed(t u:TT):TT:=λd H Q=>t d H λc e=>if c=ah then Q ah e else u d e Q
def JZ(t:TT):TT:=λd H Q=>t d H λc e=>Q (!c) e
theorem GC(i:PT X a o):PW X (.BoolOp .Or [a] f) o:=by
 intro l j s d H Q I h;refine isTrue_or (a6 (i j s d H Q I h) λc m e=>?_);cases c with
 |false=>exact isTrue_or_nil e
 |true=>exact e
theorem HM(u:PT X a o)(r:PW X (.BoolOp .Or (b::rest) f) p):PW X (.BoolOp .Or (a::b::rest) f) (Ed o p):=by
 intro m i s d H Q I h;refine isTrue_or (a6 (u i s d H _ I h) λc q ⟨l,j,e⟩=>?_);cases c with
 |true=>exact⟨l,j,e⟩
 |false=>exact r m i q d l Q j e
theorem EV(e:PT X a o):PT X (.UnaryOp .Not a f) (JZ o):=by intro i s d H Q I h;exact isTrue_not (e i s d H (λc j=>Q (!c) j) I h)
def EQ(g n:TE):TE:=λd H Q=>g d H λx e=>∃c,x=.bl c/\if c=ah then n d e Q else Q (.bl aj) e
def G7(g:TE):TE:=λd H Q=>g d H λx e=>∃c,x=.bl c/\Q (.bl (!c)) e
theorem FM{op}{t:TE}(h:PE X a t):PE X (.BoolOp op [a] f) t:=λe s c H Q I d=>BoolOp_one (h e s c H Q I d)
theorem Dq(u:PE X a g)(r:PE X (.BoolOp .And (b::rest) f) n):PE X (.BoolOp .And (a::b::rest) f) (EQ g n):=by
 intro i s e H Q I h;refine BoolOp_and (a6 (u i s e H _ I h) λv m ⟨x,l,j,q,d⟩=>?_);obtain⟨c,rfl,d⟩:=d;cases q;refine nq ?_;cases c with
 |true=>exact r i m e l Q j d
 |false=>exact⟨.bl aj,l,j,rfl,d⟩
theorem Jr(j:PE X a g):PE X (.UnaryOp .Not a f) (G7 g):=by
 intro l s e H Q I h;refine UnaryOp_ (a6 (j l s e H _ I h) λv r ⟨x,q,m,i,d⟩=>?_);obtain⟨c,rfl,d⟩:=d;cases i;exact not_of (nq ⟨.bl (!c),q,m,rfl,d⟩)
def GK(t:TT)(g n:TE):TE:=λd H Q=>t d H λc e=>if c=ah then g d e Q else n d e Q
theorem Gw{c:aA}(r:PT X c o)(v:PE X a g)(u:PE X b n):PE X (.IfExp c a b f) (GK o g n):=by
 intro i s e H Q I h;refine wpAny_IfExp (a6 (r i s e H _ I h) λd j ⟨q,m,l⟩=>?_);cases d with
 |true=>exact v i j e q Q m l
 |false=>exact u i j e q Q m l
end
def b7(K:ar)(H:Hp)(a:af)(xs:List V):Prop :=
 Rd H a (.lst xs) \/
  ∃(o:Obj) (b:Array ai) (n:Nat),K.lookup a=aa o/\o.cls=.type "list"/\o.dict=ag/\o.data=.seq b n/\b.size<=bj/\bv xs b.toList
def cf(K:ar)(H:Hp)(a:af)(xs:List V):Prop :=
 Rd H a (.tup xs) \/
  ∃(o:Obj) (b:Array ai) (n:Nat),K.lookup a=aa o/\o.cls=.type "tuple"/\o.data=.seq b n/\b.size<=bj/\bv xs b.toList
def K1:ai->Option V
 |.none=>aa .non
 |.bool b=>aa (.bl b)
 |.int i _=>aa (.int i)
 |.str x _=>aa (.str x)
 |.bytes b _=>aa (.byt b)
 |.float b _=>aa (.flt b)
 |.ref a=>aa (.ref a)
 |.type n=>aa (.ty n)
 |_=>ag
theorem RelV.abs{x:V}{u:ai}(r:RelV x u):K1 u=aa x:=by
 cases x with
 |non=>cases r;rfl
 |bl _=>cases r;rfl
 |int _=>obtain⟨t,rfl⟩:=r;rfl
 |str _=>obtain⟨t,rfl⟩:=r;rfl
 |byt _=>obtain⟨t,rfl⟩:=r;rfl
 |flt _=>obtain⟨t,rfl⟩:=r;rfl
 |ref _=>cases r;rfl
 |ty _=>cases r;rfl
theorem RelV.inj{x y:V}{u:ai}(r:RelV x u)(q:RelV y u):x=y:=cp (r.abs.symm.trans q.abs)
theorem bv.inj:∀{xs a:List V}{b:List ai},bv xs b->bv a b->xs=a
 |_,_,_,.nil,.nil=>rfl
 |_,_,_,.cons r t,.cons d c=>by rw[r.inj d,bv.inj t c]
section
variable{X:Cx}{g:List (af×Obj)}{c:St}{H:Hp}{s:ao}{a:af}{b f:List V}
theorem b7.of{K:ar}(h:H a=aa (.lst b)):b7 K H a b:=.inl (.inl h)
theorem cf.of{K:ar}(h:H a=aa (.tup b)):cf K H a b:=.inl (.inl h)
theorem Inv.list(I:Inv X g c H s)(h:b7 X.K H a b):∃its:List ai,bv b its/\PlainL s.heap a its.toArray/\b.length<=bj:=by
 rcases h with h|⟨o,its,n,i,l,j,d,m,r⟩
 .obtain⟨z,its,n,r,e⟩:=h.ok I.hok;exact⟨its,r,⟨_,n,e,rfl,rfl,rfl⟩,z⟩
 .refine⟨its.toList,r,⟨o,n,I.kIn a o i,l,j,by simpa using d⟩,?_⟩;have e:=r.length;simp only[i7]at e;lia
theorem Inv.tuple(I:Inv X g c H s)(h:cf X.K H a b):∃d:List ai,bv b d/\IsTup s.heap a d.toArray/\b.length<=bj:=by
 rcases h with h|⟨o,d,n,j,l,i,m,r⟩
 .obtain⟨z,d,r,p,_⟩:=h.ok I.hok;exact⟨d,r,p,z⟩
 .refine⟨d.toList,r,⟨o,I.kIn a o j,l,n,by simpa using i⟩,?_⟩;have e:=r.length;simp only[i7]at e;lia
theorem Inv.list_inj(I:Inv X g c H s)(h:b7 X.K H a b)(q:b7 X.K H a f):b=f:=by
 obtain⟨j,r,⟨o,n,e,_,_,d⟩,_⟩:=I.list h;obtain⟨i,p,⟨u,v,l,_,_,m⟩,_⟩:=I.list q;rw[e]at l;cases l;rw[d]at m;injection m with d1 _;have:j=i:=by simpa using congrArg Array.toList d1
 subst this;exact r.inj p
theorem Inv.tuple_inj(I:Inv X g c H s)(h:cf X.K H a b)(q:cf X.K H a f):b=f:=by
 obtain⟨j,r,⟨o,e,_,n,d⟩,_⟩:=I.tuple h;obtain⟨i,p,⟨u,l,_,v,m⟩,_⟩:=I.tuple q;rw[e]at l;cases l;rw[d]at m;injection m with d1 _;have:j=i:=by simpa using congrArg Array.toList d1
 subst this;exact r.inj p
end
abbrev Cx.wish(X:Cx)(E:ai->ao->Prop):Cx:={X with xe:=E}
abbrev Cx.nox(X:Cx):Cx:=X.wish λ_ _=>False
theorem Cx.Ok.wish{X:Cx}(ok:X.Ok)(E:ai->ao->Prop):(X.wish E).Ok :=⟨ok.mod,ok.kind,ok.glob,ok.blt,ok.above,ok.inj,ok.has,ok.cab,ok.hd,ok.frames,ok.stk,ok.exf,ok.bs,ok.bsz,ok.noex,ok.exfs,ok.funs,ok.frf,ok.tab⟩
theorem Cx.Ok.unwish{X:Cx}{E:ai->ao->Prop}(ok:(X.wish E).Ok):X.Ok :=⟨ok.mod,ok.kind,ok.glob,ok.blt,ok.above,ok.inj,ok.has,ok.cab,ok.hd,ok.frames,ok.stk,ok.exf,ok.bs,ok.bsz,ok.noex,ok.exfs,ok.funs,ok.frf,ok.tab⟩
section
variable{X:Cx}{a:List (af×Obj)}{b:St}{H:Hp}{s:ao}{E:ai->ao->Prop}
theorem Inv.wish(I:Inv X a b H s)(E:ai->ao->Prop):Inv (X.wish E) a b H s:=⟨I.ok.wish E,I.os,I.bare,I.base,I.loc,I.cell,I.free,I.freeC,I.pin,I.hok,I.len⟩
theorem Inv.unwish(I:Inv (X.wish E) a b H s):Inv X a b H s:=⟨I.ok.unwish,I.os,I.bare,I.base,I.loc,I.cell,I.free,I.freeC,I.pin,I.hok,I.len⟩
theorem SP.unwish{D:iV}{f:Flow}{e:ao}(h:SP (X.wish E) a D f e):SP X a D f e:=by
 cases f with
 |next=>obtain⟨c,d,I,q⟩:=h;exact⟨c,d,I.unwish,q⟩
 |brk=>obtain⟨c,d,I,q⟩:=h;exact⟨c,d,I.unwish,q⟩
 |cont=>obtain⟨c,d,I,q⟩:=h;exact⟨c,d,I.unwish,q⟩
 |ret u=>obtain⟨v,c,d,I,r,q⟩:=h;exact⟨v,c,d,I.unwish,r,q⟩
end
section
variable{X:Cx}{j:bf}{rest:List bf}{t u:TS}{e:aA}{i:TE}{g:Pos}
def F_:TS:=λD a H=>D.nx a H
def ET(t u:TS):TS:=λD a H=>t {D with nx:=u D} a H
theorem EF:jM X [] F_:=λ_ _ a H _ I h=>wpAny_execs_nil ⟨a,H,I,h⟩
theorem Dz(m:PS X j t)(l:jM X rest u):jM X (j::rest) (ET t u):=by
 intro b s c H D I h;refine Cs (a6 (m b s c H {D with nx:=u D} I h) λf d q=>?_);cases f with
 |next=>obtain⟨a,o,n,q⟩:=q;exact l b d a o D n q
 |ret v=>exact q
 |brk=>exact q
 |cont=>exact q
theorem EC(b:PS X j t):jM X [j] t:=by
 intro c s a H D I h;refine Cs (a6 (b c s a H D I h) λf d q=>?_);cases f with
 |next=>exact wpAny_execs_nil q
 |ret v=>exact q
 |brk=>exact q
 |cont=>exact q
theorem Inv.quiet{b:List (af×Obj)}{a:St}{H:Hp}{s:ao}(I:Inv X b a H s):interactive X.env=aj:=by simp[interactive,I.ok.kind]
def Hj(i:TE):TS:=λD a H=>i a H λ_ b=>D.nx a b
theorem wz(d:PE X e i)(c:i8 e ag g.line X.env=pure aj:=by rfl):PS X (.Expr e g) (Hj i):=by intro f s a H D I h;exact wpAny_Expr_any (a6 (d f s a H _ I h) λv n ⟨x,m,l,o,b⟩=>⟨a,m,l,b⟩) I.quiet c
def GY(i:TE):TS:=λD a H=>i a H D.rt
theorem vH(d:PE X e i):PS X (.Return (aa e) g) (GY i):=by intro f s a H D I h;exact wpAny_Return_some (a6 (d f s a H _ I h) λv n ⟨x,m,l,b,c⟩=>⟨x,a,m,l,b,c⟩)
def Kl(c:TT)(t u:TS):TS:=λD a H=>c a H λb d=>if b=ah then t D a d else u D a d
theorem Ka{c:aA}{a b:List bf}{m:TT}(r:PT X c m)(w:jM X a t)(v:jM X b u):PS X (.If c a b g) (Kl m t u):=by
 intro l s f H D I h;refine wpAny_If (a6 (r l s f H _ I h) λd n ⟨q,p,o⟩=>?_);cases d with
 |true=>exact w l n f q D p o
 |false=>exact v l n f q D p o
end
abbrev TG:=V->St->Hp->(St->Hp->Prop)->Prop
def PG(X:Cx)(a:aA)(t:TG):Prop :=
 ∀(d:List (af×Obj)) (s:ao) (c:St) (H:Hp) (v:V) (u:ai) (Q:St->Hp->Prop),Inv X d c H s->RelV v u->t v c H Q ->
  aC (ay X.prog X.w) X.A (li a X.env u) (λ_ s'=>∃b e,Inv X d b e s'/\Q b e) X.xe s
abbrev wP:=V->V->V->Hp->(Hp->Prop)->Prop
def Bd(X:Cx)(t:wP):Prop :=
 ∀(d:List (af×Obj)) (s:ao) (a:St) (H:Hp) (o i v:V) (b c u:ai) (Q:Hp->Prop),Inv X d a H s->RelV o b->RelV i c->RelV v u->t o i v H Q ->
  aC (ay X.prog X.w) X.A (setItem b c u) (λ_ f=>∃e,Inv X d a e f/\Q e) X.xe s
section
variable{X:Cx}{a:Pos}
def zn(i:Nat):TG:=λv b H Q=>Q (b.set i (aa v)) H
theorem xI{i:Nat}{x:Str}(e:X.N.Nodup)(c:X.N[i]?=aa x)(b:Loc X.env.scope x)(d:X.fn x=ah\/X.env.scope.names.lookup x=aa .local:=by first|exact .inl rfl|exact .inr rfl|assumption):PG X (.Name x a) (zn i):=by intro l s g H v u Q I r h;exact wpAny_assign_Name (tU I e c b r (λj f=>⟨_,H,f,h⟩) d)
def JE(c d:TE)(t:wP):TG:=λv b H Q=>c b H λo g=>d b g λi f=>t o i v f λe=>Q b e
theorem yX{o i:aA}{f g:TE}{t:wP}(A:PE X o f)(B:PE X i g)(z:Bd X t)(C:∀v,li (.Subscript o i a) X.env v=(do
   let b <-jQ [v] (bi o X.env)
   let c <-jQ [v,b] (bi i X.env)
   standAt a
   jQ [v,b,c] (setItem b c v)
   release [v,b,c] []):=by intro _;rfl):PG X (.Subscript o i a) (JE f g t):=by
 intro e s d H v u Q I r h;rw[C];refine az (kx (a6 (A e s d H _ I h) λb l ⟨x,K,F,n,w⟩=>?_));refine az (kx (a6 (B e l d K _ F w) λc j ⟨y,J,E,m,q⟩=>?_));refine az (wpAny_standAt (az (kx (a6 (z e j d J x y v b c u _ E n m r q) λ_ L ⟨G,D,p⟩=>?_))));exact wpAny_release ⟨d,G,D,p⟩
def zJ(c:TE)(g:TG):TS:=λD b H=>c b H λx d=>g x b d D.nx
theorem Ap{b e:aA}{d:TE}{g:TG}(p:PE X e d)(o:PG X b g)(n:swapsWithSole [b] e a.line X.env=pure aj:=by rfl)(m:swappedStores [b] e X.env=pure ag:=by rfl)(r:(assignEach [b] X.env).map (·.2)=[li b X.env]:=by rfl):PS X (.Assign [b] e a) (zJ d g):=by intro f s c H D I h;refine wpAny_Assign_stores (a6 (p f s c H _ I h) λv i ⟨x,w,u,j,l⟩=>?_) n m;rw[r];exact a6 (o f i c w x v _ u j l) λ_ y q=>q
theorem xw{i:Nat}{x:Str}{e:aA}{c:TE}{b:Pos}(p:X.N.Nodup)(m:X.N[i]?=aa x)(j:Loc X.env.scope x)(o:PE X e c)(l:i8 e (aa (.Name x b)) a.line X.env=pure aj:=by rfl)(n:X.fn x=ah\/X.env.scope.names.lookup x=aa .local:=by first|exact .inl rfl|exact .inr rfl|assumption):PS X (.Assign [.Name x b] e a) (zJ c (zn i)):=by intro q s d H D I h;refine wpAny_Assign_Name (a6 (o q s d H _ I h) λv A ⟨y,w,u,f,g⟩=>?_) l;exact tU u p m j f (λz r=>⟨_,w,r,g⟩) n
end
structure It where
 go:Nat->Hp->Prop
 yld:Nat->Hp->V->Hp->Prop
 stop:Nat->Hp->Prop
def jP(X:Cx)(a:List (af×Obj))(H:Hp)(b:af):Prop :=
 H b=ag/\b≠X.env.locals/\b∉X.fs/\(b∈X.ex\/X.s₀.heap.objs.size<=b)/\(∀x c,X.env.cells.lookup x=aa c->c≠b)/\∀p∈X.pn++a,p.1≠b
theorem Inv.fpOk{X:Cx}{d:List (af×Obj)}{g:St}{H f:Hp}{s:ao}{b:af}(I:Inv X d g H s)(a:s.heap.objs.size<=b)(i:f b=ag):jP X d f b:=by
 refine⟨i,xO (gJ I.lt a),I.nofs a,.inr (cK I.sz a),λx c e z=>?_,λp h z=>?_⟩
 .obtain⟨v,q⟩:=I.cell x c e;exact absurd (gJ q.lt (by rw[z];exact a)) (ii _)
 .exact absurd (gJ (bM (I.pin p h).1) (by rw[z];exact a)) (ii _)
structure oF(P:aT)(w:aK)(K:ar)(tg:aA)(J:It)(fp:List af)(it:af)(tn:Nat->aB->Prop):Prop where
 mem:it∈fp
 obj:∀i h,tn i h->∀b∈fp,∃o,h.get? b=aa o/\∀v,o.data≠.cell v
 keep:∀i h h',tn i h->(∀b∈fp,∀o,h.get? b=aa o->h'.get? b=aa o)->tn i h'
 item:∀(X:Cx),X.prog=P->X.w=w->X.K=K->X.calm=ah->∀(i:Nat) (ae:List (af×Obj)) (s:ao) (σ:St) (H:Hp) (E:ai->ao->Prop),Inv X ae σ H s->(∀b∈fp,jP X ae H b)->tn i s.heap->J.go i H ->
  aC (ay P w) X.A (pyNext (.ref it)) (λr s1=>∃u,r=aa u /\ aC (ay P w) X.A (xP tg (.ref it) u) (λ_ s2=>∃x H',Inv X ae σ H' s2/\RelV x u/\J.yld i H x H'/\tn (i+1) s2.heap/\∀b∈fp,H' b=ag) E s1) E s
 done:∀(X:Cx),X.prog=P->X.w=w->X.K=K->X.calm=ah->∀(i:Nat) (ae:List (af×Obj)) (s:ao) (σ:St) (H:Hp) (E:ai->ao->Prop),Inv X ae σ H s->(∀b∈fp,jP X ae H b)->tn i s.heap->J.stop i H ->
  aC (ay P w) X.A (pyNext (.ref it)) (λr s1=>r=ag/\Inv X ae σ H s1) E s
 self:∀(A:aV) (i:Nat) (s:ao) (Q:ai->ao->Prop) (E:ai->ao->Prop),tn i s.heap->Q (.ref it) s->aC (ay P w) A (pyIter (.ref it)) Q E s
abbrev TI:=St->Hp->(It->Hp->Prop)->Prop
def sP(X:Cx)(h:List (af×Obj))(i:St)(j:aA)(R:It->Hp->Prop)(a:ai)(e:ao):Prop :=
 ∃(f:af) (g:List af) (d:Nat->aB->Prop) (J:It) (c:Hp),a=.ref f/\Inv X h i c e/\oF X.prog X.w X.K j J g f d/\d 0 e.heap/\(∀b∈g,jP X h c b)/\R J c
def PI(X:Cx)(e a:aA)(d:TI):Prop :=
 ∀(c:List (af×Obj)) (s:ao) (b:St) (H:Hp) (R:It->Hp->Prop),Inv X c b H s->d b H R ->
  aC (ay X.prog X.w) X.A (bi a X.env) (λv f=>aC (ay X.prog X.w) X.A (pyIter v) (sP X c b e R) X.xe f) X.xe s
theorem qf{M:Model}{A:aV}{E:ai->ao->Prop}{s:ao}{c:aA}{d:af}{u:ai}{o:Obj}{n:String}{b:Array ai}{Q:Unit->ao->Prop}(e:s.heap.get? d=aa o)(i:o.cls=.type n)(g:o.data=.fields b)(f:["enumerate","zip","dict_itemiterator","dict_reverseitemiterator","odict_iterator","itertools.zip_longest","itertools.pairwise"].contains n=aj) (a:Q () s):aC M A (xP c (.ref d) u) Q E s:=by
 unfold xP;cases c <;> first
  |exact bg a
  | (cases u <;> first
    |exact bg a
    | (refine az (wpAny_load e ?_)
       rw[i,g];show aC M A (if(["enumerate","zip","dict_itemiterator","dict_reverseitemiterator","odict_iterator","itertools.zip_longest","itertools.pairwise"].contains n&&b[0]? == aa (iI _))=ah then _ else _) Q E s;rw[if_neg (by intro h;rw[f,Bool.false_and]at h;cases h)];exact bg a))
def vB(K:ar)(a:af):It :=⟨λi H=>∃xs x,b7 K H a xs/\xs[i]?=aa x,λi H x b=>b=H/\∀xs,b7 K H a xs->xs[i]?=aa x,λi H=>∃xs,b7 K H a xs/\xs.length<=i⟩
def wN(K:ar)(a:af):It :=⟨λi H=>∃xs x,cf K H a xs/\xs[i]?=aa x,λi H x b=>b=H/\∀xs,cf K H a xs->xs[i]?=aa x,λi H=>∃xs,cf K H a xs/\xs.length<=i⟩
def tK(a:Int)(n:Nat):It:=⟨λi _=>i<n,λi H x b=>b=H/\x=.int (a+i),λi _=>n<=i⟩
theorem Ha{P:aT}{w:aK}{K:ar}{Q:aA}(a g:af):oF P w K Q (vB K a) [g] g (λi h=>h.IsListIter g a i) where
 mem:=by simp
 obj:=λi h f b j=>by
  have e:b=g:=by simpa using j
  subst e;obtain⟨o,e,c,d⟩:=f;exact⟨o,e,λv z=>by rw[d]at z;cases z⟩
 keep:=λi h n f k=>f.at λo e=>k g (by simp) o e
 item:=by intro X C A D M i O s L H E I m f B;subst C A D;obtain⟨xs,x,l,y⟩:=B;obtain⟨r,q,p,T⟩:=I.list l;obtain⟨u,Y,S⟩:=q.get y;obtain⟨J,G,f2,f3,f4,F⟩:=m g (by simp);refine wpAny_pyNext_list_item f p.isList (x:=u) (by simpa using Y) λn N sb=>?_;have I1:Inv X O L H {s with heap:=n}:=I.turned (t':=s.toks) (λb o j e=>(sb.2 b j).trans e) J G f3 f4 F;obtain⟨o,e,c,d⟩:=id N;exact⟨u,rfl,qf (s:={s with heap:=n}) e c d (by decide) ⟨x,H,I1,S,⟨rfl,λys W=>by rw[I.list_inj W l];exact y⟩,N,λb j=>(m b j).1⟩⟩
 done:=by intro X C A D M i O s L H E I m f B;subst C A D;obtain⟨xs,l,y⟩:=B;obtain⟨r,q,p,T⟩:=I.list l;obtain⟨J,G,f2,f3,f4,F⟩:=m g (by simp);have hl:=q.length;exact wpAny_pyNext_list_end (I.ok.hd M) f p.isList (by simp;lia) λn Z=>⟨rfl,I.turned (t':=s.toks) (λb o j e=>Z b o j e) J G f3 f4 F⟩
 self:=λ_ _ _ _ _ f h=>wpAny_pyIter_listiter f h
theorem Jx{P:aT}{w:aK}{K:ar}{Q:aA}(a j:af):oF P w K Q (wN K a) [j] j (λi h=>h.IsTupleIter j a i) where
 mem:=by simp
 obj:=λi h f b l=>by
  have e:b=j:=by simpa using l
  subst e;obtain⟨o,e,c,d⟩:=f;exact⟨o,e,λv z=>by rw[d]at z;cases z⟩
 keep:=λi h q f k=>f.at λo e=>k j (by simp) o e
 item:=by intro X C A D M i O s L H E I n f B;subst C A D;obtain⟨xs,x,m,y⟩:=B;obtain⟨g,r,p,T⟩:=I.tuple m;obtain⟨u,Y,S⟩:=r.get y;obtain⟨J,G,f2,f3,f4,F⟩:=n j (by simp);refine wpAny_pyNext_tuple_item f (show s.heap.IsTuple a g.toArray from p) (x:=u) (by simpa using Y) λq N sb=>?_;have I1:Inv X O L H {s with heap:=q}:=I.turned (t':=s.toks) (λb o l e=>(sb.2 b l).trans e) J G f3 f4 F;obtain⟨o,e,c,d⟩:=id N;exact⟨u,rfl,qf (s:={s with heap:=q}) e c d (by decide) ⟨x,H,I1,S,⟨rfl,λys W=>by rw[I.tuple_inj W m];exact y⟩,N,λb l=>(n b l).1⟩⟩
 done:=by intro X C A D M i O s L H E I n f B;subst C A D;obtain⟨xs,m,y⟩:=B;obtain⟨g,r,p,T⟩:=I.tuple m;obtain⟨J,G,f2,f3,f4,F⟩:=n j (by simp);have hl:=r.length;exact wpAny_pyNext_tuple_end (I.ok.hd M) f (show s.heap.IsTuple a g.toArray from p) (by simp;lia) λq Z=>⟨rfl,I.turned (t':=s.toks) (λb o l e=>Z b o l e) J G f3 f4 F⟩
 self:=λ_ _ _ _ _ f h=>wpAny_pyIter_tupleiter f h
theorem Gq{P:aT}{w:aK}{K:ar}{G:aA}(c:af)(f:Int)(n:Nat):oF P w K G (tK f n) [c] c (λi h=>IsRangeIter h c (f+(i:Nat)*1) ((n:Int)-(i:Nat)) 1) where
 mem:=by simp
 obj:=λi h a b d=>by
  have e:b=c:=by simpa using d
  subst e;exact⟨_,a,λv z=>by
   have F:Data.fields _=Data.cell v:=z;cases F⟩
 keep:=λi h j a k=>k c (by simp) _ a
 item:=by intro X q l r p i D s A H E I g a m;subst q l r;obtain⟨y,x,f2,f3,f4,u⟩:=g c (by simp);have W:=Walks.range (prog:=X.prog) (w:=X.w) (I.ok.hd p) c f 1 n;refine W.item i s _ _ m a λv j B L C J=>?_;obtain⟨t,rfl⟩:=L;have N:Inv X D A H {s with heap:=j,toks:=B}:=I.turned (λb o d e=>J b o (by simpa using d) e) y x f3 f4 u;refine⟨_,rfl,qf (s:={s with heap:=j,toks:=B}) (n:="range_iterator") C rfl rfl (by decide) ⟨.int (f+i),H,N,⟨t,?_⟩,⟨rfl,rfl⟩,C,λb d=>(g b d).1⟩⟩;rw[Int.mul_one]
 done:=by intro X q l r p i D s A H E I g a m;subst q l r;obtain⟨y,x,f2,f3,f4,u⟩:=g c (by simp);exact wpAny_pyNext_range_end (I.ok.hd p) a (by have:n<=i:=m;lia) λj M=>⟨rfl,I.turned (t':=s.toks) (λb o d e=>M b o d e) y x f3 f4 u⟩
 self:=λ_ _ _ _ _ a h=>wpAny_pyIter_rangeiter a h
section
variable{X:Cx}{c:aA}
theorem DC{h:List (af×Obj)}{f:St}{H:Hp}{s:ao}{R:It->Hp->Prop}{E:ai->ao->Prop}{a d:Int}{t u v:Tok}{g:Nat}(I:Inv X h f H s)(p:-(2^62)<=a)(n:a<2^62)(m:-(2^62)<=d)(l:d<2^62)(q:R (tK a (d-a).toNat) H):aC (ay X.prog X.w) X.A (pyIter (.ref s.heap.objs.size)) (sP X h f c R) E {s with heap:=s.heap.push {cls:=.type "range",data:=.fields #[.int a t,.int d u,.int 1 v]},toks:=g}:=by
 refine wpAny_pyIter_range (IsRange.new ..) (small_one p n m l) ?_;have i:Inv X h f H {s with heap:=s.heap.push {cls:=.type "range",data:=.fields #[.int a t,.int d u,.int 1 v]},toks:=g}:=I.kept λb o e=>dE _ e;refine⟨(s.heap.push {cls:=.type "range",data:=.fields #[.int a t,.int d u,.int 1 v]}).objs.size,[(s.heap.push {cls:=.type "range",data:=.fields #[.int a t,.int d u,.int 1 v]}).objs.size],_,_,H,rfl,i.kept (t':=g) λb o e=>dE _ e,Gq _ a (d-a).toNat,?_,λb j=>?_,q⟩
 .have w:a+((0:Nat):Int)*1=a:=by simp
  have r:(((d-a).toNat:Nat):Int)-((0:Nat):Int)=Builtin.Range.rangeSize a d 1:=by rw[rangeSize_one];split <;> lia
  show IsRangeIter _ _ (a+((0:Nat):Int)*1) ((((d-a).toNat:Nat):Int)-((0:Nat):Int)) 1;rw[w,r];exact fL _ rfl
 .have e:b=(s.heap.push {cls:=.type "range",data:=.fields #[.int a t,.int d u,.int 1 v]}).objs.size:=by simpa using j
  subst e;exact i.fpOk (bB _) (i.hok.fresh (bB _))
def D5(d:TA):TI:=λa H R=>d a H λb e=>∃j:Int,b=[.int j]/\-(2^62)<=j/\j<2^62/\R (tK 0 j.toNat) e
theorem Kv{a:aA}{f:TA}{p b:Pos}(u:Gl X "range")(o:X.mg "range"=ag)(v:PA X [a] f)(n:aR [a] X.env=[(aj,bi a X.env)]:=by rfl):PI X c (.Call (.Name "range" p) [a] [] b) (D5 f):=by
 intro w s g H R I h;refine Call_ (ue I u o boot_range (PyProof.Rows.callWith_type1 (a6 (v b w s g H _ I h) λz A ⟨y,B,x,l,d⟩=>?_) n rfl));obtain⟨j,e,d,m,q⟩:=d;subst e;cases l with
 |cons r i=>
  cases i;obtain⟨t,rfl⟩:=r;exact call_range_1 (DC x ∅ ∅ d m (by simpa using q))
def Jf(h:TI)(g:TG)(j:TS):TS:=λD a H=>h a H λJ n=>∃W:Nat->Nat->St->Hp->Prop,(∃m,W 0 m a n)/\∀i m a H,W i m a H ->
 (J.stop i H/\D.nx a H)\/(J.go i H/\∃N:St->Hp->Prop,(∀b d,N b d->∃f,f<m/\W (i+1) f b d)/\∀x d,J.yld i H x d->g x a d λe l=>j {D with nx:=N,ct:=N,bk:=D.nx} e l)
def qU(a:List af)(h:aB):List (af×Obj):=a.filterMap λb=>(h.get? b).map λo=>(b,o)
theorem tZ{a:List af}{h:aB}{b:af}{o:Obj}(d:b∈a)(e:h.get? b=aa o):(b,o)∈qU a h:=List.mem_filterMap.mpr ⟨b,d,by rw[e];rfl⟩
theorem Gx{a:List af}{h:aB}{p:af×Obj}(d:p∈qU a h):p.1∈a/\h.get? p.1=aa p.2:=by
 obtain⟨b,f,e⟩:=List.mem_filterMap.mp d;cases q:h.get? b with
 |none=>rw[q]at e;cases e
 |some o=>rw[q]at e;have g:(b,o)=p:=cp e;subst g;exact⟨f,q⟩
theorem Inv.pinned{f:List (af×Obj)}{g:St}{H:Hp}{s:ao}{a:List af}(I:Inv X f g H s)(m:∀b∈a,jP X f H b)(l:∀b∈a,∃o,s.heap.get? b=aa o/\∀v,o.data≠.cell v):Inv X (f++qU a s.heap) g H s :=
 I.pins_of λp j=>(iw.mp j).elim (λz=>I.pin p (jR _ z)) λz=>by
  obtain⟨h,e⟩:=Gx z;obtain⟨q,n,f2,_⟩:=m p.1 h;obtain⟨o,i,d⟩:=l p.1 h;rw[e]at i;cases i;exact⟨e,q,n,f2,d⟩
theorem Inv.unpinned{b d:List (af×Obj)}{a:St}{H:Hp}{s:ao}(I:Inv X (b++d) a H s):Inv X b a H s:=I.pins_of λp e=>I.pin p (jR _ (rn _ e))
theorem AH{q:aA}{E:List bf}{wi:TI}{g:TG}{tb:TS}{Y:Pos}(L:xQ (ay X.prog X.w) X.A X.env X.xe)(hc:X.calm=ah)(hi:PI X c q wi)(hg:PG X c g)(w:jM X E tb)(hs:∀x,kA q X.env x=pure x:=by intro _;rfl):PS X (.For c q E [] Y) (Jf wi g tb):=by
 intro F s σ H D I h;refine wpAny_For (a6 (hi F s σ H _ I h) λv s1 h1=>a6 h1 λitv s2 h2=>?_) hs;obtain⟨it,O,tn,J,H2,e,I2,T,aW,f2,W,⟨m0,w0⟩,G⟩:=h2;subst e;have p:∀{B:Hp},(∀b∈O,B b=ag)->∀b∈O,jP X F B b:=λhn b w=>⟨hn b w,(f2 b w).2⟩
 refine codeAny_forLoop_any (λn s'=>∃i l B,Inv X F l B s'/\tn i s'.heap/\(∀b∈O,B b=ag)/\W i n l B) ?_ m0 ⟨0,σ,H2,I2,aW,λb w=>(f2 b w).1,w0⟩;rintro n s3 ⟨i,j,P,I3,bt,M,w3⟩;rcases G i n j P w3 with⟨stop,qn⟩|⟨go,N,hN,step⟩
 .refine uC L (a6 (T.done X rfl rfl rfl hc i F s3 j P X.xe I3 (p M) bt stop) λr s4 ⟨Z,I4⟩=>?_);subst Z;exact wpAny_execs_nil ⟨j,P,I4,qn⟩
 .refine uC L (a6 (T.item X rfl rfl rfl hc i F s3 j P X.xe I3 (p M) bt go) λr s4 ⟨u,Z,h4⟩=>?_);subst Z;refine uC L (a6 h4 λ_ s5 ⟨x,H5,I5,r5,y5,bT,fr5⟩=>?_);have I5':=I5.pinned (p fr5) (T.obj _ _ bT);refine uC L (a6 (hg _ s5 j H5 x u _ I5' r5 (step x H5 y5)) λ_ s6 ⟨Q,H6,I6,q6⟩=>?_);refine uC L (a6 (w _ s6 Q H6 _ I6 q6) λf S C=>?_);have y:∀{a:St}{A:Hp},Inv X (F++qU O s5.heap) a A S->N a A->∃m,m<n/\∃i l B,Inv X F l B S/\tn i S.heap/\(∀b∈O,B b=ag)/\W i m l B:=λ{a A} z K=>by obtain⟨m',hm,w7⟩:=hN a A K;refine⟨m',hm,i+1,a,A,z.unpinned,T.keep _ _ _ bT λb w o e=>(z.pin (b,o) (jR _ (jR _ (tZ w e)))).1,λb w=>?_,w7⟩;obtain⟨o,e,d⟩:=T.obj _ _ bT b w;exact(z.pin (b,o) (jR _ (jR _ (tZ w e)))).2.1
  cases f with
  |next=>obtain⟨a,A,z,K⟩:=C;exact y z K
  |cont=>obtain⟨a,A,z,K⟩:=C;exact y z K
  |brk=>obtain⟨a,A,z,C⟩:=C;exact⟨a,A,z.unpinned,C⟩
  |ret v=>obtain⟨x7,a,A,z,r7,C⟩:=C;exact⟨x7,a,A,z.unpinned,r7,C⟩
end
abbrev R2:=V->V->Hp->VK->Prop
def bH(X:Cx)(f:ai->ai->Sem ai)(r:R2):Prop :=
 ∀(b:List (af×Obj)) (s:ao) (a:St) (H:Hp) (x y:V) (v u:ai) (Q:VK),Inv X b a H s->RelV x v->RelV y u->r x y H Q ->
  aC (ay X.prog X.w) X.A (f v u) (EP X b a Q) X.xe s
def uv(X:Cx)(f:ai->Sem ai)(r:V->Hp->VK->Prop):Prop :=
 ∀(b:List (af×Obj)) (s:ao) (a:St) (H:Hp) (x:V) (v:ai) (Q:VK),Inv X b a H s->RelV x v->r x H Q ->
  aC (ay X.prog X.w) X.A (f v) (EP X b a Q) X.xe s
def eI(X:Cx)(f:ai)(r:List V->Hp->VK->Prop):Prop :=
 ∀(c:List (af×Obj)) (s:ao) (a:St) (H:Hp) (xs:List V) (b:List ai) (Q:VK),Inv X c a H s->bv xs b->r xs H Q ->
  aC (ay X.prog X.w) X.A (call f b) (EP X c a Q) X.xe s
def sS(r:R2)(c b:TE):TE:=λa H Q=>c a H λx e=>b a e λy d=>r x y d Q
def IU(r:V->Hp->VK->Prop)(b:TE):TE:=λa H Q=>b a H λx c=>r x c Q
def rI(C:Int->Int->Prop)(g:Int->Int->V):R2:=λx y H Q=>∃i j,x=.int i/\y=.int j/\C i j/\Q (g i j) H
def kP(g:Int->Int->V):R2:=λx y H Q=>∃i j,x=.int i/\y=.int j/\Q (g i j) H
def rU(g:Int->V):V->Hp->VK->Prop:=λx H Q=>∃i,x=.int i/\Q (g i) H
section
variable{X:Cx}{a b c:aA}{d l m:TE}{e:Pos}
theorem xt(E:PE X a d)(D:PE X b l){p:List (af×Obj)}{s:ao}{g:St}{H:Hp}{R:V->V->Hp->Prop}(I:Inv X p g H s)(h:d g H λx q=>l g q λy i=>R x y i) {Q:ai->ao->Prop}{f:ai->ai->Sem ai}(C:∀v u o x y i,Inv X p g i o->RelV x v->RelV y u->R x y i->aC (ay X.prog X.w) X.A (f v u) Q X.xe o):aC (ay X.prog X.w) X.A (bi a X.env) (λv n=>aC (ay X.prog X.w) X.A (bi b X.env) (λu j=>aC (ay X.prog X.w) X.A (f v u) Q X.xe j) X.xe n) X.xe s:=by refine a6 (E p s g H _ I h) λv r ⟨x,q,G,z,B⟩=>?_;refine a6 (D p r g q _ G B) λu o ⟨y,i,F,w,A⟩=>?_;exact C v u o x y i F z w A
theorem Dg{f:Operator}{r:R2}(o:bH X (ij f) r)(w:PE X a d)(p:PE X b l):PE X (.BinOp a f b e) (sS r d l):=by intro z s g H Q I h;exact wpAny_BinOp (xt w p I h λv u i x y B A n j q=>o z i g B x y v u Q A n j q)
theorem Ji{g:UnaryOp}{r:V->Hp->VK->Prop}(p:uv X (unaryOp g) r)(q:PE X a d):PE X (.UnaryOp g a e) (IU r d):=by intro i s f H Q I h;exact UnaryOp_ (a6 (q i s f H _ I h) λv j ⟨x,w,u,n,o⟩=>p i j f w x v Q u n o)
theorem wO{f:ai->ai->Sem ai}{C:Int->Int->Prop}{g:Int->Int->Int}(n:∀(i j:Int) (t u:Tok) (s:ao) (Q:ai->ao->Prop) (E:ai->ao->Prop),C i j->Q (.int (g i j) s.toks) {s with toks:=s.toks+1}->aC (ay X.prog X.w) X.A (f (.int i t) (.int j u)) Q E s):bH X f (rI C λi j=>.int (g i j)):=by intro A s z H x y v u Q I r p h;obtain⟨i,j,rfl,rfl,w,q⟩:=h;obtain⟨t,rfl⟩:=r;obtain⟨o,rfl⟩:=p;exact n i j t o s _ _ w ⟨.int (g i j),H,I.tok _,⟨_,rfl⟩,q⟩
theorem AI{f:ai->ai->Sem ai}{g:Int->Int->Int}(n:∀(i j:Int) (t u:Tok) (s:ao) (Q:ai->ao->Prop) (E:ai->ao->Prop),Q (.int (g i j) s.toks) {s with toks:=s.toks+1}->aC (ay X.prog X.w) X.A (f (.int i t) (.int j u)) Q E s):bH X f (kP λi j=>.int (g i j)):=by intro z s w H x y v u Q I r p h;obtain⟨i,j,rfl,rfl,q⟩:=h;obtain⟨t,rfl⟩:=r;obtain⟨o,rfl⟩:=p;exact n i j t o s _ _ ⟨.int (g i j),H,I.tok _,⟨_,rfl⟩,q⟩
theorem Cq{f:ai->ai->Sem ai}{g:Int->Int->Bool}(n:∀(i j:Int) (t u:Tok) (s:ao) (Q:ai->ao->Prop) (E:ai->ao->Prop),Q (.bool (g i j)) s->aC (ay X.prog X.w) X.A (f (.int i t) (.int j u)) Q E s):bH X f (kP λi j=>.bl (g i j)):=by intro z s w H x y v u Q I r p h;obtain⟨i,j,rfl,rfl,q⟩:=h;obtain⟨t,rfl⟩:=r;obtain⟨o,rfl⟩:=p;exact n i j t o s _ _ ⟨.bl (g i j),H,I,rfl,q⟩
def z_(i j:Int):Prop:=0<=j/\j<=1000000/\i.natAbs<2^64
def wI(i j:Int):Prop:=(-(2^64)<i/\i<2^64)\/(-(2^64)<j/\j<2^64)
theorem wI.ok{i j:Int}(h:wI i j):IntMulOk i j:=by
 rcases h with⟨h1,h2⟩|⟨h1,h2⟩
 .exact .of_left (intBits_le_64 h1 h2)
 .exact .of_right (intBits_le_64 h1 h2)
theorem Lw:bH X (ij .Add) (kP λi j=>.int (i+j)):=AI λ_ _ _ _ _ _ _ q=>add_int q
theorem zi:bH X (ij .Sub) (kP λi j=>.int (i-j)):=AI λ_ _ _ _ _ _ _ q=>sub_int q
theorem Lk:bH X (ij .Mult) (rI wI λi j=>.int (i*j)):=wO λ_ _ _ _ _ _ _ f q=>mul_int q f.ok
theorem ot:bH X (ij .Mod) (rI (λ_ j=>0<j) λi j=>.int (i % j)):=wO λi j _ _ _ _ _ f q=>by have g:(0:Int)<j:=f;exact mod_int' ∅ (by rw[Int.fmod_eq_emod_of_nonneg i ∅];exact q)
theorem Jj:bH X (ij .Pow) (rI z_ λi j=>.int (i^j.toNat)):=wO λ_ _ _ _ _ _ _ f q=>pow_int_small f.1 f.2.1 f.2.2 q
theorem DL{f:ai->Sem ai}{g:Int->Int}(j:∀(i:Int) (t:Tok) (s:ao) (Q:ai->ao->Prop) (E:ai->ao->Prop),Q (.int (g i) s.toks) {s with toks:=s.toks+1}->aC (ay X.prog X.w) X.A (f (.int i t)) Q E s):uv X f (rU λi=>.int (g i)):=by intro p s o H x v Q I n h;obtain⟨i,rfl,q⟩:=h;obtain⟨t,rfl⟩:=n;exact j i t s _ _ ⟨.int (g i),H,I.tok _,⟨_,rfl⟩,q⟩
theorem FO:uv X (unaryOp .USub) (rU λi=>.int (-i)):=DL λ_ _ _ _ _ q=>neg_int q
end
def mU:V->V->Bool
 |.non,.non=>ah|.non,.int _=>ah|.int _,.non=>ah|.non,.bl _=>ah|.bl _,.non=>ah|.non,.str _=>ah|.str _,.non=>ah
 |.int _,.int _=>ah|.bl _,.bl _=>ah|.str _,.str _=>ah|.byt _,.byt _=>ah
 |.int _,.str _=>ah|.str _,.int _=>ah|.bl _,.str _=>ah|.str _,.bl _=>ah
 |_,_=>aj
def AX:R2:=λx y H Q=>mU x y=ah/\Q (.bl (decide (x=y))) H
def Ah:R2:=λx y H Q=>mU x y=ah/\Q (.bl (!decide (x=y))) H
theorem AM{i j:Int}:decide (V.int i=V.int j)=(i == j):=by rw[i9];simp
theorem Ao{i j:Bool}:decide (V.bl i=V.bl j)=(i == j):=by rw[i9];simp
theorem zR{i j:Str}:decide (V.str i=V.str j)=(i == j):=by rw[i9];simp
theorem Cf{i j:Array UInt8}:decide (V.byt i=V.byt j)=(i.toList == j.toList):=by
 rw[i9];cases i;cases j;simp
section
variable{X:Cx}{a b c:aA}{l g o:TE}{m:Pos}
theorem cN{h:List (af×Obj)}{d:St}{H:Hp}{s:ao}{Q:VK}{k f:Bool}(I:Inv X h d H s)(q:Q (.bl k) H)(e:k=f):EP X h d Q (.bool f) s:=by subst e;exact⟨.bl k,H,I,rfl,q⟩
theorem Lq:bH X (dP .Eq) AX:=by
 intro r s p H x y v u Q I n d h;obtain⟨f,q⟩:=h;cases x with
 |non=>
  cases n;cases y with
  |non=>cases d;exact PySem.EqNone.eq_none_none (cN I q (by simp))
  |bl j=>cases d;exact PySem.EqNone.eq_none_bool (cN I q (by simp))
  |int j=>obtain⟨e,rfl⟩:=d;exact PySem.EqNone.eq_none_int (cN I q (by simp))
  |str j=>obtain⟨e,rfl⟩:=d;exact PySem.EqNone.eq_none_str (cN I q (by simp))
  |_=>exact absurd (show aj=ah from f) eh
 |bl i=>
  cases n;cases y with
  |non=>cases d;exact PySem.EqNone.eq_bool_none (cN I q (by simp))
  |bl j=>cases d;exact eq_bool (cN I q Ao)
  |str j=>obtain⟨e,rfl⟩:=d;exact PySem.EqMixed.eq_bool_str (cN I q (by simp))
  |_=>exact absurd (show aj=ah from f) eh
 |int i=>
  obtain⟨t,rfl⟩:=n;cases y with
  |non=>cases d;exact PySem.EqNone.eq_int_none (cN I q (by simp))
  |int j=>obtain⟨e,rfl⟩:=d;exact eq_int (cN I q AM)
  |str j=>obtain⟨e,rfl⟩:=d;exact PySem.EqMixed.eq_int_str (cN I q (by simp))
  |_=>exact absurd (show aj=ah from f) eh
 |str i=>
  obtain⟨t,rfl⟩:=n;cases y with
  |non=>cases d;exact PySem.EqNone.eq_str_none (cN I q (by simp))
  |bl j=>cases d;exact PySem.EqMixed.eq_str_bool (cN I q (by simp))
  |int j=>obtain⟨e,rfl⟩:=d;exact PySem.EqMixed.eq_str_int (cN I q (by simp))
  |str j=>obtain⟨e,rfl⟩:=d;exact eq_str (cN I q zR)
  |_=>exact absurd (show aj=ah from f) eh
 |byt i=>
  obtain⟨t,rfl⟩:=n;cases y with
  |byt j=>obtain⟨e,rfl⟩:=d;exact PySem.W.eq_bytes (cN I q Cf)
  |_=>exact absurd (show aj=ah from f) eh
 |_=>cases y <;> exact absurd (show aj=ah from f) eh
theorem LG:bH X (dP .NotEq) Ah:=by
 intro r s p H x y v u Q I n d h;obtain⟨f,q⟩:=h;cases x with
 |non=>
  cases n;cases y with
  |non=>cases d;exact PySem.EqNone.ne_none_none (cN I q (by simp))
  |bl j=>cases d;exact PySem.EqNone.ne_none_bool (cN I q (by simp))
  |int j=>obtain⟨e,rfl⟩:=d;exact PySem.EqNone.ne_none_int (cN I q (by simp))
  |str j=>obtain⟨e,rfl⟩:=d;exact PySem.EqNone.ne_none_str (cN I q (by simp))
  |_=>exact absurd (show aj=ah from f) eh
 |bl i=>
  cases n;cases y with
  |non=>cases d;exact PySem.EqNone.ne_bool_none (cN I q (by simp))
  |bl j=>cases d;exact ne_bool (cN I q (congrArg not Ao))
  |str j=>obtain⟨e,rfl⟩:=d;exact PySem.EqMixed.ne_bool_str (cN I q (by simp))
  |_=>exact absurd (show aj=ah from f) eh
 |int i=>
  obtain⟨t,rfl⟩:=n;cases y with
  |non=>cases d;exact PySem.EqNone.ne_int_none (cN I q (by simp))
  |int j=>obtain⟨e,rfl⟩:=d;exact ne_int (cN I q (congrArg not AM))
  |str j=>obtain⟨e,rfl⟩:=d;exact PySem.EqMixed.ne_int_str (cN I q (by simp))
  |_=>exact absurd (show aj=ah from f) eh
 |str i=>
  obtain⟨t,rfl⟩:=n;cases y with
  |non=>cases d;exact PySem.EqNone.ne_str_none (cN I q (by simp))
  |bl j=>cases d;exact PySem.EqMixed.ne_str_bool (cN I q (by simp))
  |int j=>obtain⟨e,rfl⟩:=d;exact PySem.EqMixed.ne_str_int (cN I q (by simp))
  |str j=>obtain⟨e,rfl⟩:=d;exact ne_str (cN I q (congrArg not zR))
  |_=>exact absurd (show aj=ah from f) eh
 |byt i=>
  obtain⟨t,rfl⟩:=n;cases y with
  |byt j=>obtain⟨e,rfl⟩:=d;exact PySem.W.ne_bytes (cN I q (congrArg not Cf))
  |_=>exact absurd (show aj=ah from f) eh
 |_=>cases y <;> exact absurd (show aj=ah from f) eh
theorem xi:bH X (dP .Lt) (kP λi j=>.bl (decide (i<j))):=Cq λ_ _ _ _ _ _ _ q=>lt_int q
theorem n6:bH X (dP .LtE) (kP λi j=>.bl (decide (i<=j))):=Cq λ_ _ _ _ _ _ _ q=>le_int q
theorem Ln:bH X (dP .In) (λx y H Q=>∃i j,x=.str i/\y=.str j/\Q (.bl (!(uD j i 0 j.length 1).isEmpty)) H):=by intro p s f H x y v u Q I e d h;obtain⟨i,j,rfl,rfl,q⟩:=h;obtain⟨t,rfl⟩:=e;obtain⟨n,rfl⟩:=d;exact in_str (cN I q rfl)
theorem bH.or{f:ai->ai->Sem ai}{r j:R2}(h:bH X f r)(p:bH X f j):bH X f (λx y H Q=>r x y H Q\/j x y H Q):=by
 intro n s d H x y v u Q I i e q;rcases q with q|q
 .exact h n s d H x y v u Q I i e q
 .exact p n s d H x y v u Q I i e q
theorem IR{d:CmpOp}{r:R2}(n:bH X (dP d) r)(z:PE X a l)(w:PE X b g)(p:xR d b=aj):PE X (.Compare a [d] [b] m) (sS r l g):=by intro A s e H Q I h;exact wpAny_Compare1 (xt z w I h λv u f x y C B j i q=>n A f e C x y v u Q B j i q) p
def Ar(t:TE):TT:=λd H Q=>t d H λx e=>∃k,x=.bl k/\Q k e
theorem FZ{f:CmpOp}{r:R2}(D:bH X (dP f) r)(G:PE X a l)(F:PE X b g)(E:xR f b=aj):PT X (.Compare a [f] [b] m) (Ar (sS r l g)):=by
 intro i s d H Q I h;refine wpAny_isTrue_Compare1 (a6 (G i s d H _ I h) λv n ⟨x,O,L,w,C⟩=>a6 (F i n d O _ L C) λu j ⟨y,N,K,q,B⟩=>a6 (D i j d N x y v u _ K w q B) λc P ⟨z,M,J,p,k,e,A⟩=>?_) E;subst e;cases p;exact nq ⟨M,J,A⟩
def vF(r h:R2)(l g o:TE):TE:=λd H Q=>l d H λx n=>g d n λy j=>r x y j λz e=>∃k,z=.bl k /\
 (if k=ah then o d e λf i=>h y f i Q else Q (.bl aj) e)
theorem HN{n f:CmpOp}{r q:R2}(S:bH X (dP n) r)(fo:bH X (dP f) q)(Z:PE X a l)(Y:PE X b g)(W:PE X c o)(T:lastMarks [n,f] [b,c]=aj:=by with_unfolding_all rfl):PE X (.Compare a [n,f] [b,c] m) (vF r q l g o):=by
 intro j s i H Q I h;refine Compare_chain (a6 (Z j s i H _ I h) λv J ⟨x,H1,I1,M,P⟩=>chain_link (a6 (Y j J i H1 _ I1 P) λu G ⟨y,H2,I2,p,O⟩=>a6 (S j G i H2 x y v u _ I2 M p O) λd F ⟨z,B,A,L,k,e,w⟩=>?_)) T;subst e;cases L;refine nq ?_;cases k with
 |false=>exact ite_ff ⟨.bl aj,B,A,rfl,w⟩
 |true=>exact ite_tt (chain_last (a6 (W j F i B _ A w) λD E ⟨C,H4,I4,K,N⟩=>fo j E i H4 y C u D Q I4 p K N))
theorem Iq{n f:CmpOp}{r q:R2}(Y:bH X (dP n) r)(fo:bH X (dP f) q)(ha:PE X a l)(hb:PE X b g)(hc:PE X c o)(Z:lastMarks [n,f] [b,c]=aj:=by with_unfolding_all rfl):PT X (.Compare a [n,f] [b,c] m) (Ar (vF r q l g o)):=by
 intro j s i H Q I h;refine isTrue_chain (a6 (ha j s i H _ I h) λv J ⟨x,H1,I1,N,T⟩=>test_link (a6 (hb j J i H1 _ I1 T) λu G ⟨y,H2,I2,p,S⟩=>a6 (Y j G i H2 x y v u _ I2 N p S) λd F ⟨z,B,A,M,k,e,w⟩=>?_)) Z;subst e;cases M;refine nq ?_;cases k with
 |false=>
  obtain⟨k',e',W⟩:=w;cases e';exact ite_ff ⟨B,A,W⟩
 |true=>
  refine ite_tt (test_last (a6 (hc j F i B _ A w) λD E ⟨C,H4,I4,L,P⟩=>a6 (fo j E i H4 y C u D _ I4 p L P) λd' s5 ⟨z2,H5,I5,K,k2,e2,O⟩=>?_));subst e2;cases K;exact nq ⟨H5,I5,O⟩
theorem oG:(bj:Nat)<2^63:=by rw[uE];decide
theorem Fq:bH X (ij .Add) (λx y H Q=>∃i j,x=.str i/\y=.str j/\i.length+j.length<=bj/\Q (.str (i++j)) H):=by intro w s p H x y v u Q I f e h;obtain⟨i,j,rfl,rfl,n,q⟩:=h;obtain⟨t,rfl⟩:=f;obtain⟨d,rfl⟩:=e;exact add_str (λd r=>⟨.str (i++j),H,I.tok _,⟨_,rfl⟩,q⟩) n
theorem vals1{x:V}{d:List ai}(r:bv [x] d):∃u,d=[u]/\RelV x u:=by
 cases r with
 |cons f e=>cases e;exact⟨_,rfl,f⟩
def zP(K:ar)(x:V)(H:Hp)(n:Nat):Prop :=
 match x with
 |.str y=>y.length<=bj/\n=y.length
 |.byt y=>y.size<=bj/\n=y.size
 |.ref p=>(∃xs,b7 K H p xs/\n=xs.length)\/∃xs,cf K H p xs/\n=xs.length
 |_=>False
theorem gF:eI X (.builtin "len") (λxs H Q=>∃x n,xs=[x]/\zP X.K x H n/\Q (.int n) H):=by
 intro F s B H xs C Q I r h;obtain⟨x,n,rfl,e,q⟩:=h;obtain⟨u,rfl,f⟩:=vals1 r;have E:=oG;have D:bj=16777216:=uE;cases x with
 |str y=>obtain⟨t,rfl⟩:=f;obtain⟨A,d⟩:y.length<=bj/\n=y.length:=e;subst d;exact len_str ∅ ⟨.int _,H,I.tok _,⟨_,rfl⟩,q⟩
 |byt y=>obtain⟨t,rfl⟩:=f;obtain⟨A,d⟩:y.size<=bj/\n=y.size:=e;subst d;exact PySem.W.len_bytes ∅ ⟨.int _,H,I.tok _,⟨_,rfl⟩,q⟩
 |ref p=>
  cases f;have d:(∃xs,b7 X.K H p xs/\n=xs.length)\/∃xs,cf X.K H p xs/\n=xs.length:=e;rcases d with⟨xs,hx,d⟩|⟨xs,hx,d⟩
  .subst d;obtain⟨v,i,j,z⟩:=I.list hx;have w:=i.length;exact Calls.call_len_list j.isList (by simp only[cq];lia) ⟨.int xs.length,H,I.tok _,⟨_,by simp only[cq];rw[w]⟩,q⟩
  .subst d;obtain⟨v,i,j,z⟩:=I.tuple hx;have w:=i.length;exact len_tuple j (by simp only[cq];lia) ⟨.int xs.length,H,I.tok _,⟨_,by simp only[cq];rw[w]⟩,q⟩
 |_=>exact(show False from e).elim
end
structure Cc(h:aB)(x dx C:af)(mA:Str->Option ai):Prop where
 obj:h.get? x=aa (PySem.W.instObj C dx)
 ns:h.Ns1 dx mA
 ne:dx≠x
theorem IJ{h:aB}{g:af}{d:Str->Option ai}(n:h.Ns1 g d):∃c,h.get? g=aa c/\∀b,PySem.W.lookIn b c=aa (d b):=by
 obtain⟨o,f,u,l,r,p,_,m⟩:=n;refine⟨o,l,λb=>?_⟩;have e:=m b;unfold nsFind findBy at e;rw[<-Array.find?_toList]at e;unfold PySem.W.lookIn;rw[r];dsimp only;split
 .rename_i y q;rw[q]at e;exact congrArg aa e
 .rename_i q;rw[q]at e;have a:f.toList.any (·.refKey)=aj:=by rw[List.any_eq_false];intro y j;obtain⟨z,t,i⟩:=p y (Array.mem_toList_iff.mp j);simp[DictEntry.refKey,i]
  have s:¬f.toList.any (·.refKey)=ah:=by rw[a];exact eh
  rw[if_neg s];exact congrArg aa e
theorem Cc.look{h:aB}{x d C:af}{c:Str->Option ai}(I:Cc h x d C c):∃b,rq h x (PySem.W.instObj C d) C (aa b)/\∀a,PySem.W.lookIn a b=aa (c a) :=
 let ⟨b,ho,hl⟩:=IJ I.ns
 ⟨b,⟨I.obj,rfl,rfl,ho⟩,hl⟩
section
variable{P:aT}{w:aK}{H i:Hp}{h g:aB}{a C b:af}{fs c:List (Str×V)}
theorem GT(l:cG P w H h)(e:H a=aa (.ins C b fs)):∃j,Cc h a b C j/\(∀f,rh (fs.lookup f) (j f))/\PySem.Within j (fs.map (·.1))/\fs.length<=1000/\H b=aa (.own a):=by
 obtain⟨d,z,o,m,j,n,r,q⟩:=(show bZ P w H h a (.ins C b fs)from l a _ e)
 exact⟨j,⟨m,n,o⟩,r,q,z,d⟩
end
structure AV(K:ar)(C:af):Prop where
 pg:PySem.W.plainGet K C Str.empty=ah
 hd:PySem.W.hasDictIn K C=ah
 po:PySem.W.plainOver K C=ah
 sa:nr K (.ref C) "__setattr__"=aa (aa (.builtin "object.__setattr__"))
theorem AV.get{K:ar}{C:af}(c:AV K C)(f:Str):PySem.W.plainGet K C f=ah:=c.pg
section
variable{X:Cx}{f:List (af×Obj)}{d:St}{H:Hp}{s:ao}{A:aV}{E:ai->ao->Prop}{Q:ai->ao->Prop}{c:ai}{b:Bool}
inductive ie(K:ar)(H:Hp):V->ai->Prop where
 |non:ie K H .non (.type "NoneType")
 |bl (x:Bool):ie K H (.bl x) (.type "bool")
 |int (i:Int):ie K H (.int i) (.type "int")
 |str (x:Str):ie K H (.str x) (.type "str")
 |flt (x:UInt64):ie K H (.flt x) (.type "float")
 |lst {a:af}{xs:List V} (e:H a=aa (.lst xs)):ie K H (.ref a) (.type "list")
 |frz {a:af}{o:Obj}{xs:List V} (e:H a=aa (.frz o (.lst xs))):ie K H (.ref a) (.type "list")
 |tup {a:af}{xs:List V} (e:H a=aa (.tup xs)):ie K H (.ref a) (.type "tuple")
 |dK {a:af}{kvs:List (aQ×V)} (e:H a=aa (.dK kvs)):ie K H (.ref a) (.type "dict")
 |dT {a:af}{kvs:List (List aQ×V)} (e:H a=aa (.dT kvs)):ie K H (.ref a) (.type "dict")
 |ins {a C dx:af}{fs:List (Str×V)} (e:H a=aa (.ins C dx fs)) (cl:AV K C) (ha:nr K (.ref C) "__class__"=aa (aa (.builtin "object.__class__")))
   (hn:Ct K (.builtin "object.__class__") "__get__"=aa (aa (.builtin "getset_descriptor.__get__"))) (htk:PySem.W.takesIn K (.builtin "object.__class__")=aa ah)
   (hm:uF K C (.type "object")=aa ah):ie K H (.ref a) (.ref C)
theorem F8{x:V}{u t:ai}(I:Inv X f d H s)(g:RelV x u)(ty:ie X.K H x t)(e:dQ X.K t c=aa b)(h:∀m,Q (.bool b) {s with toks:=m}):aC (ay X.prog X.w) A (call (.builtin "isinstance") [u,c]) Q E s:=by
 cases ty with
 |non=>cases (show u=Value.none from g);exact jS PySem.W.kitx_none I.kIn True.intro e (λz=>nomatch z) h
 |bl y=>cases (show u=Value.bool y from g);exact jS PySem.W.kitx_bool I.kIn True.intro e (λz=>nomatch z) h
 |int i=>obtain⟨t,q⟩:=(show ∃t,u=Value.int i t from g);cases q;exact jS PySem.W.kitx_int I.kIn True.intro e (λz=>nomatch z) h
 |str y=>obtain⟨t,q⟩:=(show ∃t,u=Value.str y t from g);cases q;exact jS PySem.W.kitx_str I.kIn True.intro e (λz=>nomatch z) h
 |flt y=>obtain⟨t,q⟩:=(show ∃t,u=Value.float y t from g);cases q;exact jS PySem.W.kitx_float I.kIn True.intro e (λz=>nomatch z) h
 |@lst a xs ea=>
  cases (show u=Value.ref a from g);obtain⟨_,_,n,_,j⟩:=(show bZ X.prog X.w H s.heap a (.lst xs)from I.hok a _ ea)
  exact jS PySem.W.kitx_list I.kIn ⟨_,j,rfl⟩ e (λz=>nomatch z) h
 |@frz a ob xs ea=>
  cases (show u=Value.ref a from g);obtain⟨_,_,_,n,_,j⟩:=(show bZ X.prog X.w H s.heap a (.frz ob (.lst xs))from I.hok a _ ea)
  exact jS PySem.W.kitx_list I.kIn ⟨_,j,rfl⟩ e (λz=>nomatch z) h
 |@tup a xs ea=>
  cases (show u=Value.ref a from g);obtain⟨_,_,_,p,_⟩:=(show bZ X.prog X.w H s.heap a (.tup xs)from I.hok a _ ea)
  obtain⟨o,j,l,_⟩:=p;exact jS PySem.W.kitx_tuple I.kIn ⟨o,j,l⟩ e (λz=>nomatch z) h
 |@dK a kvs ea=>
  cases (show u=Value.ref a from g);obtain⟨_,_,w,_,p⟩:=(show bZ X.prog X.w H s.heap a (.dK kvs)from I.hok a _ ea)
  obtain⟨o,r,v,j,l,_⟩:=p;exact jS PySem.W.kitx_dict I.kIn ⟨o,j,l.1⟩ e (λz=>nomatch z) h
 |@dT a kvs ea=>
  cases (show u=Value.ref a from g);obtain⟨_,_,xs,_,o,r,v,j,l,_⟩:=(show bZ X.prog X.w H s.heap a (.dT kvs)from I.hok a _ ea)
  exact jS PySem.W.kitx_dict I.kIn ⟨o,j,l.1⟩ e (λz=>nomatch z) h
 |@ins a C dx fs ea cl ha hn htk hm=>
  cases (show u=Value.ref a from g);obtain⟨D,O,_⟩:=GT I.hok ea;obtain⟨B,J,_⟩:=O.look;exact jS (PySem.W.kitx_own (cl.get _) cl.hd ha hn htk hm) I.kIn J e (λz=>nomatch z) h
end
structure fc(k:Nat)(A:aV):Prop where
 hd:A.handled=ag
 dp:A.depth+3*k+5<recursionLimit
 un:A.units+16*k+200<cLine
theorem fc.mono{j k:Nat}{A:aV}(r:fc k A)(h:j<=k):fc j A:=⟨r.hd,by have:=r.dp;lia,by have:=r.un;lia⟩
theorem fc.deeper{k:Nat}{A:aV}(r:fc (k+1) A)(a:Env):fc k (A.deeper a) :=⟨r.hd,by have:=r.dp;show A.depth+1+3*k+5<_;lia,by have:=r.un;show A.units+3+16*k+200<_;lia⟩
theorem fc.depth{k:Nat}{A:aV}(r:fc k A):A.depth<recursionLimit:=by have:=r.dp;lia
theorem fc.units{k:Nat}{A:aV}(r:fc k A):A.units+64<cLine:=by have:=r.un;lia
def FN:TA:=λ_ H Q=>Q [] H
def Fy(c:TE)(b:TA):TA:=λa H Q=>c a H λx e=>b a e λxs d=>Q (x::xs) d
section
variable{X:Cx}{e:aA}{c:List aA}{d:TE}{t:TA}{a:Pos}
theorem km:PA X [] FN:=λ_ _ _ _ H Q I h=>Calls.spliced_nil ⟨[],H,I,.nil,h⟩
theorem jH(p:PE X e d)(o:PA X c t)(n:aR (e::c) X.env=(aj,bi e X.env)::aR c X.env:=by rfl):PA X (e::c) (Fy d t):=by intro a f s b H Q I h;rw[n];show aC _ _ (spliced ((aj,bi e X.env)::cS a (aR c X.env))) _ _ s;refine Calls.spliced_cons (a6 (p f s b H _ I h) λu g ⟨x,w,r,j,m⟩=>?_);exact a6 (o a f g b w _ r m) λy z ⟨xs,v,q,i,l⟩=>⟨x::xs,v,q,.cons j i,l⟩
def G2(t:TA):TE:=λf H Q=>t f H λxs b=>xs.length<=bj/\∀p,b p=ag->Q (.ref p) (upd b p (.tup xs))
def D3(t:TA):TE:=λf H Q=>t f H λxs b=>xs.length<=bj/\∀p,b p=ag->Q (.ref p) (upd b p (.lst xs))
theorem EO{x1}(h:PA X c t):PE X (.Tuple c x1 a) (G2 t):=by intro o s j H Q I m;refine wpAny_Tuple_spliced (a6 (h a o s j H _ I m) λl f ⟨xs,i,g,r,z,q⟩=>⟨by rw[<-r.length];exact z,?_⟩);have n:i f.heap.objs.size=ag:=g.hok.fresh (bB _);refine⟨.ref f.heap.objs.size,upd i f.heap.objs.size (.tup xs),g.laid (t':=f.toks) (λb u e=>dE _ e) (bB _) ?_,rfl,q _ n⟩;exact⟨z,l,r,⟨⟨_,fL _ rfl,rfl,_,rfl⟩,_,fL _ rfl,rfl⟩⟩
theorem J0(h:PA X c t):PE X (.List c a) (D3 t):=by intro o s j H Q I m;refine wpAny_List_spliced (a6 (h a o s j H _ I m) λl f ⟨xs,i,g,r,z,q⟩=>⟨by rw[<-r.length];exact z,?_⟩);have n:i f.heap.objs.size=ag:=g.hok.fresh (bB _);refine⟨.ref f.heap.objs.size,upd i f.heap.objs.size (.lst xs),g.laid (t':=f.toks) (λb u e=>dE _ e) (bB _) ?_,rfl,q _ n⟩;exact⟨z,l,0,r,fL _ rfl⟩
end
abbrev Sp:=List V->Hp->VK->XK->Prop
abbrev fY:=List Env->Hp->ao->XK->ai->ao->Prop
structure oE(P:aT)(w:aK)(K:ar)(mg:Str->Option ai)(base:aB)(A:aV)(outer:List Env)(s:ao)(H:Hp):Prop where
 frames:A.frames=aa outer
 mod:Mod K mg base
 bs:∀b o,base.get? b=aa o->s.heap.get? b=aa o/\H b=ag
 bsz:base.objs.size<=s.heap.objs.size
 funs:s.heap.FunFrames base outer
 frf:∀b∈eL outer,H b=ag
 hok:cG P w H s.heap
 bare:lg s.gens
 tab:sI K H
def CE(a:List Env)(P:aT)(w:aK)(H:Hp)(s:ao)(Q:VK)(u:ai)(b:ao):Prop :=
 ∃v c,b.os=s.os/\lg b.gens/\Un (eL a) [] H c s.heap b.heap/\cG P w c b.heap/\RelV v u/\Q v c
def CR(c:fY)(a:List Env)(P:aT)(w:aK)(H:Hp)(s:ao)(Q:VK)(E:XK)(r:Result)(b:ao):Prop :=
 match r with
 |.ok (.ret u)=>CE a P w H s Q u b
 |.ok _=>False
 |.error e=>c a H s E e b
structure jC(P:aT)(w:aK)(K:ar)(mg:Str->Option ai)(base:aB)(CX:fY)(k:Nat)(f:af)(fd:gi)(ps:List Str)(sp:Sp):Prop where
 len:∀vs H Q E,sp vs H Q E->vs.length=ps.length
 run:∀(A:aV) (outer:List Env) (s:ao) (H:Hp) (args:Args) (us:List ai) (vs:List V) (Q:VK) (E:XK),fc k A->oE P w K mg base A outer s H->BindsTo s fd args (ps.zip us)->bv vs us->sp vs H Q E ->
  l0 (ay P w) A (.call (.ref f) args) (CR CX outer P w H s Q E) s
section
variable{X:Cx}{e:List (af×Obj)}{a:St}{H:Hp}{s c:ao}
theorem Inv.env0(I:Inv X e a H s):oE X.prog X.w X.K X.mg X.base X.A X.stack s H :=⟨I.ok.frames,I.ok.mod,I.bs,cK I.ok.bsz I.sz,I.stack,I.stkFree,I.hok,I.bare,I.tab⟩
theorem Inv.after{Q:VK}{u:ai}(I:Inv X e a H s)(h:CE X.stack X.prog X.w H s Q u c):EP X e a Q u c:=by obtain⟨v,n,l,f,un,j,r,q⟩:=h;obtain⟨m,g,d,t,i⟩:=c;obtain rfl:i=s.os:=l;exact⟨v,n,I.call (h':=m) (g':=g) (d':=d) (t':=t) (ch:=[]) un j f (λb z=>absurd z (by simp)),r,q⟩
end
def E6(d:Sp)(a:List V)(E:XK)(t:TA):TE:=λb H Q=>t b H λc e=>d (c++a) e Q E
def Binds(K:ar)(d:gi)(b:List Str)(c:List ai):Prop :=
 ∀(s:ao) (a:List ai),K.In s.heap->(a++c).length=b.length->BindsTo s d ⟨a,[]⟩ (b.zip (a++c))
theorem Binds.all{K:ar}{d:gi}{b:List Str}(h:∀a:List ai,a.length=b.length->fk d ⟨a,[]⟩=pure (b.zip a)):Binds K d b []:=λs a _ c=>by rw[i_]at c ⊢;exact .of_eq (h a c)
def qJ(c:fY)(X:Cx)(E:XK):Prop:=∀(b:List (af×Obj)) (a:St) (H:Hp) (s:ao) (e:ai) (s':ao),Inv X b a H s->c X.stack H s E e s'->X.xe e s'
section
variable{X:Cx}{l:fY}{k:Nat}{f C:af}{j:gi}{d:List Str}{i:Sp}{a:List V}{c:List ai}{E:XK}{x m:Str}{p b n:Pos}{e o:aA}{g:List aA}{v:TE}{t:TA}
theorem KY{A:List (af×Obj)}{z:St}{H:Hp}{s:ao}{Q:VK}{q:List ai}{y:List V}(F:jC X.prog X.w X.K X.mg X.base l k f j d i)(J:fc k X.A)(M:Binds X.K j d c)(L:bv a c)(G:qJ l X E)(I:Inv X A z H s) (r:bv y q) (h:i (y++a) H Q E):aC (ay X.prog X.w) X.A (call (.ref f) q) (EP X A z Q) X.xe s:=by
 have B:bv (y++a) (q++c):=r.append L;have K:(q++c).length=d.length:=by rw[<-B.length];exact F.len _ _ _ _ h
 refine wpAny_call (rz (F.run X.A X.stack s H ⟨q,[]⟩ (q++c) (y++a) Q E J I.env0 (M s q I.kIn K) B h) λr D w=>?_);cases r with
 |error e=>exact G A z H s e D I w
 |ok N=>
  cases N with
  |ret u=>exact I.after w
  |next=>exact gj w
  |brk=>exact gj w
  |cont=>exact gj w
theorem Fe(F:jC X.prog X.w X.K X.mg X.base l k f j d i)(z:fc k X.A)(D:Gl X x)(A:X.mg x=aa (.ref f))(B:nt X.K (.ref f)=ah)(K:Binds X.K j d c)(J:bv a c)(y:qJ l X E)(L:PA X (e::g) t) (M:(x==("__debug__":Str))=aj:=by decide) (G:aR (e::g) X.env=(aj,bi e X.env)::aR g X.env:=by rfl) (N:(cS b (aR g X.env)).any (·.1)=aj:=by rfl):PE X (.Call (.Name x p) (e::g) [] b) (E6 i a E t):=by intro O s w H Q I h;refine uG (ph I D A ?_ M);refine Cu (h₀:=X.base) I.ok.mod.kin B (a6 (L b O s w H _ I h) λS T ⟨P,W,u,r,q⟩=>⟨u.kIn,?_⟩) G N;exact KY F z K J y u r q
end
structure ce(N P:List Str)(sc:dD):Prop where
 kind:sc.kind=.function
 co:sc.isCoroutine=aj
 gen:sc.isGenerator=aj
 nd:N.Nodup
 pre:N.take P.length=P
 par:∀x∈P,sc.names.lookup x=aa .local\/sc.names.lookup x=aa .cell
 nofree:∀y∈sc.names,y.2≠.free
theorem AZ{a:Str->Option fM}{x:Str}:∀{binds:List (Str×ai)}{m:Str->Option ai},(∀v,(x,v)∉binds)->bindL a binds m x=m x
 |[],_,_=>rfl
 | (n,v)::r,m,h=>by
  unfold bindL;rw[AZ λw b=>h w (kw _ b)];split
  .have:x≠n:=by rintro rfl;exact h v lZ
   simp[this]
  .rfl
theorem Cg{a:Str->Option fM}{x:Str}:∀{binds:List (Str×ai)}{m:Str->Option ai},(∀v,(x,v)∉binds)->bindC a binds m x=m x
 |[],_,_=>rfl
 | (n,v)::r,m,h=>by
  unfold bindC;rw[Cg λw b=>h w (kw _ b)];split
  .rfl
  .have:x≠n:=by rintro rfl;exact h v lZ
   simp[this]
theorem zN{a:Str->Option fM}{x:Str}{v:ai}:∀{P:List Str}{b:List ai}{i:Nat}{m:Str->Option ai},P.Nodup->P[i]?=aa x->b[i]?=aa v->a x=aa .local -> bindL a (P.zip b) m x=aa v
 |[],_,_,_,_,h,_,_=>by simp at h
 |_::_,[],_,_,_,_,h,_=>by simp at h
 |p::P,w::b,0,m,nd,h1,h2,hk=>by simp at h1 h2;subst h1;subst h2;show bindL a ((p,w)::P.zip b) m p=_;unfold bindL;rw[AZ λv c=>(lj.mp nd).1 (rA c).1,if_pos hk];simp
 |p::P,w::b,i+1,m,nd,h1,h2,hk=>by show bindL a ((p,w)::P.zip b) m x=_;unfold bindL;exact zN (i:=i) (lj.mp nd).2 (by simpa using h1) (by simpa using h2) hk
theorem Ca{a:Str->Option fM}{x:Str}{v:ai}:∀{P:List Str}{b:List ai}{i:Nat}{m:Str->Option ai},P.Nodup->P[i]?=aa x->b[i]?=aa v->a x≠aa .local -> bindC a (P.zip b) m x=aa v
 |[],_,_,_,_,h,_,_=>by simp at h
 |_::_,[],_,_,_,_,h,_=>by simp at h
 |p::P,w::b,0,m,nd,h1,h2,hk=>by simp at h1 h2;subst h1;subst h2;show bindC a ((p,w)::P.zip b) m p=_;unfold bindC;rw[Cg λv c=>(lj.mp nd).1 (rA c).1,if_neg hk];simp
 |p::P,w::b,i+1,m,nd,h1,h2,hk=>by show bindC a ((p,w)::P.zip b) m x=_;unfold bindC;exact Ca (i:=i) (lj.mp nd).2 (by simpa using h1) (by simpa using h2) hk
def start(N:List Str)(a:List V):St:=a.map aa++dq (N.length-a.length) ag
def io(g:fY)(P:aT)(w:aK)(K:ar)(mg:Str->Option ai)(base:aB)(N:List Str)(b:Str)(a:dD)(f:af)(d:ai)(A:aV)(outer:List Env)(s:ao)(H:Hp)(E:XK):Cx where
 prog:=P
 w:=w
 K:=K
 mg:=mg
 base:=base
 A:=A.deeper (ix b a s.heap.objs.size f d)
 N:=N
 s₀:=s
 H₀:=H
 env:=ix b a s.heap.objs.size f d
 outer:=outer
 stack:=ix b a s.heap.objs.size f d::outer
 ex:=[]
 calm:=ah
 fn:=λ_=>ah
 pn:=[]
 xe:=λe s'=>aC (ay P w) (A.deeper (ix b a s.heap.objs.size f d)) (leaving (ix b a s.heap.objs.size f d) e) (λ_ c=>g outer H s E e c) (λh c=>g outer H s E h c) s'
theorem zG{a:dD}{n:Nat}{x:Str}(h:a.names.lookup x=aa .cell):∃c,(eE n a.names []).lookup x=aa c:=by have q:=Cv a.names n [] (.inl h);exact xS.mp q
theorem Ax{Y:fY}{P:aT}{w:aK}{K:ar}{Q:Str->Option ai}{o:aB}{N C:List Str}{j:Str}{d:dD}{f:af}{M:ai}{A:aV}{g:List Env}{s T:ao}{H:Hp}{E:XK}{O:List ai}{B:List V}(S:ce N C d) (hd:A.handled=ag) (m:oE P w K Q o A g s H) (hl:B.length=C.length) (r:bv B O)(x:InCallC s s.heap.objs.size (bindL (ix j d s.heap.objs.size f M).kindOf (C.zip O) λ_=>ag) (eE (s.heap.objs.size+1) d.names []) (bindC (ix j d s.heap.objs.size f M).kindOf (C.zip O) λ_=>ag) T):Inv (io Y P w K Q o N j d f M A g s H E) [] (start N B) H T:=by
 have dH:C.length<=N.length:=by have:=congrArg pr S.pre;rw[l4]at this;lia
 obtain⟨L,tk,rfl,X⟩:=x.done;have D:∀b:af,b∉(io Y P w K Q o N j d f M A g s H E).ex:=λb z=>absurd (show b∈([]:List af)from z) (by simp);refine⟨⟨m.mod,S.kind,rfl,rfl,bB _,λy z c L l=>?_,λy F=>?_,λy c _ h=>?_,λ_=>hd,Around.frames_deeper m.frames,.inr ⟨rfl,rfl⟩,λb z=>absurd z (D b),m.bs,m.bsz,λb _ _=>D b,λb z=>absurd z (D b),m.funs,m.frf,m.tab⟩,rfl,m.bare,Un.kept X,⟨_,x.toInCall.ns,λi y v L l h3=>?_⟩,λy c h=>⟨_,x.cell y c h⟩,m.hok.fresh (bB _),λy c h=>?_,λp I=>absurd (show p∈([]:List (af×Obj))from I) (by simp),m.hok.kept X,?_⟩
 .exact name_of_addr x.apart (jT L) (jT l)
 .have F:d.names.lookup y=aa .cell\/d.names.lookup y=aa .free:=F;rcases F with F|F
  .exact zG F
  .exact absurd rfl (S.nofree _ (jT F))
 .exact nk (x.above y c (jT h))
 .have J:i<B.length:=by
   unfold start at l;by_cases J:i<B.length
   .exact J
   .rw[Cw (by simpa using J)]at l;rw[List.getElem?_replicate]at l;split at l <;> cases l
  have ha:B[i]?=aa v:=by
   unfold start at l;rw[uH (by simpa using J),fN]at l;cases e:B[i]? with
   |none=>rw[e]at l;cases l
   |some a=>rw[e]at l;cases l;rfl
  obtain⟨u,W,Z⟩:=r.get ha;have I:C[i]?=aa y:=by rw[<-S.pre,List.getElem?_take_of_lt ∅];exact L
  have G:C.Nodup:=by rw[<-S.pre];exact S.nd.sublist (List.take_sublist _ _)
  refine⟨u,Z,?_⟩;rcases S.par y (kB I)with k|k
  .exact .inl ⟨k,zN G I W k⟩
  .obtain⟨c,e⟩:=zG (n:=s.heap.objs.size+1) k;refine .inr ⟨.inl k,c,e,?_⟩;have q:=x.cell y c e;rw[Ca G I W (by show d.names.lookup y≠_;rw[k];decide)]at q;exact q
 .exact m.hok.fresh (nk (x.above y c (jT h)))
 .unfold start;show _=N.length;rw[fO,cr,List.length_replicate];lia
theorem Dr{M:fY}{P:aT}{w:aK}{K:ar}{L:Str->Option ai}{h:aB}{k:Nat}{f:af}{m d:Str}{g:Arguments}{i:List bf}{a:dD}{dV kV F pm z ct oc:ai}{an od:Option af}{X:Array (Option ai)}{N G:List Str}{O:Sp} (lk:K.lookup f=aa ⟨oc,od,.func (ik m d g i a dV kV F pm an z ct),X⟩) (br:rD K z d=ah) (S:ce N G a)(len:∀l H Q E,O l H Q E->l.length=G.length)(gM:∀(A:aV) (c:List Env) (s:ao) (H:Hp) (l:List V) (Q:VK) (E:XK),fc k (A.deeper (ix d a s.heap.objs.size f z))->O l H Q E -> ∃t,jM (io M P w K L h N d a f z A c s H E) i t/\t {nx:=λ_ p=>Q .non p,rt:=Q} (start N l) H):jC P w K L h M (k+1) f (ik m d g i a dV kV F pm an z ct) G O:=by
 refine⟨len,λA c s H args us l Q E Z D hb r gq=>?_⟩;have hl:=len _ _ _ _ gq;have KX:K.In s.heap:=D.mod.kin.keeps λb o e=>(D.bs b o e).1;have Y:s.heap.NoLimit:=D.mod.nolimit.keeps λb o e=>(D.bs b o e).1;have yI:∀y∈G.zip us,a.names.lookup y.1=aa .local\/(a.names.lookup y.1=aa .cell/\((eE (s.heap.objs.size+1) a.names []).lookup y.1).isSome=ah):=λ⟨n,v⟩ hy=>by
  rcases S.par n (rA hy).1 with q|q
  .exact .inl q
  .exact .inr ⟨q,Cv _ _ _ (.inl q)⟩
 refine codeAny_call_function Z.depth (KX _ _ lk) rfl S.co S.gen rfl (PySem.W.codeRec_of KX br) (hb _ _ _ _ ?_);refine wpAny_newFunctionEnv_cells S.kind yI λenv he s1 x=>?_;subst he;refine⟨Y.keeps x.toInCall.keep,codeAny_func ?_⟩;obtain⟨t,ht,hq⟩:=gM A c s H l Q E (Z.deeper _) gq;have I:Inv (io M P w K L h N d a f z A c s H E) [] (start N l) H s1:=Ax S Z.hd D hl r x;refine fj (ht [] s1 (start N l) H _ I hq) (λfl T B=>?_) λe T B=>B;have C:∀{j:St}{p:Hp}{v:V}{u:ai},Inv (io M P w K L h N d a f z A c s H E) [] j p T->RelV v u->Q v p->CE c P w H s Q u T :=λ{j p v u} J W q=>⟨v,p,J.os,J.bare,J.base,J.hok,W,q⟩
 cases fl with
 |ret u=>obtain⟨v,j,p,J,W,q⟩:=B;exact C J W q
 |next=>obtain⟨j,p,J,q⟩:=B;exact C (v:=V.non) (u:=Value.none) J rfl q
 |brk=>obtain⟨_,_,_,q⟩:=B;exact gj q
 |cont=>obtain⟨_,_,_,q⟩:=B;exact gj q
section
variable{X:Cx}{x:Str}{p a:Pos}{e:aA}{b:List aA}{t:TA}{c T:String}{r:List V->Hp->VK->Prop}
def Bu(r:List V->Hp->VK->Prop)(t:TA):TE:=λd H Q=>t d H λf g=>r f g Q
theorem o_(w:eI X (.builtin c) r)(u:Gl X x)(q:X.mg x=ag)(n:eD x=aa (.builtin c))(y:PA X (e::b) t)(o:x≠"__name__":=by decide)(z:(x==("__debug__":Str))=aj:=by decide)(v:aR (e::b) X.env=(aj,bi e X.env)::aR b X.env:=by rfl) (A:(cS a (aR b X.env)).any (·.1)=aj:=by rfl):PE X (.Call (.Name x p) (e::b) [] a) (Bu r t):=by intro f s d H Q I h;refine uG (ue I u q n ?_ o z);exact PyProof.Rows.callWith_builtin1 (a6 (y a f s d H _ I h) λi j ⟨g,C,B,l,m⟩=>w f j d C g i Q B l m) v A
theorem Br(w:eI X (.type T) r)(u:Gl X x)(q:X.mg x=ag)(n:eD x=aa (.type T))(y:PA X (e::b) t)(o:x≠"__name__":=by decide)(z:(x==("__debug__":Str))=aj:=by decide)(v:aR (e::b) X.env=(aj,bi e X.env)::aR b X.env:=by rfl) (A:(cS a (aR b X.env)).any (·.1)=aj:=by rfl):PE X (.Call (.Name x p) (e::b) [] a) (Bu r t):=by intro f s d H Q I h;refine uG (ue I u q n ?_ o z);exact PyProof.Rows.callWith_type1 (a6 (y a f s d H _ I h) λi j ⟨g,C,B,l,m⟩=>w f j d C g i Q B l m) v A
end
end L2
namespace HT
section
open PySem.SeqAt
open PySem.AutoSeq1 (wpAny_loadPart')
open PySem.MeetsSeq PySem.MeetsSeq2 PySem.MeetsSeq3
end
section
variable{a:aT}{w:aK}{A:aV}{E:ai->ao->Prop}{s:ao}
theorem cat_tup{t b:af}{d c:List ai}{Q:ai->ao->Prop}(B:IsTup s.heap t d.toArray)(C:IsTup s.heap b c.toArray)(u:d≠[])(F:c=[]->Q (.ref t) s) (D:c≠[]->Q (.ref s.heap.objs.size) {s with heap:=s.heap.push {cls:=.type "tuple",data:=.seq (d++c).toArray}})(l:d.length+c.length<=bj):aC (ay a w) A (ij .Add (.ref t) (.ref b)) Q E s:=by
 obtain⟨⟨cls,y,data,o⟩,j,x,n,v⟩:=id B;obtain⟨⟨z,g,m,f⟩,h,r,q,p⟩:=id C;simp only at x v r p;subst x v r p;have e:d.toArray++c.toArray=(d++c).toArray:=by simp
 by_cases i:c=[]
 .exact concat_meets ⟨_,j,rfl⟩ ⟨_,h,rfl⟩ Cy seq_tuple_add Cz CA (CB _ _)
   (tuple_addW1 t b d.toArray c.toArray n q y g o f (by simpa using u) (by simp[i])) ⟨j,h,F i⟩
 .refine concat_meets ⟨_,j,rfl⟩ ⟨_,h,rfl⟩ Cy seq_tuple_add Cz CA (CB _ _)
   (tuple_addW2 t b d.toArray c.toArray n q y g o f (by simpa using u) (by simpa using i) (by rw[cq,cq];exact l)) ⟨j,h,?_⟩
  rw[e];exact D i
def sIx(n d:Nat):Option Int->Nat
 |none=>d
 |some v=>if v<0 then(v+(n:Int)).toNat else min v.toNat n
theorem sIx_nat(n d k:Nat):sIx n d (aa (k:Int))=min k n:=by show(if(k:Int)<0 then((k:Int)+(n:Int)).toNat else min (k:Int).toNat n)=min k n;rw[if_neg ∅,uI]
theorem sIx_le(n d:Nat)(c:d<=n)(o:Option Int):sIx n d o<=n:=by
 cases o with
 |none=>exact c
 |some v=>
  show(if v<0 then(v+(n:Int)).toNat else min v.toNat n)<=n;by_cases b:v<0
  .rw[if_pos b];lia
  .rw[if_neg b];exact Nat.min_le_right _ _
theorem zA(v:Int)(n d:Nat):(if v<0 then max (v+(n:Int)) 0 else min v (n:Int))=((sIx n d (aa v):Nat):Int):=by
 show(if v<0 then max (v+(n:Int)) 0 else min v (n:Int))=(((if v<0 then(v+(n:Int)).toNat else min v.toNat n):Nat):Int)
 by_cases b:v<0
 .simp only[if_pos b];lia
 .simp only[if_neg b];lia
theorem FL(b c:Option Int)(n:Nat):CC b c 1 (n:Int)=(((sIx n 0 b:Nat):Int),((sIx n n c:Nat):Int)):=by
 have d:¬((1:Int)<0):=∅
 unfold CC;simp only[d,if_false];refine Prod.ext ?_ ?_
 .cases b with
  |none=>rfl
  |some v=>exact zA v n 0
 .cases c with
  |none=>rfl
  |some v=>exact zA v n n
theorem Il(i j:Nat):xT (i:Int) (j:Int) 1=j-i:=by
 unfold xT;have b:(1:Int) > 0:=∅
 simp only[b,if_true,Int.ediv_one];split <;> lia
theorem BR{v:ai}{o:Option Int}{Q:Option Int->ao->Prop}(p:jU v o)(h:Q o s):aC (ay a w) A (Builtin.Slice.slicePartIndex v) Q E s:=by
 cases p with
 |none=>exact slicePart_none h
 |int i t=>exact slicePart_int h
theorem Bt{i:af}{e d:ai}{b c:Option Int}{n:Nat}{Q:Int×Int×Nat->ao->Prop}(m:s.heap.IsSliceOf i e d .none)(l:jU e b)(j:jU d c)(h:Q (((sIx n 0 b:Nat):Int),1,sIx n n c-sIx n 0 b) s):aC (ay a w) A (Builtin.Slice.sliceApplied (.ref i) (pure (n:Int))) Q E s:=by
 obtain⟨p,g,o,f⟩:=id m;unfold Builtin.Slice.sliceApplied Builtin.Slice.sliceFields;refine az (az (nu g f (x:=e) rfl (az (nu g f (x:=d) rfl (az (nu g f (x:=.none) rfl (bg ?_)))))));refine az (slicePart_none ?_);show aC _ _ (if((1:Int) == 0)=ah then _ else _) _ _ s;rw[if_neg (by decide)];refine az (BR l (az (BR j (az (bg ?_)))));show aC _ _ (match CC b c 1 (n:Int)with | (b,c)=>pure (b,(1:Int),xT b c 1)) _ _ s;rw[FL b c n];show aC _ _ (pure (((sIx n 0 b:Nat):Int),(1:Int),xT ((sIx n 0 b:Nat):Int) ((sIx n n c:Nat):Int) 1)) _ _ s;rw[Il];exact bg h
theorem Hr(xs:Array ai)(i k:Nat):((cW k).filterMap λ(m:Nat)=>xs[((i:Int)+(m:Int)*1).toNat]?).toArray=((xs.toList.drop i).take k).toArray:=by
 have e:(λ(m:Nat)=>xs[((i:Int)+(m:Int)*1).toNat]?)=λm=>xs[i+m]?:=by
  funext m;have:((i:Int)+(m:Int)*1).toNat=i+m:=∅
  rw[this]
 rw[e];have:=pick_run xs i k;rw[List.filterMap_map]at this;have b:((λx=>xs[x]?) ∘ λx=>i+x)=λm=>xs[i+m]?:=rfl;rw[b]at this;rw[this]
theorem getItem_tuple_cut{t g:af}{b:Array ai}{o n:ai}{c d:Option Int}{Q:ai->ao->Prop}(f:IsTup s.heap t b)(p:s.heap.IsSliceOf g o n .none)(u:jU o c)(r:jU n d)(y:¬(sIx b.size 0 c=0/\sIx b.size b.size d=b.size))(h:Q (.ref s.heap.objs.size) {s with heap:=s.heap.push {cls:=.type "tuple",data:=.seq ((b.toList.drop (sIx b.size 0 c)).take (sIx b.size b.size d-sIx b.size 0 c)).toArray}})(z:b.size<=bj):aC (ay a w) A (pt (.ref t) (.ref g)) Q E s:=by
 have e:sizeOk (.seq ((b.toList.drop (sIx b.size 0 c)).take (sIx b.size b.size d-sIx b.size 0 c)).toArray):=by show((b.toList.drop (sIx b.size 0 c)).take (sIx b.size b.size d-sIx b.size 0 c)).toArray.size<=bj;rw[cq,l4,pA,i7];lia
 have F:sIx b.size b.size d<=b.size:=sIx_le _ _ (bB _) d;obtain⟨v,x,j,B⟩:=id p;have l:s.TypeIs (.ref g) "slice":=⟨v,x,j⟩
 unfold pt
 try with_reducible refine kx ?_
 first|refine az (bg ?_)|skip
 refine az (wpAny_sequenceKey f.typeIs (by decide) ?_);refine az (xU (name:=xV "__getitem__") f.typeIs xW (pB xW f.typeIs entry_tuple_getitem ?_ (args_tuple_getitem _ _)));show aC _ _ (Builtin.Tuple.tupleItemsOf (.ref t) >>= _) _ _ s;refine az (tupleItemsOf_ f ?_);refine az (wpAny_typeOf l ?_);rw[if_pos (by decide)];refine az (Bt p u r ?_);have i:¬((((sIx b.size 0 c:Nat):Int) == 0&&(1:Int) == 1&&(sIx b.size b.size d-sIx b.size 0 c) == b.size)=ah):=by intro q;rw[fP,fP]at q;have D:((sIx b.size 0 c:Nat):Int)=0:=eq_of_beq q.1.1;have C:sIx b.size b.size d-sIx b.size 0 c=b.size:=eq_of_beq q.2;exact y ⟨∅,∅⟩
 show aC _ _ (if(((sIx b.size 0 c:Nat):Int) == 0&&(1:Int) == 1&&(sIx b.size b.size d-sIx b.size 0 c) == b.size)=ah then _ else _) _ _ s;rw[if_neg i,Hr]
 first
  |exact az (m:=xX _) (l5 (bg ⟨_,rfl,bg h⟩) e)
  |exact az (m:=xX _) (l5 (az (bg (bg ⟨_,rfl,bg h⟩))) e)
  |exact az (az (m:=xX _) (l5 (bg (bg ⟨_,rfl,bg h⟩)) e))
  |exact az (az (m:=xX _) (l5 (bg ⟨_,rfl,bg h⟩) e))
end
end HT
namespace L2
abbrev TO:=St->Hp->(Option Int->Hp->Prop)->Prop
def PO(X:Cx)(e:Option aA)(t:TO):Prop :=
 ∀(b:List (af×Obj)) (s:ao) (a:St) (H:Hp) (Q:Option Int->Hp->Prop),Inv X b a H s->t a H Q ->
  aC (ay X.prog X.w) X.A (evalPart e X.env) (λu d=>∃o c,Inv X b a c d/\jU u o/\Q o c) X.xe s
def Jy:TO:=λ_ H Q=>Q ag H
def Fb(t:TE):TO:=λa H Q=>t a H λx b=>∃i,x=.int i/\Q (aa i) b
section
variable{X:Cx}{e:aA}{f:TE}{c d:Option aA}{g j:TO}{n m:Pos}
theorem Gk:PO X ag Jy:=by intro b s a H Q I h;rw[evalPart_none];exact bg ⟨ag,H,I,.none,h⟩
theorem Hw(h:PE X e f):PO X (aa e) (Fb f):=by intro p s a H Q I o;rw[evalPart_some];refine a6 (h p s a H _ I o) λu w ⟨x,v,r,b,l⟩=>?_;obtain⟨i,rfl,q⟩:=l;obtain⟨t,rfl⟩:=b;exact⟨aa i,v,r,.int i t,q⟩
def jE(X:Cx)(r:V->Option Int->Option Int->Hp->VK->Prop):Prop :=
 ∀(l:List (af×Obj)) (s:ao) (a:St) (H:Hp) (x:V) (v h b:ai) (c d:Option Int) (i:af) (Q:VK),Inv X l a H s->RelV x v->s.heap.IsSliceOf i h b .none->jU h c->jU b d->r x c d H Q ->
  ∃T o,typeLookup (.type T) "__getitem__"=pure (aa (.builtin o))/\s.TypeIs v T/\aC (ay X.prog X.w) X.A (pt v (.ref i)) (EP X l a Q) X.xe s
theorem jE.or{r p:V->Option Int->Option Int->Hp->VK->Prop}(h:jE X r)(A:jE X p):jE X (λx c d H Q=>r x c d H Q\/p x c d H Q):=by
 intro z s a H x v i b c d l Q I o y w u q;rcases q with q|q
 .exact h z s a H x v i b c d l Q I o y w u q
 .exact A z s a H x v i b c d l Q I o y w u q
def IF(r:V->Option Int->Option Int->Hp->VK->Prop)(f:TE)(g j:TO):TE:=λa H Q=>f a H λx i=>g a i λl h=>j a h λu b=>r x l u b Q
theorem GU{r:V->Option Int->Option Int->Hp->VK->Prop}(L:jE X r)(O:PE X e f)(M:PO X c g)(J:PO X d j):PE X (.Subscript e (.Slice c d ag m) n) (IF r f g j):=by intro o s i H Q I h;refine Subscript_ (a6 (O o s i H _ I h) λv A ⟨x,H1,Z,B,E⟩=>?_);refine wpAny_Slice (a6 (M o A i H1 _ Z E) λw z ⟨l,H2,Y,G,D⟩=>a6 (J o z i H2 _ Y D) λp a ⟨u,y,W,F,C⟩=>?_);rw[evalPart_none];refine bg ?_;have S:Inv X o i y {a with heap:=a.heap.push {cls:=.type "slice",data:=.fields #[w,p,.none]}}:=W.kept (t':=a.toks) λb ob q=>dE _ q;obtain⟨T,id,P,K,N⟩:=L o {a with heap:=a.heap.push {cls:=.type "slice",data:=.fields #[w,p,.none]}} i y x v w p l u a.heap.objs.size Q S B (Heap.IsSliceOf.new ..) G F C;show aC (ay X.prog X.w) X.A (subscriptTail e (.Slice c d ag m) v (.ref a.heap.objs.size)) (EP X o i Q) X.xe {a with heap:=a.heap.push {cls:=.type "slice",data:=.fields #[w,p,.none]}};exact tail_any (ops:=[.ref a.heap.objs.size,v]) K P N (by with_unfolding_all rfl)
def lI(xs:List V)(c d:Option Int):List V:=(xs.drop (HT.sIx xs.length 0 c)).take (HT.sIx xs.length xs.length d-HT.sIx xs.length 0 c)
theorem zy(xs:List V)(c d:Option Int):(lI xs c d).length<=xs.length:=by unfold lI;rw[l4,pA];lia
def Bh(K:ar):V->Option Int->Option Int->Hp->VK->Prop:=λx c d H Q=>∃a xs,x=.ref a/\cf K H a xs /\
 ¬(HT.sIx xs.length 0 c=0/\HT.sIx xs.length xs.length d=xs.length)/\∀p,H p=ag->Q (.ref p) (upd H p (.tup (lI xs c d)))
theorem FW:jE X (Bh X.K):=by
 intro K s D H x v F E c d G Q I w C z y h;obtain⟨a,xs,rfl,A,B,q⟩:=h;cases w;obtain⟨i,r,u,p⟩:=I.tuple A;have l:i.toArray.size=xs.length:=by rw[cq];exact r.length.symm
 refine⟨"tuple",_,PyProof.Rows.slot_tuple_getitem.lookup,u.typeIs,?_⟩;refine HT.getItem_tuple_cut u C z y (by rw[l];exact B) ?_ (by rw[l];exact p);rw[l];refine⟨.ref s.heap.objs.size,_,I.laid (t':=s.toks) (o:=.tup (lI xs c d)) (λb J q=>dE _ q) (bB _) ?_,rfl,q _ (I.hok.fresh (bB _))⟩;exact⟨cK (zy xs c d) p,_,(r.drop (HT.sIx xs.length 0 c)).take (HT.sIx xs.length xs.length d-HT.sIx xs.length 0 c),Co.new _ _⟩
def zU(K:ar):R2:=λx y H Q=>∃a b xs h,x=.ref a/\y=.ref b/\cf K H a xs/\cf K H b h/\xs≠[]/\xs.length+h.length<=bj /\
 (h=[]->Q (.ref a) H)/\(h≠[]->∀p,H p=ag->Q (.ref p) (upd H p (.tup (xs++h))))
theorem bv.nil_iff{xs:List V}{a:List ai}(r:bv xs a):a=[]↔xs=[]:=by
 cases r with
 |nil=>simp
 |cons _ _=>simp
theorem Lo:bH X (ij .Add) (zU X.K):=by
 intro O s M H x y v u Q I C B h;obtain⟨a,b,xs,A,rfl,rfl,L,K,J,r,E,D⟩:=h;cases C;cases B;obtain⟨G,l,F,_⟩:=I.tuple L;obtain⟨p,i,m,_⟩:=I.tuple K;refine HT.cat_tup F m (λz=>J (l.nil_iff.mp z)) (λz=>⟨.ref a,H,I,rfl,E (i.nil_iff.mp z)⟩) (λz=>?_) (by rw[<-l.length,<-i.length];exact r);refine⟨.ref s.heap.objs.size,_,I.laid (t':=s.toks) (o:=.tup (xs++A)) (λb N q=>dE _ q) (bB _) ?_,rfl,D (λw=>z (i.nil_iff.mpr w)) _ (I.hok.fresh (bB _))⟩;exact⟨by rw[fO];exact r,_,l.append i,Co.new _ _⟩
end
def fE(n:Nat)(i:Int):Option Nat:=if 0<=i then(if i<n then aa i.toNat else ag)else if -(n:Int)<=i then aa (i+n).toNat else ag
def eK{a:Type}(xs:List a)(i:Int):Option a:=(fE xs.length i).bind λj=>xs[j]?
theorem vK{n:Nat}{i:Int}{j:Nat}(h:fE n i=aa j):seqIndex? i n=aa j/\j<n/\-(n:Int)<=i/\i<n:=by
 unfold fE at h;by_cases b:0<=i
 .rw[if_pos b]at h;by_cases a:i<n
  .rw[if_pos a]at h;have e:i.toNat=j:=cp h;exact⟨by rw[seqIndex_of b a,e],∅,∅,a⟩
  .rw[if_neg a]at h;cases h
 .rw[if_neg b]at h;by_cases a:-(n:Int)<=i
  .rw[if_pos a]at h;have e:(i+n).toNat=j:=cp h;exact⟨by rw[seqIndex_neg ∅ a,e],∅,a,∅⟩
  .rw[if_neg a]at h;cases h
theorem vA{a:Type}{xs:List a}{i:Int}{v:a}(h:eK xs i=aa v):∃j,seqIndex? i xs.length=aa j/\xs[j]?=aa v/\j<xs.length/\-(xs.length:Int)<=i/\i<xs.length:=by
 unfold eK at h;cases e:fE xs.length i with
 |none=>rw[e]at h;cases h
 |some j=>rw[e]at h;obtain⟨f,d,c,b⟩:=vK e;exact⟨j,f,h,d,c,b⟩
theorem IN{a:Type}{xs:List a}{j:Nat}{v:a}(h:xs[j]?=aa v):eK xs (j:Int)=aa v:=by
 have b:j<xs.length:=(bY.mp h).1;have e:fE xs.length (j:Int)=aa j:=by unfold fE;rw[if_pos ∅,if_pos ∅];simp
 unfold eK;rw[e];exact h
def tL(b:aA):Prop:=∀o i,subscripted b aj o i=operate [o,i] (pt o i)
def ka(X:Cx)(r:R2):Prop :=
 ∀(b a:aA) (d:List (af×Obj)) (s:ao) (c:St) (H:Hp) (x y:V) (v u:ai) (Q:VK),Inv X d c H s->RelV x v->RelV y u->r x y H Q ->
  subscripted a aj v u=operate [v,u] (pt v u)->aC (ay X.prog X.w) X.A (subscriptTail b a v u) (EP X d c Q) X.xe s
def uy(X:Cx)(d:String)(r:V->List V->Hp->VK->Prop):Prop :=
 ∀(c:List (af×Obj)) (s:ao) (a:St) (H:Hp) (x:V) (xs:List V) (v:ai) (b:List ai) (Q:VK),Inv X c a H s->RelV x v->bv xs b->r x xs H Q ->
  aC (ay X.prog X.w) X.A (call (.builtin d) (v::b)) (EP X c a Q) X.xe s
section
variable{X:Cx}{a b:aA}{F E:TE}{D:Pos}
theorem ka.or{r i:R2}(h:ka X r)(m:ka X i):ka X (λx y H Q=>r x y H Q\/i x y H Q):=by
 intro c d l s e H x y v u Q I g f q j;rcases q with q|q
 .exact h c d l s e H x y v u Q I g f q j
 .exact m c d l s e H x y v u Q I g f q j
theorem v5{r:R2}(i:ka X r)(l:PE X a F)(j:PE X b E)(g:tL b):PE X (.Subscript a b D) (sS r F E):=by intro m s c H Q I h;exact Subscript_ (xt l j I h λv u d x y o n f e q=>i a b m d c o x y v u Q n f e q (g _ _))
def A_(K:ar):R2:=λx y H Q=>∃p xs i v,x=.ref p/\y=.int i/\b7 K H p xs/\eK xs i=aa v/\Q v H
def y6(K:ar):R2:=λx y H Q=>∃p xs i v,x=.ref p/\y=.int i/\cf K H p xs/\eK xs i=aa v/\Q v H
def zk:R2:=λx y H Q=>∃z i c,x=.str z/\y=.int i/\z.length<=bj/\eK z.cps.toList i=aa c/\Q (.str ⟨#[c]⟩) H
theorem Lr:ka X (A_ X.K):=by
 intro e f G s o H x y v u Q I L K h A;obtain⟨p,xs,i,z,rfl,rfl,M,O,q⟩:=h;cases L;obtain⟨t,rfl⟩:=K;obtain⟨m,r,l,W⟩:=I.list M;obtain⟨j,d,T,Z,S,P⟩:=vA O;obtain⟨w,C,g⟩:=r.get T;have N:=r.length;have Y:=oG;have c:EP X G o Q w s:=⟨z,H,I,g,q⟩
 by_cases B:0<=i
 .have n:i.toNat=j:=by
   rw[seqIndex_of B P]at d;exact cp d
  exact item_listR l.isList B ∅ (by rw[n];simpa using C) c A
 .have n:(i+(m.toArray.size:Int)).toNat=j:=by
   rw[seqIndex_neg ∅ S]at d;rw[cq,<-N];exact cp d
  exact subscriptTail_builtinR (x:=w) l.isList.typeIs slot_list_getitem.lookup
   (wpAny_getItem_list_neg (Q:=λr J=>r=w/\EP X G o Q r J) l.isList ∅ (by rw[cq] <;> lia) ∅ (by rw[n];simpa using C) ⟨rfl,c⟩) A
theorem Ly:ka X (y6 X.K):=by
 intro c d m s g H x y v u Q I A o h C;obtain⟨p,xs,i,z,rfl,rfl,G,K,q⟩:=h;cases A;obtain⟨t,rfl⟩:=o;obtain⟨B,r,l,O⟩:=I.tuple G;obtain⟨j,M,L,W,T,S⟩:=vA K;obtain⟨w,N,e⟩:=r.get L;have J:=r.length;have P:=oG;have f:EP X m g Q w s:=⟨z,H,I,e,q⟩
 exact subscriptTail_builtinR (x:=w) l.typeIs slot_tuple_getitem.lookup
  (getItem_tuple (j:=j) (Q:=λr n=>r=w/\EP X m g Q r n) l ∅ ∅ (by rw[cq,<-J];exact M) (by simpa using N) ⟨rfl,f⟩) C
theorem ix_str:ka X zk:=by
 intro d e M s C H x y v u Q I l g h m;obtain⟨z,i,c,rfl,rfl,J,o,q⟩:=h;obtain⟨t,rfl⟩:=l;obtain⟨G,rfl⟩:=g;obtain⟨j,f,w,L,r,p⟩:=vA o;have n:z.cps.toList.length=z.length:=by simp[Str.length]
 rw[n]at f r p;have K:=oG;exact tail_any (typeIs_str s z t) slot_str_getitem.lookup (getItem_str (c:=c) (by have B:decide (i < -(2^63:Int))=aj:=decide_eq_false ∅;have A:decide (i ≥ 2^63)=aj:=decide_eq_false ∅;rw[B,A,Bool.or_false]) (by rw[f];simpa using w) ⟨.str ⟨#[c]⟩,H,I.tok _,⟨_,rfl⟩,q⟩) m
def BC(K:ar):R2:=λx y H Q=>A_ K x y H Q\/y6 K x y H Q\/zk x y H Q
theorem cV:ka X (BC X.K):=Lr.or (Ly.or ix_str)
theorem EY(c:List ai)(n j:Nat)(u:ai):ll (·.setIfInBounds j u) {cls:=.type "list",data:=.seq c.toArray n}={cls:=.type "list",data:=.seq (c.set j u).toArray n}:=by simp[ll]
theorem Inv.lst{d:List (af×Obj)}{c:St}{H:Hp}{s:ao}{p:af}{xs:List V}(I:Inv X d c H s)(h:H p=aa (.lst xs)):∃(its:List ai) (n:Nat),bv xs its/\s.heap.get? p=aa {cls:=.type "list",data:=.seq its.toArray n}/\xs.length<=bj:=by obtain⟨z,its,n,r,e⟩:=I.hok p _ h;exact⟨its,n,r,e,z⟩
theorem Inv.lstUpd{m:List (af×Obj)}{j:St}{H:Hp}{s:ao}{p:af}{xs g:List V}{d c:List ai}{n i:Nat}{f:Obj->Obj}(I:Inv X m j H s)(h:H p=aa (.lst xs))(v:s.heap.get? p=aa {cls:=.type "list",data:=.seq d.toArray n}) (l:f {cls:=.type "list",data:=.seq d.toArray n}={cls:=.type "list",data:=.seq c.toArray i}) (r:bv g c) (o:g.length<=bj) (t:Nat):Inv X m j (upd H p (.lst g)) {s with heap:=s.heap.update p f,toks:=t}:=by
 have e:(s.heap.update p f).get? p=aa {cls:=.type "list",data:=.seq c.toArray i}:=by rw[rE f v (by rw[l] <;> rfl),l]
 refine I.write (x:=p) (e:=p) (by rw[h];trivial) (.inl rfl) (λb u w q=>(l6 _ _ (cX w)).trans q) ⟨_,e⟩ ?_;exact⟨o,c,i,r,e⟩
def Eg:V->V->V->Hp->(Hp->Prop)->Prop:=λo i v H Q=>∃p xs k j,o=.ref p/\i=.int k/\H p=aa (.lst xs)/\fE xs.length k=aa j/\Q (upd H p (.lst (xs.set j v)))
theorem BX:Bd X Eg:=by
 intro K s z H o i v L M u Q I B C A h;obtain⟨p,xs,k,j,rfl,rfl,l,J,q⟩:=h;cases B;obtain⟨t,rfl⟩:=C;obtain⟨c,n,r,e,G⟩:=I.lst l;obtain⟨d,O,w,m⟩:=vK J;have f:=r.length;have N:=oG;have y:Inv X K z (upd H p (.lst (xs.set j v))) {s with heap:=s.heap.update p (ll (·.setIfInBounds j u))} :=I.lstUpd l e (EY c n j u) (r.set A j) (by rw[dX];exact G) s.toks;by_cases x:0<=k
 .have g:k.toNat=j:=by
   rw[seqIndex_of x m]at d;exact cp d
  exact PySem.W.ki_setAt e x ∅ (by rw[cq,<-f];exact m) (by rw[g];exact⟨_,y,q⟩)
 .have g:(k+(c.toArray.size:Int)).toNat=j:=by
   rw[seqIndex_neg ∅ w]at d;rw[cq,<-f];exact cp d
  exact PySem.W.ki_setBack e ∅ (by rw[cq,<-f];exact w) ∅ (by rw[g];exact⟨_,y,q⟩)
theorem HE(c d:Option Int)(n:Nat):(pC c d ag n).1=((HT.sIx n 0 c:Nat):Int)/\(pC c d ag n).2.1=((HT.sIx n n d:Nat):Int)/\(pC c d ag n).2.2=1:=by
 refine⟨?_,?_,rfl⟩
 .cases c with
  |none=>simp[pC,HT.sIx]
  |some i=>
   simp only[pC,HT.sIx,CD,show(1:Int) > 0 by decide,if_true];by_cases h:i<0
   .simp only[h,if_true] <;> lia
   .simp only[h,if_false] <;> lia
 .cases d with
  |none=>simp[pC,HT.sIx]
  |some i=>
   simp only[pC,HT.sIx,CD,show(1:Int) > 0 by decide,if_true];by_cases h:i<0
   .simp only[h,if_true] <;> lia
   .simp only[h,if_false] <;> lia
theorem Ei(c:List ai)(d e:Option Int):slicePick c.toArray d e ag=((c.drop (HT.sIx c.length 0 d)).take (HT.sIx c.length c.length e-HT.sIx c.length 0 d)).toArray:=by obtain⟨h,g,f⟩:=HE d e c.toArray.size;unfold slicePick;rw[h,g,f];simp only[sliceRange_one,pick_run,cq] <;> rfl
def Am(K:ar):V->Option Int->Option Int->Hp->VK->Prop:=λx c d H Q=>∃a xs,x=.ref a/\b7 K H a xs/\∀p,H p=ag->Q (.ref p) (upd H p (.lst (lI xs c d)))
theorem Lm:jE X (Am X.K):=by
 intro B s u H x v y w c d z Q I f n i g h;obtain⟨a,xs,rfl,m,q⟩:=h;cases f;obtain⟨j,r,e,l⟩:=I.list m;have p:=r.length;refine⟨"list",_,slot_list_getitem.lookup,e.isList.typeIs,?_⟩;refine wpAny_getItem_list_slice e.isList n i g .none (by simp) ?_ (by rw[cq] <;> lia);rw[Ei,<-p];refine⟨.ref s.heap.objs.size,_,I.laid (t':=s.toks) (o:=.lst (lI xs c d)) (λb A q=>dE _ q) (bB _) ?_,rfl,q _ (I.hok.fresh (bB _))⟩;exact⟨cK (zy xs c d) l,_,0,(r.drop (HT.sIx xs.length 0 c)).take (HT.sIx xs.length xs.length d-HT.sIx xs.length 0 c),fL _ rfl⟩
def fF:V->Bool
 |.non=>ah
 |.bl _=>ah
 |.int _=>ah
 |.str _=>ah
 |_=>aj
def dS:V->V->Bool
 |.non,.non=>ah
 |.bl a,.bl b=>a == b
 |.bl a,.int b=>(if a then 1 else 0) == b
 |.int a,.bl b=>a == (if b then 1 else 0)
 |.int a,.int b=>a == b
 |.str a,.str b=>a == b
 |_,_=>aj
theorem An{A:aV}{s:ao}{y x:V}{u v:ai}(e:RelV y u)(c:RelV x v)(g:fF y=ah)(f:fF x=ah):rF A s u v (dS y x):=by
 cases y with
 |non=>
  cases e;cases x with
  |non=>cases c;exact SeqAt.EqAt.same _
  |bl b=>cases c;exact SeqAt.EqAt.none_bool b
  |int b=>obtain⟨t,rfl⟩:=c;exact SeqAt.EqAt.none_int b t
  |str b=>obtain⟨t,rfl⟩:=c;exact SeqAt.EqAt.none_str b t
  |_=>exact absurd (show aj=ah from f) eh
 |bl a=>
  cases e;cases x with
  |non=>cases c;exact SeqAt.EqAt.bool_none a
  |bl b=>cases c;exact SeqAt.EqAt.bool_bool a b
  |int b=>obtain⟨t,rfl⟩:=c;exact SeqAt.EqAt.bool_int a b t
  |str b=>obtain⟨t,rfl⟩:=c;exact SeqAt.EqAt.bool_str a b t
  |_=>exact absurd (show aj=ah from f) eh
 |int a=>
  obtain⟨d,rfl⟩:=e;cases x with
  |non=>cases c;exact SeqAt.EqAt.int_none a d
  |bl b=>cases c;exact SeqAt.EqAt.int_bool a d b
  |int b=>obtain⟨t,rfl⟩:=c;exact SeqAt.EqAt.int_int a d b t
  |str b=>obtain⟨t,rfl⟩:=c;exact SeqAt.EqAt.int_str a d b t
  |_=>exact absurd (show aj=ah from f) eh
 |str a=>
  obtain⟨d,rfl⟩:=e;cases x with
  |non=>cases c;exact SeqAt.EqAt.str_none a d
  |bl b=>cases c;exact SeqAt.EqAt.str_bool a d b
  |int b=>obtain⟨t,rfl⟩:=c;exact SeqAt.EqAt.str_int a d b t
  |str b=>obtain⟨t,rfl⟩:=c;exact SeqAt.EqAt.str_str a d b t
  |_=>exact absurd (show aj=ah from f) eh
 |_=>exact absurd (show aj=ah from g) eh
def fG(x:V)(u:ai):Bool:=match u with
 |.none=>dS .non x
 |.bool b=>dS (.bl b) x
 |.int i _=>dS (.int i) x
 |.str z _=>dS (.str z) x
 |_=>aj
theorem sX{x y:V}{u:ai}(r:RelV y u)(f:fF y=ah):fG x u=dS y x:=by
 cases y with
 |non=>cases r;rfl
 |bl b=>cases r;rfl
 |int i=>obtain⟨t,rfl⟩:=r;rfl
 |str z=>obtain⟨t,rfl⟩:=r;rfl
 |_=>exact absurd (show aj=ah from f) eh
theorem qC{x:V}:∀{xs:List V}{c:List ai},bv xs c->xs.all fF=ah->c.any (fG x)=xs.any λy=>dS y x
 |_,_,.nil,_=>rfl
 |y::xs,u::c,.cons r t,f=>by rw[lm,fP]at f;rw[l7,l7,sX r f.1,qC t f.2]
theorem mz{A:aV}{s:ao}{x:V}{v:ai}(e:RelV x v)(g:fF x=ah):∀{xs:List V}{d:List ai},bv xs d->xs.all fF=ah->∀u∈d,rF A s u v (fG x u)
 |_,_,.nil,_=>λu c=>by cases c
 |y::xs,u::d,.cons r t,f=>λh c=>by
  rw[lm,fP]at f;rcases dm.mp c with rfl|c
  .rw[sX r f.1];exact An r e f.1 g
  .exact mz e g t f.2 h c
def ji(x:V)(xs:List V):Bool:=xs.any λy=>dS y x
def qB(K:ar)(c:Bool):R2:=λx y H Q=>∃p xs,y=.ref p/\(b7 K H p xs\/cf K H p xs)/\fF x=ah/\xs.all fF=ah/\Q (.bl (if c then !ji x xs else ji x xs)) H
theorem JA:bH X (dP .In) (qB X.K aj):=by
 intro n s m H x y v u Q I g j h;obtain⟨p,xs,rfl,d,i,fs,q⟩:=h;cases j;rcases d with d|d
 .obtain⟨c,r,e,l⟩:=I.list d;refine SeqAt.in_listAt (fG x) e.isList (λw f=>mz g i r fs w (by simpa using f)) ⟨.bl _,H,I,rfl,?_⟩;rw[show c.toArray.any (fG x)=c.any (fG x) by simp,qC r fs];exact q
 .obtain⟨c,r,e,l⟩:=I.tuple d;refine SeqAt.in_tupleAt (fG x) e (λw f=>mz g i r fs w (by simpa using f)) ⟨.bl _,H,I,rfl,?_⟩;rw[show c.toArray.any (fG x)=c.any (fG x) by simp,qC r fs];exact q
theorem DP:bH X (dP .NotIn) (qB X.K ah):=by
 intro n s m H x y v u Q I g j h;obtain⟨p,xs,rfl,d,i,fs,q⟩:=h;cases j;rcases d with d|d
 .obtain⟨c,r,e,l⟩:=I.list d;refine SeqAt.notIn_listAt (fG x) e.isList (λw f=>mz g i r fs w (by simpa using f)) ⟨.bl _,H,I,rfl,?_⟩;rw[show c.toArray.any (fG x)=c.any (fG x) by simp,qC r fs];exact q
 .obtain⟨c,r,e,l⟩:=I.tuple d;refine SeqAt.notIn_tupleAt (fG x) e (λw f=>mz g i r fs w (by simpa using f)) ⟨.bl _,H,I,rfl,?_⟩;rw[show c.toArray.any (fG x)=c.any (fG x) by simp,qC r fs];exact q
theorem Lz:bH X (dP .NotIn) (λx y H Q=>∃i j,x=.str i/\y=.str j/\Q (.bl (!(!(uD j i 0 j.length 1).isEmpty))) H):=by intro g s e H x y v u Q I d c h;obtain⟨i,j,rfl,rfl,q⟩:=h;obtain⟨t,rfl⟩:=d;obtain⟨f,rfl⟩:=c;exact notIn_str ⟨.bl _,H,I,rfl,q⟩
theorem eI.or{f:ai}{r g:List V->Hp->VK->Prop}(h:eI X f r)(j:eI X f g):eI X f (λxs H Q=>r xs H Q\/g xs H Q):=by
 intro i s c H xs d Q I e q;rcases q with q|q
 .exact h i s c H xs d Q I e q
 .exact j i s c H xs d Q I e q
theorem xD:eI X (.type "list") (λxs H Q=>∃p f,xs=[.ref p]/\(b7 X.K H p f\/cf X.K H p f)/\∀l,H l=ag->Q (.ref l) (upd H l (.lst f))):=by
 intro K s C H xs L Q I r h;obtain⟨p,f,rfl,v,q⟩:=h;obtain⟨u,rfl,G⟩:=vals1 r;cases G;have w:∀(c:List ai),bv f c->f.length<=bj->∀(d:aB) (i:Nat),(∀b B,s.heap.get? b=aa B->d.get? b=aa B) ->
   d.get? s.heap.objs.size=aa {cls:=.type "list",dict:=ag,data:=.seq c.toArray i,slots:=#[]}->EP X K C Q (.ref s.heap.objs.size) {s with heap:=d}:=λc g m d i j e=>
  ⟨.ref s.heap.objs.size,_,I.laid (t':=s.toks) j (bB _) (show bZ X.prog X.w _ d _ (.lst f)from⟨m,c,i,g,e⟩),rfl,q _ (I.hok.fresh (bB _))⟩
 rcases v with v|v
 .obtain⟨c,g,x,m⟩:=I.list v;have J:=g.length;obtain⟨o,y,A,n,z⟩:=x.isList;exact call_list_seq p (.inl rfl) y A z (λd i j e=>w c g m d i j e) (by simp only[cq] <;> lia)
 .obtain⟨c,g,x,m⟩:=I.tuple v;have J:=g.length;obtain⟨o,y,A,n,z⟩:=x;exact call_list_seq p (.inr rfl) y A z (λd i j e=>w c g m d i j e) (by simp only[cq] <;> lia)
theorem o5:eI X (.type "tuple") (λxs H Q=>∃p d,xs=[.ref p]/\((b7 X.K H p d/\∀l,H l=ag->Q (.ref l) (upd H l (.tup d)))\/(cf X.K H p d/\Q (.ref p) H))):=by
 intro n s j H xs z Q I r h;obtain⟨p,d,rfl,h⟩:=h;obtain⟨u,rfl,w⟩:=vals1 r;cases w;rcases h with⟨hq,q⟩|⟨hq,q⟩
 .obtain⟨c,g,i,m⟩:=I.list hq;have A:=g.length;refine call_tuple_list i.isList (λf x=>?_) (by simp only[cq] <;> lia);have v:Inv X n j H {s with heap:=f}:=I.kept (t':=s.toks) x;have y:Inv X n j (upd H f.objs.size (.tup d)) {s with heap:=f.push {cls:=.type "tuple",data:=.seq c.toArray}} :=v.laid (t':=s.toks) (λb o e=>dE _ e) (bB _) (show bZ X.prog X.w _ _ _ (.tup d)from⟨m,c,g,Co.new _ _⟩);exact⟨.ref f.objs.size,_,y,rfl,q _ (v.hok.fresh (bB _))⟩
 .obtain⟨c,g,i,m⟩:=I.tuple hq;exact call_tuple_same i ⟨.ref p,H,I,rfl,q⟩
def B8(K:ar)(T:String)(x:V)(H:Hp):Prop:=match x with
 |.str _=>T = "str"
 |.int _=>T = "int"
 |.ref p=>(T = "list"/\∃xs,b7 K H p xs)\/(T = "tuple"/\∃o,K.lookup p=aa o/\o.cls=.type "tuple"/\o.dict=ag) \/
   (T = "dict"/\((∃c,H p=aa (.dK c))\/∃c,H p=aa (.dT c)))\/(T = "set"/\∃S n,H p=aa (.set S n))
 |_=>False
theorem Fl{q:List (af×Obj)}{l:St}{H:Hp}{s:ao}{T:String}{x:V}{v:ai}(I:Inv X q l H s)(r:RelV x v)(ty:B8 X.K T x H):s.TypeIs v T/\∀a,v=.ref a->∃j,s.heap.get? a=aa j/\j.dict=ag:=by
 cases x with
 |str z=>
  obtain⟨t,rfl⟩:=r;cases (show T = "str" from ty);exact⟨typeIs_str s z t,λ_ e=>nomatch e⟩
 |int i=>
  obtain⟨t,rfl⟩:=r;cases (show T = "int" from ty);exact⟨typeIs_int s i t,λ_ e=>nomatch e⟩
 |ref p=>
  cases r;rcases ty with⟨rfl,xs,hq⟩|⟨rfl,o,hk,hc,f⟩|⟨rfl,hk⟩|⟨rfl,S,n,hk⟩
  .obtain⟨m,_,h,_⟩:=I.list hq;refine⟨h.isList.typeIs,λa e=>?_⟩;cases e;obtain⟨o,n,e,c,f,_⟩:=h;exact⟨o,e,f⟩
  .refine⟨⟨o,I.kIn p o hk,hc⟩,λa e=>?_⟩;cases e;exact⟨o,I.kIn _ o hk,f⟩
  .have z:∃o,s.heap.get? p=aa o/\o.ExactDict:=by
    rcases hk with⟨kvs,hk⟩|⟨kvs,hk⟩
    .obtain⟨_,_,_,_,o,_,_,e,d,_⟩:=I.hok p _ hk;exact⟨o,e,d⟩
    .obtain⟨_,_,_,_,o,_,_,e,d,_⟩:=I.hok p _ hk;exact⟨o,e,d⟩
   obtain⟨o,e,d⟩:=z;refine⟨⟨o,e,d.1⟩,λa g=>?_⟩;cases g;exact⟨o,e,d.2.1⟩
  .obtain⟨o,_,_,_,e,d,_⟩:=I.hok p _ hk;refine⟨⟨o,e,d.1⟩,λa g=>?_⟩;cases g;exact⟨o,e,d.2.1⟩
 |_=>exact gj ty
def E8(K:ar)(T:String)(r:V->List V->Hp->VK->Prop)(B:TE)(t:TA):TE:=λc H Q=>B c H λx d=>B8 K T x d/\t c d λxs e=>r x xs e Q
variable{o e:aA}{es:List aA}{B:TE}{t:TA}{g:Str}{m d:Pos}{T C:String}{r:V->List V->Hp->VK->Prop}
theorem qW(M:PlainAttrs T)(c:Slot T g C)(N:typeOf (.builtin C)=pure (.type "method_descriptor"))(S:uy X C r)(P:PE X o B)(W:PA X (e::es) t)(u:pD o g X.env (bi o X.env)=bi o X.env:=by rfl)(p:((cS d (aR (e::es) X.env)).all (λx=>!x.1)&&(pE d (pF [] X.env)).all (λx=>x.1.isSome)&&decide ((e::es).length+([]:List ja).length+(if([]:List ja).isEmpty then 0 else 1)<30))=ah:=by rfl)(q:(m.endLine == d.line)=ah:=by rfl) (O:aR (e::es) X.env=(aj,bi e X.env)::aR es X.env:=by rfl) (w:(cS d (aR es X.env)).any (·.1)=aj:=by rfl):PE X (.Call (.Attribute o g m) (e::es) [] d) (E8 X.K T r B t):=by intro i s f H Q I h;refine wpAny_Call_method_late u p q rfl (a6 (P i s f H _ I h) λv G ⟨x,H1,n,j,ty,L⟩=>?_);obtain⟨Z,Y⟩:=Fl n j ty;refine⟨T,C,M,c,N,Z,Y,?_⟩;have l:=W d i G f H1 _ n L;rw[O]at l ⊢;refine Calls.callWith_builtin (by show(aj||(cS d (aR es X.env)).any (·.1))=aj;rw[w] <;> rfl) (Calls.evalArgs_plain ?_);exact a6 l λz A ⟨y,H2,I2,J,K⟩=>S i A f H2 x y v z Q I2 j J K
end
def ux(X:Cx)(d:String)(r:V->List V->Hp->VK->Prop):Prop :=
 ∀(c:List (af×Obj)) (s:ao) (a:St) (H:Hp) (x:V) (xs:List V) (v:ai) (b:List ai) (Q:VK),Inv X c a H s->RelV x v->bv xs b->r x xs H Q ->
  aC (ay X.prog X.w) X.A (call (.builtin d) (v::b)) (EP X c a Q) X.xe s
theorem bv.one:∀{x:V}{a:List ai},bv [x] a->∃u,a=[u]/\RelV x u
 |_,_,.cons r .nil=>⟨_,rfl,r⟩
section
variable{X:Cx}{d:List (af×Obj)}{a:St}{H:Hp}{s:ao}{l b:af}{g c i:List V}
theorem Inv.lset{h its':List ai}{n:Nat}{f:Array ai->Array ai}{j:Nat}(I:Inv X d a H s)(w:H l=aa (.lst g))(e:s.heap.get? l=aa {cls:=.type "list",data:=.seq h.toArray n}) (r:f h.toArray=its'.toArray) (o:bv c its') (m:c.length<=bj):Inv X d a (upd H l (.lst c)) {s with heap:=s.heap.update l (ll f),toks:=j}:=by have q:=PySem.IsL.update e f;rw[r]at q;refine I.write (x:=l) (e:=l) (by rw[w];exact trivial) (.inl rfl) (λy u v p=>(l6 s.heap (ll f) (cX v)).trans p) ⟨_,q⟩ ?_;exact⟨m,its',_,o,q⟩
theorem Inv.lnew{its:List ai}{t':Nat}(I:Inv X d a H s)(f:bv c its)(e:c.length<=bj):Inv X d a (upd H s.heap.objs.size (.lst c)) {s with heap:=s.heap.push {cls:=.type "list",data:=.seq its.toArray},toks:=t'} :=I.laid (λ_ _ q=>dE _ q) (bB _) ⟨e,its,0,f,fL _ rfl⟩
theorem Inv.fresh(I:Inv X d a H s):H s.heap.objs.size=ag:=I.hok.fresh (bB _)
theorem Inv.lstM(I:Inv X d a H s)(h:H l=aa (.lst g)):g.length<=bj/\∃(f:List ai) (n:Nat),bv g f/\g.length=f.length/\s.heap.get? l=aa {cls:=.type "list",data:=.seq f.toArray n}:=by obtain⟨z,f,n,r,e⟩:=I.hok l _ h;exact⟨z,f,n,r,r.length,e⟩
theorem I_{n:Nat}(h:n<=bj):CF n=aj:=by unfold CF;exact decide_eq_false ∅
end
section
variable{X:Cx}
def Hk:V->List V->Hp->VK->Prop:=λx a H Q=>∃l xs y,x=.ref l/\a=[y]/\H l=aa (.lst xs)/\xs.length<bj/\Q .non (upd H l (.lst (xs++[y])))
theorem AT:ux X "list.append" Hk:=by
 intro o s f H x g v i Q I b c h;obtain⟨l,xs,y,rfl,rfl,a,j,q⟩:=h;cases b;obtain⟨u,rfl,d⟩:=c.one;obtain⟨z,its,n,r,m,e⟩:=I.lstM a;refine call_meets F.slot_list_append ⟨_,e,rfl⟩ F.entry_list_append (F.args_list_append_2 _ _) (PySem.list_append l its.toArray n u (by rw[cq];lia)) ⟨e,?_⟩;refine⟨.non,_,I.lset (its':=its++[u]) a e (by simp) (r.append (.cons d .nil)) ?_,rfl,q⟩;rw[fO,List.length_singleton];lia
theorem GX{a:Type}(xs:List a)(k:Nat):(dq k xs).flatten.length=k*xs.length:=by
 induction k with
 |zero=>simp
 |succ k b=>rw[CG,List.flatten_cons,fO,b,Nat.succ_mul,xY]
end
section
variable{κ:Type}[DecidableEq κ]
def mR(a:List (κ×V))(k:κ):Option V:=(a.find? λb=>decide (b.1=k)).map (·.2)
def iH(a:List (κ×V))(k:κ)(v:V):List (κ×V) :=if(a.any λb=>decide (b.1=k))=ah then a.map (λb=>if b.1=k then(b.1,v)else b)else a++[(k,v)]
theorem Bf{p:κ×V}{r:List (κ×V)}{k:κ}(e:p.1=k):mR (p::r) k=aa p.2:=by simp[mR,xZ,e]
theorem At{p:κ×V}{r:List (κ×V)}{k:κ}(e:¬p.1=k):mR (p::r) k=mR r k:=by simp[mR,xZ,e]
theorem zQ(k:κ):∀a:List (κ×V),(a.any λb=>decide (b.1=k))=(mR a k).isSome
 |[]=>rfl
 |p::r=>by
  rw[l7];by_cases e:p.1=k
  .simp only[Bf e,decide_eq_true e,Bool.true_or,Option.isSome_some]
  .rw[At e,decide_eq_false e,Bool.false_or];exact zQ k r
theorem B6(a:List (κ×V))(k:κ)(v:V):(iH a k v).length<=a.length+1:=by
 unfold iH;split
 .rw[cr];lia
 .rw[fO,eP,List.length_nil];lia
theorem rh.isSome_eq{o:Option V}{u:Option ai}(r:rh o u):o.isSome=u.isSome:=by
 cases o with
 |none=>cases u with
  |none=>rfl
  |some _=>exact(show False from r).elim
 |some _=>cases u with
  |none=>exact(show False from r).elim
  |some _=>rfl
theorem KV.any{a:List (κ×V)}{c:List (κ×ai)}(r:KV a c)(k:κ):(a.any λb=>decide (b.1=k))=c.any λb=>decide (b.1=k):=by
 unfold KV at r
 induction r with
 |nil=>rfl
 |cons h t d=>rw[l7,l7,d,h.1]
theorem KV.repl{b:List (κ×V)}{d:List (κ×ai)}(r:KV b d)(k:κ){y:V}{u:ai}(f:RelV y u):KV (b.map λa=>if a.1=k then(a.1,y)else a) (d.map λa=>if a.1=k then(a.1,u)else a):=by
 unfold KV at r ⊢
 induction r with
 |nil=>exact .nil
 |@cons p q ps qs h t ih=>
  rw[eF,eF];refine .cons ?_ ih;obtain⟨c,g⟩:=h;by_cases e:p.1=k
  .rw[if_pos e,if_pos (c.symm.trans e)];exact⟨c,f⟩
  .rw[if_neg e,if_neg (λz=>e (c.trans z))];exact⟨c,g⟩
theorem KV.put{a:List (κ×V)}{b:List (κ×ai)}(r:KV a b)(k:κ){y:V}{u:ai}(c:RelV y u):KV (iH a k y) (stored b k u):=by
 unfold iH stored;rw[r.any k];by_cases e:(b.any λd=>decide (d.1=k))=ah
 .rw[if_pos e,if_pos e];exact r.repl k c
 .rw[if_neg e,if_neg e];exact x0 r ⟨rfl,c⟩
theorem KV.length{a:List (κ×V)}{b:List (κ×ai)}(r:KV a b):a.length=b.length:=ku r
end
theorem Ck{P:aT}{w:aK}{k:aQ}{u:ai}(r:RelV (kV k) u):(iF P w).is k u=ah:=by
 cases k with
 |inl i=>obtain⟨t,e⟩:=(show ∃t,u=Value.int i t from r);subst e;exact Dw P w i t
 |inr x=>obtain⟨t,e⟩:=(show ∃t,u=Value.str x t from r);subst e;exact Fk P w x t
theorem zK{P:aT}{w:aK}:∀{ks:List aQ}{a:List ai},bv (ks.map kV) a->ItemsAre (iF P w) ks a
 |[],_,r=>by rw[List.map_nil]at r;cases r;exact .nil
 |k::ks,_,r=>by
  rw[eF]at r;cases r with
  |cons h t=>exact .cons (Ck h) (zK t)
abbrev KT(H:Hp):List (List aQ×V)->List (List aQ×af×ai)->Prop:=c7 λp q=>p.1=q.1/\H q.2.1=aa (.tup (p.1.map kV))/\RelV p.2 q.2.2
theorem KT.val{H:Hp}{a:List (List aQ×V)}{xs:List (List aQ×af×ai)}(r:KT H a xs)(k:List aQ):rh (mR a k) ((atKey xs k).map (·.2)):=by
 induction r with
 |nil=>exact True.intro
 |@cons p q ps qs h t ih=>
  obtain⟨d,_,f⟩:=h;by_cases e:p.1=k
  .have c:q.1=k:=d.symm.trans e;have b:atKey (q::qs) k=aa q.2:=by simp[atKey,xZ,c]
   rw[Bf e,b];exact f
  .have c:¬q.1=k:=λz=>e (d.trans z);have b:atKey (q::qs) k=atKey qs k:=by simp[atKey,xZ,c]
   rw[At e,b];exact ih
theorem KT.repl{H:Hp}{a:List (List aQ×V)}{xs:List (List aQ×af×ai)}(r:KT H a xs)(k:List aQ){y:V}{u:ai}(f:RelV y u):KT H (a.map λc=>if c.1=k then(c.1,y)else c) (xs.map (putAt k u)):=by
 induction r with
 |nil=>exact .nil
 |@cons p q ps qs h t ih=>
  rw[eF,eF];refine .cons ?_ ih;obtain⟨b,d,g⟩:=h;unfold putAt;by_cases e:p.1=k
  .rw[if_pos e,if_pos (b.symm.trans e)];exact⟨b,d,f⟩
  .rw[if_neg e,if_neg (λz=>e (b.trans z))];exact⟨b,d,g⟩
theorem KT.put{H:Hp}{a:List (List aQ×V)}{xs:List (List aQ×af×ai)}(r:KT H a xs)(k:List aQ){b:af}{y:V}{u:ai}(f:H b=aa (.tup (k.map kV)))(c:RelV y u):KT H (iH a k y) (storedH xs k b u):=by
 have e:(a.any λd=>decide (d.1=k))=(atKey xs k).isSome:=by rw[zQ,(r.val k).isSome_eq,Option.isSome_map]
 unfold iH storedH;rw[e];by_cases q:(atKey xs k).isSome=ah
 .rw[if_pos q,if_pos q];exact r.repl k c
 .rw[if_neg q,if_neg q];exact x0 r ⟨rfl,f,c⟩
theorem KT.keeps{H d:Hp}{a:List (List aQ×V)}{xs:List (List aQ×af×ai)}(r:KT H a xs)(e:∀b c,H b=aa (.tup c)->d b=aa (.tup c)):KT d a xs :=Paired.mapP r λ_ _ z=>⟨z.1,e _ _ z.2.1,z.2.2⟩
section
variable{P:aT}{w:aK}{H:Hp}{h:aB}{a:af}
theorem Bm{u:HO}(ok:cG P w H h)(e:Rd H a u):bZ P w H h a u:=e.ok ok
theorem KN{b:List (aQ×V)}(ok:cG P w H h)(e:Rd H a (.dK b)):b.length<=bj/\(a == jo)=aj/\∃c,KV b c/\h.DictOf (iF P w) a c :=show bZ P w H h a (.dK b)from Bm ok e
theorem H_{b:List (aQ×V)}(ok:cG P w H h)(e:H a=aa (.dK b)):b.length<=bj/\(a == jo)=aj/\∃c,KV b c/\h.DictOf (iF P w) a c:=KN ok (.inl e)
theorem wU{ks:List aQ}(ok:cG P w H h)(e:H a=aa (.tup (ks.map kV))):(rm (iF P w)).is h ks a:=by
 obtain⟨_,b,r,⟨o,f,d,n,c⟩,_⟩:=(show bZ P w H h a (.tup (ks.map kV))from ok a _ e)
 exact⟨o,b.toArray,n,f,d,c,by simpa using zK r⟩
theorem JI{b:List (List aQ×V)}(ok:cG P w H h)(e:Rd H a (.dT b)):b.length<=bj/\(a == jo)=aj /\ ∃xs,KT H b xs/\h.DictOfH (rm (iF P w)) a xs:=by
 obtain⟨z,y,xs,r,o,n,s,j,i,g,f,d⟩:=(show bZ P w H h a (.dT b)from Bm ok e)
 refine⟨z,y,xs,r,o,n,s,j,i,g,f,λx c=>?_,d⟩;have all:∀{l:List (List aQ×V)}{m:List (List aQ×af×ai)},KT H l m->∀x∈m,(rm (iF P w)).is h x.1 x.2.1:=by
  intro l m q
  induction q with
  |nil=>intro x c;exact nomatch c
  |@cons p q ps qs hq t ih=>
   intro x c;rcases dm.mp c with e|c
   .subst e;exact wU ok (by rw[<-hq.1];exact hq.2.1)
   .exact ih x c
 exact all r x c
theorem zq{b:List (List aQ×V)}(ok:cG P w H h)(e:H a=aa (.dT b)):b.length<=bj/\(a == jo)=aj /\ ∃xs,KT H b xs/\h.DictOfH (rm (iF P w)) a xs:=JI ok (.inl e)
end
def xK(H:Hp)(a:af)(y v:V)(d:Hp):Prop :=
 (∃c k,H a=aa (.dK c)/\y=kV k/\c.length<bj/\d=upd H a (.dK (iH c k v))) \/
 ∃c k b,H a=aa (.dT c)/\y=.ref b/\H b=aa (.tup (k.map kV))/\c.length<bj/\d=upd H a (.dT (iH c k v))
theorem xK.t{H:Hp}{a b:af}{c:List (List aQ×V)}{k:List aQ}{v:V}(e:H a=aa (.dT c))(f:H b=aa (.tup (k.map kV)))(d:c.length<bj):xK H a (.ref b) v (upd H a (.dT (iH c k v))):=.inr ⟨c,k,b,e,rfl,f,d,rfl⟩
section
variable{X:Cx}{f:List (af×Obj)}{d:St}{H:Hp}{s:ao}{a:af}{y v:V}{u r:ai}{o:Option V}{A:aV}{E:ai->ao->Prop}
theorem Inv.big(I:Inv X f d H s):jo<s.heap.objs.size:=by have h:bQ<s.heap.objs.size:=(I.mod.glob.keeps I.bk).lt;exact Nat.lt_trans (by decide) h
theorem vo{h':aB}{t':Nat}{c:HO}(I:Inv X f d H s)(g:qw (H a))(h:uB a s.heap h')(i:∃q,h'.get? a=aa q)(new:bZ X.prog X.w (upd H a c) h' a c):Inv X f d (upd H a c) {s with heap:=h',toks:=t'} :=I.write (x:=a) (e:=a) g (.inl rfl) (λb q j z=>(h.2 b j).trans z) i new
theorem D8{P:aT}{w:aK}{j:Hp}{g:aB}{b:List (aQ×V)}{c:List (aQ×ai)}(z:b.length<=bj)(h:(a == jo)=aj)(e:KV b c)(i:g.DictOf (iF P w) a c):bZ P w j g a (.dK b):=⟨z,h,c,e,i⟩
theorem Fx{K:Hp}{Q:Unit->ao->Prop}(M:A.units+1<cLine)(I:Inv X f d H s)(g:xK H a y v K)(D:RelV y u)(F:RelV v r)(h:∀C,Inv X f d K C->Q () C):aC (ay X.prog X.w) A (setItem (.ref a) u r) Q E s:=by
 rcases g with⟨kvs,k,e,ey,l,eH⟩|⟨kvs,k,b,e,ey,eb,l,eH⟩
 .subst ey eH;obtain⟨z,x,L,i,B⟩:=H_ I.hok e;have n:L.length<=bj:=by rw[<-i.length];exact z
  have w:(iH kvs k v).length<=bj:=by have:=B6 kvs k v;lia
  refine wpAny_setItem_pairs (hsz:=n) (Ck D) B λG j p=>h _ ?_;have N:∃q,G.get? a=aa q:=let ⟨q,_,_,m,_⟩:=j;⟨q,m⟩
  exact vo I (by rw[e];exact True.intro) p N (D8 w x (i.put k F) j)
 .subst ey eH;cases (show u=Value.ref b from D);obtain⟨z,x,xs,i,B⟩:=zq I.hok e;have n:xs.length<=bj:=by rw[<-ku i];exact z
  have w:(iH kvs k v).length<=bj:=by have:=B6 kvs k v;lia
  refine wpAny_setItem_heap (hsz:=n) (tupleKind_room_in1 M) (wU I.hok eb) B λG j p=>h _ ?_;obtain⟨q,W,Y,m,T,S,P,_,O⟩:=j;refine vo I (by rw[e];exact True.intro) p ⟨q,m⟩ ⟨w,x,_,(i.put k eb F).keeps λc Z J=>?_,q,W,Y,m,T,S,P,O⟩;rw[bd (sL J e (λz=>nomatch z))];exact J
end
def E1(e ty d:TE):TS:=λD b H=>d b H λv h=>e b h λx g=>ty b g λy f=>∃a c,x=.ref a/\xK f a y v c/\D.nx b c
section
variable{X:Cx}{o i e b:aA}{d c j:Pos}{l ty f:TE}
theorem ED(G:X.A.units+1<cLine)(K:PE X o l)(L:PE X i ty)(F:PE X b f)(J:i8 b (aa (.Subscript o i c)) d.line X.env=pure aj):PS X (.Assign [.Subscript o i c] b d) (E1 l ty f):=by intro n s m H D I h;refine wpAny_Assign_Subscript (a6 (F n s m H _ I h) λr q ⟨v,W,Q,A,E⟩=>a6 (K n q m W _ Q E) λu p ⟨x,T,P,z,C⟩=>a6 (L n p m T _ P C) λiv Z ⟨y,H3,O,w,a,S,M,g,B⟩=>?_) J;subst M;obtain rfl:u=Value.ref a:=z;exact Fx G O g w A λY N=>⟨m,S,N,B⟩
end
theorem AN{P:aT}{w:aK}{H:Hp}(h:aB)(a:jo<h.objs.size):bZ P w H (h.push {cls:=.type "dict",data:=.dict #[]}) h.objs.size (.dT []) :=⟨l8 _,beq_eq_false_iff_ne.mpr (cX (gh a)),[],.nil,_,#[],0,fL _ rfl,⟨rfl,rfl,rfl⟩,rfl,rfl,List.nodup_nil⟩
def Gt:TE:=λ_ H Q=>∀p,H p=ag->Q (.ref p) (upd H p (.dT []))
section
variable{X:Cx}{b:Pos}
theorem JW:PE X (.Dict [] [] b) Gt:=λd s c H Q I h=>wpAny_Dict_empty ⟨.ref s.heap.objs.size,_,I.laid (a:=s.heap.objs.size) (o:=.dT []) (t':=s.toks) (λ_ _ q=>dE _ q) (bB _) (AN s.heap I.big),rfl,h _ (I.hok.fresh (bB _))⟩
end
def wn:List (TE×TE)->St->Hp->(List (V×V)->Hp->Prop)->Prop
 |[],_,H,Q=>Q [] H
 | (c,b)::r,a,H,Q=>c a H λx g=>b a g λy f=>wn r a f λd e=>Q ((x,y)::d) e
abbrev VV:List (V×V)->List (ai×ai)->Prop:=c7 λp q=>RelV p.1 q.1/\RelV p.2 q.2
def wV(X:Cx)(d:Pos)(keys:List (Option aA))(a:List aA)(c:List (TE×TE)):Prop :=
 ∀(f:List (af×Obj)) (s:ao) (b:St) (H:Hp) (Q:List (V×V)->Hp->Prop),Inv X f b H s->wn c b H Q ->
  aC (ay X.prog X.w) X.A (evalPairs (pairTrees keys a X.env d)) (λh i=>∃e g,Inv X f b g i/\VV e h/\Q e g) X.xe s
theorem JO{X:Cx}{a:Pos}:wV X a [] [] []:=λc s b H Q I h=>pairTrees_nil_walk ⟨[],H,I,.nil,h⟩
theorem Hd{X:Cx}{b:Pos}{k v:aA}{ks:List (Option aA)}{f:List aA}{i g:TE}{a:List (TE×TE)}(A:PE X k i)(w:PE X v g)(z:wV X b ks f a):wV X b (aa k::ks) (v::f) ((i,g)::a):=λe s c H Q I h=>pairTrees_cons_walk (a6 (A e s c H _ I h) λu l ⟨x,G,D,n,q⟩=>a6 (w e l c G _ D q) λK j ⟨y,F,C,m,p⟩=>a6 (z e j c F _ C p) λJ L ⟨r,E,B,d,o⟩=>⟨(x,y)::r,E,B,.cons ⟨n,m⟩ d,o⟩)
structure M1(X:Cx)(o:aA)(m:Str)(apos:Pos)(e:aA)(cpos:Pos):Prop where
 base:pD o m X.env (bi o X.env)=bi o X.env
 few:((cS cpos (aR [e] X.env)).all (λx=>!x.1)&&(pE cpos (pF [] X.env)).all (λx=>x.1.isSome)&&decide (([e]:List aA).length+([]:List ja).length+(if([]:List ja).isEmpty then 0 else 1)<30))=ah
 line:(apos.endLine == cpos.line)=ah
 trees:cS cpos (aR [e] X.env)=[(aj,bi e X.env)]
end L2
namespace Att
open PySem PySem.W PySem.Calls PyProof.Rows
theorem JC{P:Params}{h:aB}:∀(c:List Int) (d:List ai),WellAll P h d (c.map WData.int)->IntsAre d c:=by
 intro c
 induction c with
 |nil=>
  intro d w;rw[List.map_nil]at w;cases w;exact .nil
 |cons n c e=>
  intro d w;rw[eF]at w;cases w with
  |cons a b=>
   cases a;exact .cons _ _ (e _ b)
theorem Ku{l:OpenLaw}{n:Nat}(w:l.most=aa n){P:Params}{h:aB}{args:List WData}{c:List ai}(m:l.row.toRowW.claim.pre args=ah) (g:WellAll P h c args):∃a j b,c=[Value.ref a]/\args=[WData.list (b.map WData.int)]/\h.get? a=aa {cls:=.type "list",data:=.seq j.toArray}/\IntsAre j b/\b.length<=n:=by
 have i:WShape.hasAll [] args [.list .int]=ah:=(pre_splitW m).1;have o:l.pre.holds [] {args:=args}=ah:=(pre_splitW m).2;obtain⟨d,r,rfl,z,y⟩:=hasAllW_cons i;obtain rfl:=hasAllW_nil y;obtain⟨xs,rfl,x⟩:=hasW_list z;obtain⟨b,rfl⟩:=items_int x;have A:b.length<=n:=by
  unfold OpenLaw.pre at o;have f:(WTm.not (.lt (.lit (.int (n:Int))) (.len (.arg 0)))).holds [] {args:=[.list (b.map .int)]}=ah:=by have f:=(holds_andW o).1;rw[w]at f;exact f
  have e:=condW_of f (w_not (w_lt w_lit (w_len_list (w_arg rfl))));rw[cr]at e;refine Nat.le_of_not_lt λq=>?_;have u:(n:Int)<((b.length:Nat):Int):=∅
  first
   | (rw[decide_eq_true u]at e;exact absurd e (by decide))
   | (simp at e;lia)
 cases g with
 |cons s p=>
  cases p;cases s with
  |list v hall=>exact⟨_,_,b,rfl,rfl,v,JC b _ hall,A⟩
theorem Ho(l:OpenLaw)(args:List WData):l.row.toRowW.claim.post args (.bool ah) args=ah :=
 postW_of (r:=l.row.toRowW) (X:=(ah == ah))
  (show WShape.has [] (.bool ah) .bool=ah by first|rfl|decide|simp[WShape.has,WShape.arms,WShape.armsAll])
  (show(WTm.eq .res (.lit (.bool ah))).value [] {args:=args,res:=aa (.bool ah),after:=args}=aa (.bool (ah == ah))from w_eq_bool (w_res rfl) w_lit) rfl
theorem attach_call{l:OpenLaw}{n:Nat}{q:aT}{e:List Str}{XP:(Str->Option ai)->aB->Prop}{C:aK->aB->Prop}{d:DefRec}(M:l.most=aa n) (I:d.params.defaults=[])(call:∀(w:aK) (c b:ao) (p v:Str->Option ai) (i:af) (o:Obj) (u s g:ai) (a:af) (h:List ai) (m:List Int),Ground q e [] XP w c p v b.heap->C w b.heap -> b.heap.get? i=aa o->o.data=.func (docDef d.name d.params d.body d.scope u s g)->b.heap.CodeRec s d.name->p d.name=aa (.ref i) -> b.heap.get? a=aa {cls:=.type "list",data:=.seq h.toArray}->IntsAre h m->m.length<=n->b.gens=#[] -> l0 (ay l.prog w) pG (.call (.ref i) ⟨[.ref a],[]⟩) (λr j=>r=.ok (.ret (.bool ah))/\OldK b.heap j.heap/\j.os=b.os/\lg j.gens) b):WalkO q e XP C l.row.toRowW d [] (λf h=>PySem.call f h):=by intro w c b p v G Y i o u s g dV kV L Q X A F P B y as H z J x O;obtain rfl:dV=.none:=Dflts.none A I;obtain rfl:kV=.none:=Dflts.noKw A;obtain⟨a,h,m,rfl,rfl,D,E,Z⟩:=Ku M H x;refine enter_call (rz (call w c b p v i o u s g a h m G Y L (fd_plain Q) X F D E Z P) λr j K=>?_);obtain⟨rfl,W,T,S⟩:=K;exact⟨.inl ⟨.bool ah,.bool ah,[],rfl,λ_=>rfl,.bool ah,Ho l _,λ_=>⟨List.Pairwise.nil,λ_ N=>(nomatch N)⟩⟩,W,T,S⟩
end Att
namespace L2
theorem zf:∀{a:List ai}{b:List Int},IntsAre a b->bv (b.map V.int) a
 |_,_,.nil=>.nil
 |_,_,.cons n t h=>.cons ⟨t,rfl⟩ (zf h)
def xf(H:Hp):Prop:=∀b,H b=ag\/(∃o xs,H b=aa (.frz o (.lst xs)))\/∃q,H b=aa (.tbl q)
def iS(K:ar):Hp:=λb=>match nj K "road" with
 |some (_,P)=>if b=P then aa (.tbl "road.<locals>.<lambda>")else ag
 |none=>ag
theorem mQ{K:ar}{b:af}{u:HO}(h:iS K b=aa u):u=.tbl "road.<locals>.<lambda>"/\∃c,nj K "road"=aa (c,b):=by
 unfold iS at h;split at h
 .rename_i c P e;split at h
  .rename_i a;subst a;cases h;exact⟨rfl,c,e⟩
  .cases h
 .cases h
theorem zL{K:ar}{c P:af}(h:nj K "road"=aa (c,P)):iS K P=aa (.tbl "road.<locals>.<lambda>"):=by unfold iS;rw[h];exact if_pos rfl
def zu(K:ar)(h:aB):Prop:=∀c P,nj K "road"=aa (c,P)->PySem.W.codeHdIn K c P=ah/\K.lookup P=ag/\h.get? P=aa {cls:=.none,data:=.fields #[]}
theorem He{P:aT}{w:aK}{K:ar}{L mb:Str->Option ai}{CX:fY}{k:Nat}{fa a:af}{fd:gi}{x:Str}{sp:Sp}{f:ao}{G:List ai}{M:List Int}(KX:K.In f.heap) (pV:f.heap.Ns bQ L) (j:f.heap.Ns ni mb) (nI:∀x:Str,x≠"__name__"->mb x=eD x) (O:f.heap.NoLimit) (lw:∃E B,L "__builtins__"=aa (.ref E)/\E≠ni/\f.heap.get? E=aa B/\B.cls=.type "module"/\B.dict=aa ni/\B.data=.plain) (C:zu K f.heap) (hg:f.gens=#[])(y:f.heap.get? a=aa {cls:=.type "list",data:=.seq G.toArray}) (hi:IntsAre G M) (hl:M.length<=bj) (hr:fc k pG)(F:∀p:aB,K.In p->p.Ns bQ L->jC P w K L p CX k fa fd [x] sp) (K7:∀(s:ao) (u:ai),BindsTo s fd ⟨[u],[]⟩ [(x,u)])(gq:∀H:Hp,xf H->b7 K H a (M.map V.int)->sp [.ref a] H (λv _=>v=.bl ah) λ_ _ _=>False)(hCX:∀H e l,CX [] H f (λ_ _ _=>False) e l->False):l0 (ay P w) pG (.call (.ref fa) ⟨[.ref a],[]⟩) (λr l=>r=.ok (.ret (.bool ah))/\OldK f.heap l.heap/\l.os=f.os/\lg l.gens) f:=by
 have rv:=zf hi;have N:=hi.length;have D:∀H:Hp,xf H->b7 K H a (M.map V.int)->cG P w H f.heap->(∀b,H b≠ag->b=a\/∃c,nj K "road"=aa (c,b))->(H a≠ag->K.lookup a=ag)->sI K H ->
   l0 (ay P w) pG (.call (.ref fa) ⟨[.ref a],[]⟩) (λr l=>r=.ok (.ret (.bool ah))/\OldK f.heap l.heap/\l.os=f.os/\lg l.gens) f:=by
  intro H hO hS I Y hK hTH;have g:∀{b:af}{o:Obj},f.heap.get? b=aa o->H b=ag->(k4 f.heap H).get? b=aa o:=λe n=>GH e n;have noA:∀{b:af}{o:Obj}{S:Array pH}{T:Nat},f.heap.get? b=aa o->o.data=.dict S T->H b=ag:=λ{b o S T} e d=>by
   cases q:H b with
   |none=>rfl
   |some u=>
    rcases Y b (by rw[q];simp)with i|⟨c,i⟩
    .subst i;rw[y]at e;cases e;have d':Data.seq G.toArray _=Data.dict S T:=d;cases d'
    .rw[(C c b i).2.2]at e;cases e;cases d
  have A:∀{b:af}{m:Str->Option ai},f.heap.Ns b m->(k4 f.heap H).Ns b m:=λ{b m} ⟨o,S,T,e,d,r⟩=>⟨o,S,T,g e (noA e d),d,r⟩
  have Q:K.In (k4 f.heap H):=λb o e=>g (KX b o e) (by
   cases q:H b with
   |none=>rfl
   |some u=>
    rcases Y b (by rw[q];simp)with i|⟨c,i⟩
    .subst i;rw[hK (by rw[q];simp)]at e;cases e
    .rw[(C c b i).2.1]at e;cases e)
  have hM:Mod K L (k4 f.heap H):=⟨Q,A pV,⟨mb,A j,nI⟩,(let ⟨mc,h1,h2⟩:=O;⟨mc,A h1,h2⟩),by
   obtain⟨E,B,b1,b2,X,b4,b5,b6⟩:=lw;refine⟨E,B,b1,b2,g X ?_,b4,b5,b6⟩;cases q:H E with
   |none=>rfl
   |some u=>
    rcases Y E (by rw[q];simp)with i|⟨c,i⟩
    .subst i;rw[y]at X;cases X;simp at b4
    .rw[(C c E i).2.2]at X;cases X;simp at b4⟩
  have e0:oE P w K L (k4 f.heap H) pG [] f H:=⟨rfl,hM,λb o e=>KZ e,nv (Dh _ _),trivial,λb j=>absurd (show b∈([]:List af)from j) (by simp),I,.of_eq hg,hTH⟩
  refine rz ((F _ Q (A pV)).run pG [] f H ⟨[.ref a],[]⟩ [.ref a] [.ref a] _ _ hr e0 (K7 f (.ref a)) (.cons rfl .nil) (gq H hO hS)) λr l h=>?_;cases r with
  |error e=>exact(hCX H e l h).elim
  |ok fl=>
   cases fl with
   |next=>exact gj h
   |brk=>exact gj h
   |cont=>exact gj h
   |ret u=>
    obtain⟨v,H',os,W,un,C_,r',q⟩:=h;have q':v=.bl ah:=q;subst q';obtain rfl:u=Value.bool ah:=r';refine⟨rfl,⟨λb o e=>?_,λb o e=>un.there b o e (by simp)⟩,os,W⟩;cases q:H b with
    |none=>exact .inl (un.keep b o e q (by intro z;exact absurd (show b∈([]:List af)from z) (by simp)) (by simp))
    |some u=>
     rcases hO b with z|⟨B,xs,z⟩|⟨qn,z⟩
     .rw[q]at z;cases z
     .have z2:=un.frzs b B _ z;obtain⟨J,_⟩:=I b _ z;obtain⟨e2,_⟩:=C_ b _ z2;rw[e]at J;cases J;exact .inl e2
     .rcases Y b (by rw[q];simp)with i|⟨c,i⟩
      .subst i;obtain⟨ps,J,_⟩:=I b _ z;rw[y]at J;cases J
      .obtain⟨k1,k2,k3⟩:=C c b i;rw[k3]at e;cases e;obtain⟨oc,Z,_,_,_,_,_,_,_,f1,f2,f3,f4,_⟩:=PySem.W.codeHd_of_K KX k1;obtain⟨ps,J,_⟩:=C_ b _ (un.tbls b _ z);exact .inr (.inl ⟨⟨c,oc,Z,f1,f2,f3,f4⟩,rfl,#[],ps,rfl,by rw[J];simp⟩)
 cases hk:K.lookup a with
 |some o=>
  have e:=KX a o hk;rw[y]at e;cases e;have tH:∀b u,iS K b=aa u->bZ P w (iS K) f.heap b u:=λb u z=>by
   obtain⟨rfl,c,e⟩:=mQ z;exact⟨#[],(C c b e).2.2,trivial,λpos cv h=>by cases h⟩
  refine D (iS K) (λb=>?_) (.inr ⟨_,G.toArray,_,hk,rfl,rfl,rfl,by rw[cq,N];exact hl,by simpa using rv⟩) tH (λb z=>?_) (λz=>?_) λx hx c P e=>?_
  .cases q:iS K b with
   |none=>exact .inl rfl
   |some u=>exact .inr (.inr ⟨_,congrArg aa (mQ q).1⟩)
  .cases q:iS K b with
   |none=>exact absurd q z
   |some u=>exact .inr (mQ q).2
  .cases q:iS K a with
   |none=>exact absurd q z
   |some u=>
    obtain⟨_,c,i⟩:=mQ q;rw[(C c a i).2.2]at y;cases y
  .obtain rfl:x = "road":=by simpa[xy]using hx
   exact zL e
 |none=>
  have ta:∀c P,nj K "road"=aa (c,P)->P≠a:=λc P e z=>by subst z;rw[(C c P e).2.2]at y;cases y
  refine D (λb=>if b=a then aa (.frz {cls:=.type "list",data:=.seq G.toArray} (.lst (M.map V.int)))else iS K b) (λb=>?_) (.inl (.inr ⟨{cls:=.type "list",data:=.seq G.toArray},if_pos rfl⟩)) (λb u z=>?_) (λb z=>?_) (λ_=>hk) λx hx c P e=>?_
  .by_cases j:b=a
   .exact .inr (.inl ⟨_,_,if_pos j⟩)
   .cases q:iS K b with
    |none=>exact .inl ((if_neg j).trans q)
    |some u=>exact .inr (.inr ⟨_,(if_neg j).trans (q.trans (congrArg aa (mQ q).1))⟩)
  .by_cases j:b=a
   .have z':=(if_pos j).symm.trans z;cases z';subst j;exact⟨y,by rw[cr];exact hl,G,_,rv,y⟩
   .obtain⟨rfl,c,e⟩:=mQ ((if_neg j).symm.trans z);exact⟨#[],(C c b e).2.2,trivial,λpos cv h=>by cases h⟩
  .by_cases j:b=a
   .exact .inl j
   .cases q:iS K b with
    |none=>exact absurd ((if_neg j).trans q) z
    |some u=>exact .inr (mQ q).2
  .obtain rfl:x = "road":=by simpa[xy]using hx
   exact(if_neg (ta c P e)).trans (zL e)
theorem LH{l:x_}{n k:Nat}{q:aT}{c:List Str}{XP:(Str->Option ai)->aB->Prop}{E:aK->aB->Prop}{d:DefRec}{K:Params->ar}{CX:aK->fY}{sp:aK->Sp}{x:Str}(P:l.most=aa n) (r:n<=bj) (N:d.params.defaults=[]) (O:fc k pG)(C:∀(w:aK) (h:aB),E w h->(K w.params).In h/\zu (K w.params) h)(F:∀(w:aK) (g:Str->Option ai) (m:af) (h:aB),(K w.params).In h->h.Ns bQ g->g d.name=aa (.ref m) -> ∃z:gi,(∀(s:ao) (u:ai),BindsTo s z ⟨[u],[]⟩ [(x,u)]) /\ ∀b:aB,(K w.params).In b->b.Ns bQ g->jC l.prog w (K w.params) g b (CX w) k m z [x] (sp w))(Z:∀(w:aK) (H:Hp) (a:af) (j:List Int),j.length<=n->xf H->b7 (K w.params) H a (j.map V.int)->sp w [.ref a] H (λv _=>v=.bl ah) λ_ _ _=>False)(y:∀(w:aK) (H:Hp) (s:ao) (e:ai) (p:ao),CX w [] H s (λ_ _ _=>False) e p->False):PySem.W.WalkO q c XP E l.row.toRowW d [] (λf A=>PySem.call f A):=by refine Att.attach_call P N λw B i g mb m o pm cd doc a A j G Y ho hd br M J L D Q=>?_;have I:=(C w _ Y).1;obtain⟨z,S,X⟩:=F w g m _ I G.T.g M;exact He I G.T.g G.T.b G.T.builtins G.T.nolimit G.T.bmain (C w _ Y).2 Q J L (cK D r) O X S (λH W T=>Z w H a j D W T) λH e p=>y w H i e p
def iU(s:bf):Arguments:=match s with
 |.FunctionDef _ a _ _ _ _ _ _ _ _=>a
 |_=>{posonlyargs:=[],args:=[],vararg:=ag,kwonlyargs:=[],kw_defaults:=[],kwarg:=ag,defaults:=[]}
def fi(s:bf):List bf:=match s with
 |.FunctionDef _ _ b _ _ _ _ _ _ _=>b
 |_=>[]
def ba(s:bf):dD:=match s with
 |.FunctionDef _ _ _ _ _ _ a _ _ _=>a
 |_=>{kind:=.function,names:=[],isGenerator:=aj,isCoroutine:=aj}
abbrev vV:fY:=λ_ _ _ _ _ _=>False
abbrev E0:XK:=λ_ _ _=>False
structure mL(K:ar)(x qual:Str)(st:bf)(f:af)(fd:gi):Prop where
 ex:∃(oc:ai) (od:Option af) (kV doc pm:ai) (an:Option af) (aN ct:ai) (osl:Array (Option ai)),
  fd=ik x qual (iU st) (fi st) (ba st) .none kV doc pm an aN ct/\K.lookup f=aa ⟨oc,od,.func fd,osl⟩/\rD K aN qual=ah
 kp:nt K (.ref f)=ah
section
variable{P:aT}{w:aK}{K:ar}{b:Str->Option ai}{a:aB}
theorem mL.binds{x c:Str}{e:bf}{f:af}{o:gi}{i:List Str}(F:mL K x c e f o)(h:∀(kV d j:ai) (m:Option af) (n l:ai) (g:List ai),g.length=i.length->fk (ik x c (iU e) (fi e) (ba e) .none kV d j m n l) ⟨g,[]⟩=pure (i.zip g)):Binds K o i []:=by obtain⟨oc,q,kV,d,j,m,n,l,p,rfl,r,s⟩:=F.ex;exact .all (h kV d j m n l)
theorem Bq{x d:Str}{e:bf}{f:af}{oc:ai}{o n:Option af}{h:Array (Option ai)}{kV g j i m:ai}(l:K.lookup f=aa ⟨oc,o,.func (ik x d (iU e) (fi e) (ba e) .none kV g j n i m),h⟩)(c:rD K i d=ah) (k:nt K (.ref f)=ah):mL K x d e f (ik x d (iU e) (fi e) (ba e) .none kV g j n i m):=⟨⟨oc,o,kV,g,j,n,i,m,h,rfl,l,c⟩,k⟩
end
theorem IK{n:Nat}(h:n<=1000):n<bj:=Nat.lt_of_le_of_lt h (by decide)
section
variable{X:Cx}
theorem pv(i:Nat){x:Str}{a:Pos}(d:X.N[i]?=aa x:=by rfl)(b:d_ X.env.scope x:=by eq_refl)(c:(x==("__debug__":Str))=aj:=by decide)(e:(x==("__classdict__":Str))=aj:=by decide):PE X (.Name x a) (BO i):=fD d b c e
end
theorem oB{A B:Prop}(h:B):if aj=ah then A else B:=by rw[if_neg eh];exact h
theorem oS{A B:Prop}(h:A):if ah=ah then A else B:=by rw[if_pos rfl];exact h
def Same(H a:Hp):Prop:=∀b o,H b=aa o->a b=aa o
theorem Same.refl(H:Hp):Same H H:=λ_ _ h=>h
end L2
set_option maxHeartbeats 4000000
namespace L2
def gy(a:Env):List (Str×fM)->List (Str×af)->List (Str×af)
 |[],b=>b
 | (n,k)::r,b=>if k == .free then gy a r ((n,(a.cells.lookup n).getD 0)::b)else gy a r b
theorem JP{d:Env}{y:Str}{c:af}(b:List (Str×fM))(f:List (Str×af))(l:∀x∈b,x.2=.free->∃c,d.cells.lookup x.1=aa c)(h:(gy d b f).lookup y=aa c):f.lookup y=aa c\/d.cells.lookup y=aa c:=by
 induction b generalizing f with
 |nil=>exact .inl h
 |cons a r g=>
  obtain⟨n,k⟩:=a;unfold gy at h;have j:∀x∈r,x.2=.free->∃c,d.cells.lookup x.1=aa c:=λx m=>l x (kw _ m);split at h
  .rename_i o;obtain⟨s,i⟩:=l (n,k) (lZ ..) (by simpa using o);rcases g _ j h with q|q
   .rw[jq]at q;split at q
    .rename_i p;have e:y=n:=by simpa using p
     subst e;rw[i]at q;exact .inr (by rw[i];exact q)
    .exact .inl q
   .exact .inr q
  .exact g _ j h
theorem Bl{a:Type}{n:Str}{v:a}{l:List (Str×a)}:((n,v)::l).lookup n=aa v:=by rw[jq];simp
theorem AR{a:Type}{n y:Str}{v:a}{l:List (Str×a)}(h:∃c,l.lookup y=aa c):∃c,((n,v)::l).lookup y=aa c:=by
 rw[jq];split
 .exact⟨_,rfl⟩
 .exact h
theorem wJ{d:Env}{y:Str}:∀(a:List (Str×fM)) (b:List (Str×af)),(∃c,b.lookup y=aa c)->∃c,(gy d a b).lookup y=aa c
 |[],b,h=>h
 | (n,k)::r,b,h=>by
  unfold gy;split
  .exact wJ r _ (AR h)
  .exact wJ r _ h
theorem vd{g:Env}{y:Str}:∀(a:List (Str×fM)) (i:List (Str×af)),(∃x∈a,x.1=y/\x.2=.free)->∃c,(gy g a i).lookup y=aa c
 |[],i,⟨_,h,_⟩=>by simp at h
 | (n,k)::r,i,⟨x,b,f,d⟩=>by
  unfold gy;rcases dm.mp b with e|b
  .subst e;simp only at f d;subst f d;simp only[beq_self_eq_true,if_true];exact wJ r _ ⟨_,Bl⟩
  .split
   .exact vd r _ ⟨x,b,f,d⟩
   .exact vd r _ ⟨x,b,f,d⟩
theorem w8{b:Env}:∀(a:List (Str×fM)) (g:List (Str×af)),(∀x∈a,x.2=.free->∃c,b.cells.lookup x.1=aa c) -> (forIn (m:=Sem) a g λx r=>match x with | (d,f)=>if(f == NameKind.free)=ah then do let c <-cellOf b d;pure (ForInStep.yield ((d,c)::r))else pure (ForInStep.yield r))=pure (gy b a g)
 |[],g,_=>rfl
 | (n,k)::r,g,h=>by
  have j:∀x∈r,x.2=.free->∃c,b.cells.lookup x.1=aa c:=λx o=>h x (kw _ o);rw[List.forIn_cons];unfold gy;by_cases i:(k == NameKind.free)=ah
  .obtain⟨c,l⟩:=h (n,k) (lZ ..) (by simpa using i);simp only[i,if_true];have e:cellOf b n=pure c:=by unfold cellOf;rw[l]
   rw[e];simp only[pure_bind];rw[w8 r _ j,l];rfl
  .simp only[i,if_false,pure_bind];exact w8 r _ j
theorem J9{a:dD}{b:Env}(h:∀x∈a.names,x.2=.free->∃c,b.cells.lookup x.1=aa c):closureFor a b=pure (gy b a.names []):=by unfold closureFor;have q:=w8 a.names [] h;simp only[bind_pure_comp]at q ⊢;rw[q];rfl
theorem uk{n c:Nat}(b:n+1<=c)(a:c<n):False:=∅
theorem vm:∀(c:List (Str×fM)) (n:Nat) (a b:List (Str×af)),eE n c (a++b)=eE n c a++b
 |[],_,_,_=>rfl
 | (x,k)::r,n,a,b=>by
  unfold eE;split
  .exact vm r (n+1) ((x,n)::a) b
  .exact vm r n a b
theorem sR{y:Str}{c:af}:∀(b:List (Str×fM)) (n:Nat) (a:List (Str×af)),(y,c)∈eE n b a->(y,c)∈a\/(y,.cell)∈b
 |[],_,_,h=>.inl h
 | (x,k)::r,n,a,h=>by
  unfold eE at h;split at h
  .rename_i d;rcases sR r _ _ h with z|z
   .rcases dm.mp z with z|z
    .cases z;have e:k=.cell:=by simpa using d
     subst e;exact .inr (lZ ..)
    .exact .inl z
   .exact .inr (kw _ z)
  .rcases sR r _ _ h with z|z
   .exact .inl z
   .exact .inr (kw _ z)
theorem xv{y:Str}:∀(b:List (Str×fM)) (n:Nat) (a:List (Str×af)),(∃c,a.lookup y=aa c)->∃c,(eE n b a).lookup y=aa c
 |[],_,_,h=>h
 | (x,k)::r,n,a,h=>by
  unfold eE;split
  .exact xv r _ _ (AR h)
  .exact xv r _ _ h
theorem uz{y:Str}:∀(b:List (Str×fM)) (n:Nat) (a:List (Str×af)),(y,.cell)∈b->∃c,(eE n b a).lookup y=aa c
 | (x,k)::r,n,a,h=>by
  unfold eE;rcases dm.mp h with e|h
  .cases e;exact xv r _ _ ⟨_,Bl⟩
  .split
   .exact uz r _ _ h
   .exact uz r _ _ h
def kf(X:Cx)(a:dD)(C:af):List (Str×af):=eE (C+1) a.names (gy X.env a.names [])
theorem wB(X:Cx)(a:dD)(C:af):kf X a C=eE (C+1) a.names []++gy X.env a.names []:=vm a.names (C+1) [] _
theorem G1{M:Model}{A:aV}{E:ai->ao->Prop}{s:ao}{a:dD}{b:af}{i:List (Str×af)}{c:Str}{e:Env}{Q:Env->ao->Prop}(j:Q (newEnv a s.heap.objs.size b (eE (s.heap.objs.size+1) a.names i) c ag .none (aa e) ni) {s with heap:=pushCells (s.heap.push {cls:=.type "dict",data:=.dict #[]}) a.names}):aC M A (newFunctionEnv a b i [] c ag .none (aa e)) Q E s:=by
 simp only[newFunctionEnv,Option.isSome_some,if_true];refine az (wpAny_alloc ?_);refine az (wpAny_layCells _ (λh d g=>by cases f:d == NameKind.cell <;> simp[f]) _ _ _ _ ?_);rw[show({s with heap:=s.heap.push {cls:=.type "dict",data:=.dict #[]}}:ao).heap.objs.size=s.heap.objs.size+1 from Heap.size_push ..];refine az ?_;rw[List.forIn_nil];exact bg (bg j)
theorem zY{s:ao}{a:List (Str×fM)}{y:Str}{c:af}(h:(y,c)∈eE (s.heap.objs.size+1) a []):(pushCells (s.heap.push {cls:=.type "dict",data:=.dict #[]}) a).IsCell c ag/\s.heap.objs.size+1<=c/\∀z,(z,c)∈eE (s.heap.objs.size+1) a []->y=z:=by have ok:=cellsFrom_ok a (s.heap.push {cls:=.type "dict",data:=.dict #[]}) (s.heap.objs.size+1) [] ⟨λ_ _ d=>(nomatch d),List.Pairwise.nil⟩ (by rw[Heap.size_push];exact bB _);rw[Heap.size_push]at ok;exact⟨(ok.empty y c h).1,(ok.empty y c h).2,λz b=>name_of_addr ok.apart h b⟩
def bP(X:Cx)(a:dD)(b:List Str)(C:af)(s₀:ao)(H₀:Hp)(ex:List af)(pn:List (af×Obj)):Cx where
 prog:=X.prog
 w:=X.w
 K:=X.K
 mg:=X.mg
 base:=X.base
 A:=X.A
 N:=b
 s₀:=s₀
 H₀:=H₀
 env:=compEnvC a (kf X a C) C X.env
 outer:=X.stack
 stack:=X.stack
 ex:=ex
 fn:=λy=>a.names.lookup y == aa .cell
 calm:=X.calm
 pn:=X.pn++pn
 xe:=λ_ _=>False
def eZ(b:St)(a:List Nat):St:=a.map λi=>(b[i]?).join
structure iD(X:Cx)(scope:dD)(x:Str)(N':List Str)(cap:List Nat):Prop where
 kind:scope.kind=.function
 cells:∀y∈scope.names,y.2=.cell->scope.names.lookup y.1=aa .cell
 names:∀y∈scope.names,y.2=.local->scope.names.lookup y.1=aa .local
 loc:scope.names.lookup x=aa .local\/scope.names.lookup x=aa .cell
 free:∀y∈scope.names,y.2=.free->X.env.kindOf y.1=aa .cell\/X.env.kindOf y.1=aa .free
 nd:N'.Nodup
 hd:N'.head?=aa x
 len:N'.length=cap.length+1
 caps:∀i j y,N'[i+1]?=aa y->cap[i]?=aa j->(X.N[j]?=aa y/\scope.names.lookup y=aa .free)\/(X.N.length<=j/\scope.names.lookup y=aa .local)
theorem Hv{a:List (Str×fM)}{y:Str}{k:fM}(h:a.lookup y=aa k):∃x∈a,x.1=y/\x.2=k:=⟨(y,k),jT h,rfl,rfl⟩
theorem wg{a:Env}{x:Str}:∀{b:List (Str×fM)}{k:fM}, (b.map λ(n,k)=>if(k == NameKind.free&&a.scope.kind == .function&&a.kindOf n == aa .cell)then(n,NameKind.cell)else(n,k)).lookup x=aa k -> ∃e,b.lookup x=aa e/\(k=e\/(e=.free/\k=.cell))
 |[],_,h=>by simp at h
 | (n,c)::r,k,h=>by
  change ya x ((if(c == NameKind.free&&a.scope.kind == .function&&a.kindOf n == aa .cell)=ah then(n,NameKind.cell)else(n,c))::_)=_ at h;rw[jq];by_cases d:(c == NameKind.free&&a.scope.kind == .function&&a.kindOf n == aa .cell)=ah
  .rw[if_pos d,jq]at h;split at h
   .rename_i f;cases h;have:c=.free:=by simp at d;exact d.1.1
    exact⟨c,rfl,.inr ⟨this,rfl⟩⟩
   .exact wg h
  .rw[if_neg d,jq]at h;split at h
   .rename_i f;cases h;exact⟨c,rfl,.inl rfl⟩
   .exact wg h
theorem xz{a:Env}{x:Str}:∀{b:List (Str×fM)},b.lookup x=aa .free -> let q:=(b.map λ(n,k)=>if(k == NameKind.free&&a.scope.kind == .function&&a.kindOf n == aa .cell)then(n,NameKind.cell)else(n,k)).lookup x
  q=aa .cell\/q=aa .free
 |[],h=>by simp at h
 | (n,c)::r,h=>by
  show ya x ((if(c == NameKind.free&&a.scope.kind == .function&&a.kindOf n == aa .cell)=ah then(n,NameKind.cell)else(n,c))::_)=_\/ya x ((if(c == NameKind.free&&a.scope.kind == .function&&a.kindOf n == aa .cell)=ah then(n,NameKind.cell)else(n,c))::_)=_;rw[jq]at h;by_cases e:(c == NameKind.free&&a.scope.kind == .function&&a.kindOf n == aa .cell)=ah
  .rw[if_pos e,jq];cases d:x == n with
   |true=>exact .inl rfl
   |false=>rw[d]at h;exact xz h
  .rw[if_neg e,jq];cases d:x == n with
   |true=>rw[d]at h;cases h;exact .inr rfl
   |false=>rw[d]at h;exact xz h
theorem wj{a:Env}{x:Str}:∀{b:List (Str×fM)},b.lookup x=aa .cell -> (b.map λ(n,k)=>if(k == NameKind.free&&a.scope.kind == .function&&a.kindOf n == aa .cell)then(n,NameKind.cell)else(n,k)).lookup x=aa .cell
 |[],h=>by simp at h
 | (n,d)::r,h=>by
  show ya x ((if(d == NameKind.free&&a.scope.kind == .function&&a.kindOf n == aa .cell)=ah then(n,NameKind.cell)else(n,d))::_)=_;rw[jq]at h;by_cases e:(d == NameKind.free&&a.scope.kind == .function&&a.kindOf n == aa .cell)=ah
  .rw[if_pos e,jq];cases c:x == n with
   |true=>rfl
   |false=>rw[c]at h;exact wj h
  .rw[if_neg e,jq];cases c:x == n with
   |true=>rw[c]at h;cases h;rfl
   |false=>rw[c]at h;exact wj h
section
variable{X:Cx}{A:List (af×Obj)}{w:St}{H:Hp}{s:ao}{f:dD}{x:Str}{D:List Str}{g:List Nat}
theorem Inv.freeHas(I:Inv X A w H s)(B:iD X f x D g):∀y∈f.names,y.2=.free->∃c,X.env.cells.lookup y.1=aa c:=λy a e=>I.ok.has y.1 (B.free y a e)
theorem Inv.clIn(I:Inv X A w H s)(B:iD X f x D g){y:Str}{c:af}(h:(gy X.env f.names []).lookup y=aa c):X.env.cells.lookup y=aa c:=by
 rcases JP f.names [] (I.freeHas B) h with q|q
 .simp at q
 .exact q
theorem Inv.cbIn(I:Inv X A w H s)(B:iD X f x D g){C:af}{y:Str}{c:af}(h:(kf X f C).lookup y=aa c):((y,c)∈eE (C+1) f.names []/\f.names.lookup y=aa .cell)\/((gy X.env f.names []).lookup y=aa c/\X.env.cells.lookup y=aa c):=by
 rw[wB,CH]at h;cases e:(eE (C+1) f.names []).lookup y with
 |none=>rw[e]at h;exact .inr ⟨h,I.clIn B h⟩
 |some a=>
  rw[e]at h;cases h;have m:=jT e;rcases sR _ _ _ m with z|z
  .cases z
  .exact .inl ⟨m,B.cells _ z rfl⟩
theorem Inv.cbOld(I:Inv X A w H s)(B:iD X f x D g){C:af}{y:Str}{c:af}(h:(gy X.env f.names []).lookup y=aa c)(a:f.names.lookup y=aa .free):(kf X f C).lookup y=aa c:=by
 rw[wB,CH];cases e:(eE (C+1) f.names []).lookup y with
 |none=>exact h
 |some b=>
  rcases sR _ _ _ (jT e)with z|z
  .cases z
  .have:=B.cells _ z rfl;rw[a]at this;cases this
theorem Inv.block{fp:List af}{E:aB}{m:Str->Option ai}{t':Nat}(hh:E=pushCells (s.heap.push {cls:=.type "dict",data:=.dict #[]}) f.names)(I:Inv X A w H s)(B:iD X f x D g)(Y:∀b∈fp,jP X A H b)(hfo:∀b∈fp,∃o,s.heap.get? b=aa o)(pV:E.Ns s.heap.objs.size m)(F:∀b o,s.heap.get? b=aa o->E.get? b=aa o):Inv (bP X f D s.heap.objs.size s H fp A) [] (ag::eZ w g) H {s with heap:=E,toks:=t'}:=by
 have N:∀x c,X.env.cells.lookup x=aa c->c<s.heap.objs.size:=λx c e=>(I.cell x c e).elim λv q=>q.lt;have C:∀{y:Str}{c:af},(y,c)∈eE (s.heap.objs.size+1) f.names []->E.IsCell c ag/\s.heap.objs.size+1<=c/\∀z,(z,c)∈eE (s.heap.objs.size+1) f.names []->y=z:=λh=>by rw[hh];exact zY h
 have lk:∀y k,(compEnvC f (kf X f s.heap.objs.size) s.heap.objs.size X.env).kindOf y=aa k->∃O,f.names.lookup y=aa O/\(k=O\/(O=.free/\k=.cell)):=λy k h=>wg h;have J:∀y,f.names.lookup y=aa .free->∃c,(gy X.env f.names []).lookup y=aa c:=λy h=>vd f.names [] (Hv h);have nfs:∀b∈eL X.stack,b≠s.heap.objs.size:=λb G e=>by
  rcases dm.mp (I.stkSub b G)with z|z
  .exact absurd I.lt (by rw[<-z,e];exact ii _)
  .exact I.nofs (nv e.symm) z
 refine⟨⟨I.ok.mod,B.kind,I.ok.glob,I.ok.blt,bB _,λy z c h1 h2=>?_,λy Q=>?_,λy c h fV=>?_,I.ok.hd,I.ok.frames,.inl rfl,λb G=>?_,λb o e=>I.bs b o e,cK I.ok.bsz I.sz,λb o e G=>?_,λb G hf=>?_,I.stack,(λb G=>I.stkFree b G),I.tab⟩,rfl,I.bare,Un.kept F,⟨m,pV,λi y v e1 S e3=>?_⟩,λy c h=>?_,I.hok.fresh (bB _),λy c h=>?_,λp hp=>?_,I.hok.kept F,?_⟩
 .-- inj
  rcases I.cbIn B h1 with⟨a1,a2⟩|⟨a1,a2⟩ <;> rcases I.cbIn B h2 with⟨b1,b2⟩|⟨b1,b2⟩
  .exact(C a1).2.2 z b1
  .exact(uk (C a1).2.1 (N _ _ b2)).elim
  .exact(uk (C b1).2.1 (N _ _ a2)).elim
  .exact I.ok.inj y z c a2 b2
 .-- has
  show ∃c,(kf X f s.heap.objs.size).lookup y=aa c;have kI:f.names.lookup y=aa .free->∃c,(kf X f s.heap.objs.size).lookup y=aa c:=λq=>(J y q).imp λc hc=>I.cbOld B hc q;rcases Q with Q|Q
  .obtain⟨O,q,z|⟨z,_⟩⟩:=lk y _ Q
   .subst z;exact uz _ _ _ (jT q)
   .subst z;exact kI q
  .obtain⟨O,q,z|⟨_,z⟩⟩:=lk y _ Q
   .subst z;exact kI q
   .cases z
 .-- cab
  have hk:f.names.lookup y=aa .cell:=by simpa using(show(f.names.lookup y == aa .cell)=ah from h)
  show s.heap.objs.size<=c;rcases I.cbIn B fV with⟨a1,a2⟩|⟨a1,a2⟩
  .have:=(C a1).2.1;lia
  .obtain⟨c',P⟩:=uz (n:=s.heap.objs.size+1) (a:=[]) _ (jT hk);have e:(kf X f s.heap.objs.size).lookup y=aa c':=by rw[wB,CH,P];rfl
   have S:(kf X f s.heap.objs.size).lookup y=aa c:=fV;rw[e]at S;cases S;have:=(C (jT P)).2.1;lia
 .-- exf
  obtain⟨f0,f1,f2,f3,f4,f5⟩:=Y b G;obtain⟨o,L⟩:=hfo b G;refine⟨λe=>absurd (bM L) (by rw[e];exact ii _),λy c h=>?_⟩;rcases I.cbIn B h with⟨a1,a2⟩|⟨a1,a2⟩
  .rintro rfl;exact uk (C a1).2.1 (bM L)
  .exact f4 y c a2
 .-- noex
  obtain⟨f0,f1,f2,f3,f4,f5⟩:=Y b G;rcases f3 with z|z
  .exact I.ok.noex b o e z
  .exact absurd (gJ (bM e) (cK I.ok.bsz z)) (ii _)
 .-- exfs
  obtain⟨f0,f1,f2,f3,f4,f5⟩:=Y b G;rcases dm.mp (I.stkSub b hf)with z|z
  .exact f1 z
  .exact f2 z
 .-- loc
  cases i with
  |zero=>simp at S
  |succ i=>
   have K:(eZ w g)[i]?=aa (aa v):=by simpa using S
   unfold eZ at K;rw[fN]at K;cases Z:g[i]? with
   |none=>rw[Z]at K;cases K
   |some j=>
    rw[Z]at K;have T:(w[j]?).join=aa v:=cp K;have e5:w[j]?=aa (aa v):=by
     cases hq:w[j]? with
     |none=>rw[hq]at T;cases T
     |some o=>rw[hq]at T;exact congrArg aa T
    obtain⟨b1,b2⟩:=(B.caps i j y e1 Z).elim id λz=>by have:=(bY.mp e5).1;rw[I.len]at this;exact absurd this (Nat.not_lt.mpr z.1)
    obtain⟨mm,hn,hl⟩:=I.loc;have rN:=B.free _ (jT b2) rfl;have W:d_ X.env.scope y:=by
     rcases rN with z|z
     .exact .inr (.inl z)
     .exact .inr (.inr z)
    obtain⟨u,r,l⟩:=hl j y v b1 e5 W;refine⟨u,r,.inr ⟨xz b2,?_⟩⟩;rcases l with⟨l,_⟩|⟨_,c,hc,uY⟩
    .rcases rN with z|z
     .rw[l]at z;cases z
     .rw[l]at z;cases z
    .obtain⟨c',P⟩:=J y b2;have e6:=I.clIn B P;rw[hc]at e6;cases e6;obtain⟨M,L,hd⟩:=uY;exact⟨c,I.cbOld B P b2,M,F c M L,hd⟩
 .rcases I.cbIn B h with⟨a1,a2⟩|⟨a1,a2⟩
  .exact⟨ag,(C a1).1⟩
  .obtain⟨v,M,L,hd⟩:=I.cell y c a2;exact⟨v,M,F c M L,hd⟩
 .rcases I.cbIn B h with⟨a1,a2⟩|⟨a1,a2⟩
  .exact I.hok.fresh (cK (Nat.le_succ _) (C a1).2.1)
  .exact I.freeC y c a2
 .have dr:p∈X.pn++A:=by simpa[bP]using hp
  obtain⟨e,n,ne,nf,d⟩:=I.pin p dr;refine⟨F _ _ e,n,gh (bM e),λhf=>?_,d⟩;rcases dm.mp (I.stkSub p.1 hf)with z|z
  .exact ne z
  .exact nf z
 .show(ag::eZ w g).length=D.length;rw[B.len];simp[eZ]
end
def oW(X:Cx)(b:List aA)(t:TT):Prop :=
 ∀(d:List (af×Obj)) (s:ao) (a:St) (H:Hp) (Q:Bool->Hp->Prop),Inv X d a H s->t a H Q ->
  aC (ay X.prog X.w) X.A (forIn b ah λc r=>if r=ah then do let ok <-lh c X.env (bi c X.env);pure (ForInStep.yield ok)else pure (ForInStep.yield r)) (TP X d a Q) X.xe s
theorem Fs{P:aT}{w:aK}{A:aV}{R:Result->ao->Prop}{s:ao}{l p g:aA}{i:List aA}{e:dD}{o:Pos}{q B:ai}{d:Env}(J:Nat->ao->Prop)(m:∀k n,J k n->aC (ay P w) A (pyNext q) (λr z=>match r with
   |none=>R (.ok .next) z
   |some v=>aC (ay P w) A (xP p q v) (λ_ F=>aC (ay P w) A (li p d v) (λ_ E=>aC (ay P w) A (forIn i ah λc r=>if r=ah then do let ok <-lh c d (bi c d);pure (ForInStep.yield ok)else pure (ForInStep.yield r)) (λb u=>if b=ah then aC (ay P w) A (bi l d) (λy D=>aC (ay P w) A (call (.builtin "list.append") [B,y]) (λ_ C=>∃j,j<k/\J j C) (λ_ _=>False) D) (λ_ _=>False) u else ∃j,j<k/\J j u) (λ_ _=>False) E) (λ_ _=>False) F) (λ_ _=>False) z) (λ_ _=>False) n) (k:Nat) (h:J k s) :
  l0 (ay P w) A (.compLoop (.ListComp l [⟨p,g,i,0⟩] e o) 0 q B d) R s:=by
 refine codeAny_loop rfl J (λj n I=>?_) k h;show aC _ A (Sem.onRaise (compTurn (.ListComp l [⟨p,g,i,0⟩] e o) 0 q B d) (λx=>do noteFrame x d;theTreesLotGoes x)) _ _ n;refine wpAny_noted ?_;rw[compTurn_list];have no:∀(O:ai->ao->Prop) (a:ai) (b:ao),False->O a b:=λ_ _ _ f=>f.elim;refine az (wpAny_standAt (az (fj (m j n I) (λr z H=>?_) (no _))));cases r with
 |none=>exact bg H
 |some v=>
  refine az (fj H (λ_ F N=>az (fj N (λ_ E M=>az (fj M (λb u G=>?_) (no _))) (no _))) (no _));cases b with
  |true=>exact az (az (fj G (λy D L=>az (fj L (λ_ C K=>bg (bg ⟨rfl,K⟩)) (no _))) (no _)))
  |false=>exact bg ⟨rfl,G⟩
def E2:TT:=λ_ H Q=>Q ah H
theorem Ag{X:Cx}:oW X [] E2:=λ_ _ _ H _ I h=>wpAny_tests_nil ⟨H,I,h⟩
theorem KM{X:Cx}{c:aA}{t:TT}(h:PT X c t):oW X [c] t:=λd s a H Q I b=>wpAny_tests_one (h d s a H Q I b)
def xE(p:TI)(g:V->Hp->St->Prop)(k:Nat)(q:TT)(r:TE)(d:List Nat):TE:=λf H Q=>p f H λJ o=>∀l,o l=ag->∃W:Nat->Nat->List V->Hp->Prop,(∃m,W 0 m [] (upd o l (.lst [])))/\∀i m a H,W i m a H ->
 (J.stop i H/\Q (.ref l) H)\/(J.go i H/\∀v h,J.yld i H v h->∃e,e.length=k+1/\g v h e/\q (e++(eZ f d).drop k) h λb n=>if b=ah then r (e++(eZ f d).drop k) n λy j=>j l=aa (.lst a)/\a.length<bj/\∃c,c<m/\W (i+1) c (a++[y]) (upd j l (.lst (a++[y]))) else ∃c,c<m/\W (i+1) c a n)
def Ci:V->Hp->St->Prop:=λv _ a=>a=[aa v]
abbrev ur(b:TI)(c:TT)(d:TE)(a:List Nat):TE:=xE b Ci 0 c d a
section
variable{X:Cx}{m:List (af×Obj)}{w:St}{H:Hp}{s:ao}{g:dD}{x:Str}{j:List Str}{l:List Nat}
theorem Inv.unblock{r:List af}{p:Hp}{y:St}{s':ao}{h:aB}(I:Inv X m w H s)(E:∀b∈r,jP X m H b)(a:Inv (bP X g j s.heap.objs.size s H r m) [] y p s') (sb:uB s.heap.objs.size s'.heap h):Inv X m w p {s' with heap:=h}:=by
 have k:∀b o,b≠s.heap.objs.size->s'.heap.get? b=aa o->h.get? b=aa o:=λb o f e=>(sb.2 b f).trans e;have A:∀b o,s.heap.get? b=aa o->b≠s.heap.objs.size:=λb o e=>gh (bM e);have un:Un (eL X.stack) r H p s.heap h:=by
  refine⟨λb o e n f d=>k b o (A b o e) (a.base.keep b o e n f d),λb o e n f d=>?_,λb o e n d=>a.base.free b o e n d,λb o e d=>?_,a.base.tups,a.base.frzs,a.base.tbls⟩
  .obtain⟨D,q⟩:=a.base.slot b o e n f d;exact⟨D,k b _ (A b o e) q⟩
  .obtain⟨C,q⟩:=a.base.there b o e d;exact⟨C,k b C (A b o e) q⟩
 have B:cG X.prog X.w p h:=λb u e=>by
  have i:p s.heap.objs.size=ag:=a.free;refine(a.hok b u e).stay (λc v F q=>k c v ?_ q) (λ_ q=>q) λ_ _ q=>q;rintro rfl;rcases F with z|z
  .rw[<-z,i]at e;cases e
  .rw[i]at z;cases z
 refine I.call' (s':={s' with heap:=h}) (ch:=r) a.os un B a.bare λb f=>?_;obtain⟨K,J,f2,f3,f4,G⟩:=E b f;exact⟨f3,J,f4,G⟩
theorem Bz{elt G tg:aA}{pos pos':Pos}{ifs:List aA}{wi:TI}{tgf:V->Hp->St->Prop}{k:Nat}{ts:TT}{te:TE}{use:Option (ai->Sem Unit)}{Q:ai->ao->Prop}{Qp:VK}(B:iD X g x j l)(hk:k<=l.length)(hc:X.calm=ah)(hi:PI X tg G wi)(d9:∀C F K ex pn,PG (bP X g j C F K ex pn) tg λv O H Q=>∃Y,Y.length=k+1/\O.length=j.length/\tgf v H Y/\Q (Y++O.drop (k+1)) H)(ht:∀C F K ex pn,oW (bP X g j C F K ex pn) ifs ts) (he:∀C F K ex pn,PE (bP X g j C F K ex pn) elt te) (hs:∀x,kA G X.env x=pure x) (I:Inv X m w H s) (h:xE wi tgf k ts te l w H Qp)(fin:∀{A s6:ao}{P H5:Hp}{L σ5 a f},Inv X m w P A->(∀b∈L,jP X m P b)->Inv (bP X g j A.heap.objs.size A P L m) [] σ5 H5 s6->Qp (.ref a) H5->compPost (ay X.prog X.w) X.A X.xe use Q (.ref a) A.heap.objs.size (.ok f) s6):aC (ay X.prog X.w) X.A (comprehension (.ListComp elt [⟨tg,G,ifs,0⟩] g pos) g X.env pos' (newList []) aj (bi G X.env) use) Q X.xe s:=by
 refine wpAny_comprehension_free (use:=use) rfl hs (J9 (I.freeHas B)) B.kind B.names (a6 (hi m s w H _ I h) λv s1 h1=>a6 h1 λitv E h2=>?_);obtain⟨it,L,tn,J,H2,e,I2,T,aW,f2,h2⟩:=h2;subst e;refine l5 ?_;have I3:Inv X m w (upd H2 E.heap.objs.size (.lst [])) {E with heap:=E.heap.push {cls:=.type "list",data:=.seq ([]:List ai).toArray},toks:=E.toks}:=I2.lnew (its:=[]) (t':=E.toks) .nil (l8 _);obtain⟨W,⟨m0,w0⟩,turn⟩:=h2 E.heap.objs.size I2.fresh;generalize gR:({E with heap:=E.heap.push {cls:=.type "list",data:=.seq ([]:List ai).toArray},toks:=E.toks}:ao)=A at I3;have hs3':({E with heap:=E.heap.push {cls:=.type "list",data:=.seq ([]:List ai).toArray}}:ao)=A:=gR;generalize hH3:upd H2 E.heap.objs.size (.lst [])=P at I3 w0;have nl:∀b∈L,b≠E.heap.objs.size:=λb D e=>by obtain⟨o,ho,_⟩:=T.obj _ _ aW b D;exact absurd (bM ho) (by rw[e];exact ii _)
 have k3:∀b o,E.heap.get? b=aa o->A.heap.get? b=aa o:=λb o e=>by rw[<-gR];exact dE _ e
 have f3:∀b∈L,jP X m P b:=λb D=>⟨by rw[<-hH3,bd (nl b D)];exact(f2 b D).1,(f2 b D).2⟩
 have bt:tn 0 A.heap:=T.keep _ _ _ aW λb _ o e=>k3 b o e;have fo3:∀b∈L,∃o,A.heap.get? b=aa o:=λb D=>(T.obj _ _ bt b D).imp λo q=>q.1;refine G1 ?_;generalize hh:pushCells (A.heap.push {cls:=.type "dict",data:=.dict #[]}) g.names=h₁;have old:∀b o,A.heap.get? b=aa o->h₁.get? b=aa o:=λb o e=>hh ▸ pushCells_keeps _ _ b o (dE _ e);have pV:h₁.Ns A.heap.objs.size (λ_=>ag):=hh ▸ (Heap.Ns.new A.heap (.type "dict")).keeps (pushCells_keeps _ _);have I4:=Inv.block (t':=A.toks) hh.symm I3 B f3 fo3 pV old;have bK:tn 0 h₁:=T.keep _ _ _ bt λb _ o e=>old b o e;have M:∀{H':Hp},(∀b∈L,H' b=ag)->∀b∈L,jP (bP X g j A.heap.objs.size A P L m) [] H' b:=λhn b D=>by
  obtain⟨f0,f1,f2',f3',f4,f5⟩:=f3 b D;refine⟨hn b D,λe=>?_,λhf=>?_,.inl D,λy c h=>?_,λp hp=>f5 p (by simpa[bP]using hp)⟩
  .obtain⟨o,ho⟩:=fo3 b D;exact absurd (bM ho) (by rw[show b=A.heap.objs.size from e];exact ii _)
  .rcases dm.mp (I3.stkSub b hf)with z|z
   .exact f1 z
   .exact f2' z
  .rcases I3.cbIn B h with⟨a1,a2⟩|⟨a1,a2⟩
   .rintro rfl;obtain⟨o,ho⟩:=fo3 _ D;exact uk (zY a1).2.1 (bM ho)
   .exact f4 y c a2
 have Z:l0 (ay X.prog X.w) X.A (.compLoop (.ListComp elt [⟨tg,G,ifs,0⟩] g pos) 0 (.ref it) (.ref E.heap.objs.size) (compEnvC g (kf X g A.heap.objs.size) A.heap.objs.size X.env))
   (compPost (ay X.prog X.w) X.A X.xe use Q (.ref E.heap.objs.size) A.heap.objs.size) {A with heap:=h₁,toks:=A.toks}:=by
  refine Fs (λn s'=>∃i S O H',(∃pre:St,pre.length=k+1/\O=pre++(eZ w l).drop k)/\Inv (bP X g j A.heap.objs.size A P L m) [] O H' s'/\tn i s'.heap/\(∀b∈L,H' b=ag)/\W i n S H') ?_ m0
   ⟨0,[],_,P,⟨(ag::eZ w l).take (k+1),by simp[eZ];lia,by rw[<-List.drop_succ_cons (a:=ag)];exact(uJ _ _).symm⟩,I4,bK,λb D=>(f3 b D).1,w0⟩
  rintro n s5 ⟨i,S,σ5,H5,⟨pre,rQ,rfl⟩,I5,bT,fr5,w5⟩;rcases turn i n S H5 w5 with⟨stop,q⟩|⟨go,step⟩
  .refine fj (T.done (bP X g j A.heap.objs.size A P L m) rfl rfl rfl hc i [] s5 _ H5 (λ_ _=>False) I5 (M fr5) bT stop) (λr s6 ⟨hr,I6⟩=>?_) (λ_ _ f=>f.elim);subst hr;exact fin I3 f3 I6 q
  .refine fj (T.item (bP X g j A.heap.objs.size A P L m) rfl rfl rfl hc i [] s5 _ H5 (λ_ _=>False) I5 (M fr5) bT go) (λr s6 ⟨u,hr,h6⟩=>?_) (λ_ _ f=>f.elim);subst hr;refine fj h6 (λ_ s7 ⟨v,H7,I7,r7,y7,st7,fr7⟩=>?_) (λ_ _ f=>f.elim);have I7':=I7.pinned (M fr7) (T.obj _ _ st7);have back:∀{N:St}{H8:Hp}{s8:ao},Inv (bP X g j A.heap.objs.size A P L m) ([]++qU L s7.heap) N H8 s8->tn (i+1) s8.heap/\(∀b∈L,H8 b=ag):=λ{N H8 s8} I8=>⟨T.keep _ _ _ st7 λb D o e=>(I8.pin (b,o) (jR _ (jR _ (tZ D e)))).1,λb D=>by obtain⟨o,e,d⟩:=T.obj _ _ st7 b D;exact(I8.pin (b,o) (jR _ (jR _ (tZ D e)))).2.1⟩
   obtain⟨Y,iz,htg,step⟩:=step v H7 y7;refine a6 (d9 _ _ _ _ _ _ s7 _ H7 v u (λN H8=>N=Y++(eZ w l).drop k/\H8=H7) I7' r7 ⟨Y,iz,I7'.len,htg,by rw[List.drop_append_of_le_length ∅,List.drop_eq_nil_of_le ∅];rfl,rfl⟩) λ_ s8 ⟨N,H8,I8,e8,e8'⟩=>?_;subst e8 e8';refine a6 (ht _ _ _ _ _ _ s8 _ _ _ I8 step) λb s9 ⟨H9,I9,q9⟩=>?_;cases b with
   |false=>
    obtain⟨m',hm,w9⟩:=(show ∃m',m'<n/\W (i+1) m' S H9 from q9)
    exact⟨m',hm,i+1,S,_,H9,⟨Y,iz,rfl⟩,I9.unpinned,(back I9).1,(back I9).2,w9⟩
   |true=>refine a6 (he _ _ _ _ _ _ s9 _ H9 _ I9 q9) λu10 s10 ⟨y,H10,I10,r10,hl10,hz10,m',hm,w10⟩=>?_;refine a6 (AT _ s10 _ H10 (.ref E.heap.objs.size) [y] _ [u10] (λz H11=>H11=upd H10 E.heap.objs.size (.lst (S++[y]))) I10 rfl (.cons r10 .nil) ⟨_,S,y,rfl,rfl,hl10,hz10,rfl⟩) λ_ s11 ⟨_,H11,I11,_,e11⟩=>?_;subst e11;exact⟨m',hm,i+1,S++[y],_,_,⟨Y,iz,rfl⟩,I11.unpinned,(back I11).1,(back I11).2,w10⟩
 exact codeAny_compStart_list Z (T.self _ 0 _ _ _ bK Z)
theorem zr{p:Pos}(B:iD X g x j l):∀C b c f e,PG (bP X g j C b c f e) (.Name x p) λv d H Q=>∃i,i.length=0+1/\d.length=j.length/\Ci v H i/\Q (i++d.drop (0+1)) H:=by
 intro C b c f e m s d H v u Q I r h;obtain⟨i,_,z,y,q⟩:=h;cases (show i=[aa v] from y);have A:Loc (bP X g j C b c f e).env.scope x:=B.loc.elim (λh=>.inl (lookup_relabel_local h)) (λh=>.inr (wj h));have n:(bP X g j C b c f e).fn x=ah\/(bP X g j C b c f e).env.scope.names.lookup x=aa .local:=B.loc.elim (λh=>.inr (lookup_relabel_local h)) (λh=>.inl (by show(g.names.lookup x == aa .cell)=ah;rw[h];rfl));have o:(bP X g j C b c f e).N[0]?=aa x:=by show j[0]?=aa x;rw[<-List.head?_eq_getElem?];exact B.hd
 refine xI B.nd o A n m s d H v u Q I r ?_;show Q (d.set 0 (aa v)) H;cases d with
 |nil=>rw[List.length_nil,B.len]at z;lia
 |cons a r=>exact q
theorem GJ{e b:aA}{o pos:Pos}{d:List aA}{wi:TI}{ts:TT}{te:TE}(B:iD X g x j l)(A:X.calm=ah)(y:PI X (.Name x o) b wi)(u:∀C a c n f,oW (bP X g j C a c n f) d ts) (z:∀C a c n f,PE (bP X g j C a c n f) e te) (v:∀x,kA b X.env x=pure x:=by intro _;rfl):PE X (.ListComp e [⟨.Name x o,b,d,0⟩] g pos) (ur wi ts te l):=by intro m s w H Q I h;rw[eval_ListComp];exact Bz (use:=ag) B (l8 _) A y (zr B) u z v I h λD f3 p q=>by obtain⟨r,i,_⟩:=p.loc;exact⟨r,i,λE sb=>⟨.ref _,_,D.unblock f3 p sb,rfl,q⟩⟩
end
def Walk(J:It)(xs:List V)(R:Hp->Prop):Prop :=
 ∀H,R H->∀i,(∀x,xs[i]?=aa x->J.go i H/\∀y a,J.yld i H y a->a=H/\y=x)/\(i=xs.length->J.stop i H)
theorem Hn{K:ar}{a:af}{xs:List V}:Walk (vB K a) xs (λH=>b7 K H a xs):=λH h i=>⟨λx b=>⟨⟨xs,x,h,b⟩,λy d z=>⟨z.1,by have:=z.2 xs h;rw[b]at this;exact(cp this).symm⟩⟩,λc=>⟨xs,h,nv c.symm⟩⟩
theorem DZ{K:ar}{a:af}{xs:List V}:Walk (wN K a) xs (λH=>cf K H a xs):=λH h i=>⟨λx b=>⟨⟨xs,x,h,b⟩,λy d z=>⟨z.1,by have:=z.2 xs h;rw[b]at this;exact(cp this).symm⟩⟩,λc=>⟨xs,h,nv c.symm⟩⟩
def oH(a:Int)(n:Nat):List V:=(cW n).map λi=>V.int (a+(i:Nat))
theorem vJ(a:Int)(n:Nat):(oH a n).length=n:=by simp[oH]
theorem Ge{b:Int}{n:Nat}:Walk (tK b n) (oH b n) (λ_=>True):=λH _ i=>by
 refine⟨λx a=>?_,λc=>by rw[vJ]at c;exact nv c.symm⟩;have d:i<n:=by have:=(bY.mp a).1;rw[vJ]at this;exact this
 refine⟨d,λy f z=>⟨z.1,?_⟩⟩;unfold oH at a;rw[fN,List.getElem?_range d]at a;have e:V.int (b+(i:Nat))=x:=cp a;rw[z.2,<-e]
def sg(c:Nat):V:=.str ⟨#[c]⟩
def re(z:Str):It:=⟨λi _=>i<z.cps.size,λi H x a=>a=H/\∃c,z.cps[i]?=aa c/\x=sg c,λi _=>i=z.cps.size⟩
theorem Ib{z:Str}:Walk (re z) (z.cps.toList.map sg) (λ_=>True):=λH _ i=>by
 refine⟨λx a=>?_,λd=>by show i=z.cps.size;simpa using d⟩;rw[fN]at a;cases e:z.cps.toList[i]? with
 |none=>rw[e]at a;cases a
 |some c=>
  rw[e]at a;have f:i<z.cps.size:=by have:=(bY.mp e).1;simpa using this
  refine⟨f,λy h w=>⟨w.1,?_⟩⟩;obtain⟨g,b,rfl⟩:=w.2;have:z.cps[i]?=aa c:=by simpa using e
  rw[this]at b;cases b;exact(cp a)
section
variable{X:Cx}{a:aA}
theorem Jg{P:aT}{w:aK}{K:ar}{z:Str}{d:af}{f:Nat->aB->Prop} (S:∀i h,f i h->∃o n r,h.get? d=aa o/\o.cls=.type n/\o.data=.fields r /\ ["enumerate","zip","dict_itemiterator","dict_reverseitemiterator","odict_iterator","itertools.zip_longest","itertools.pairwise"].contains n=aj)(Y:∀(A:aV) (i:Nat) (s:ao) (Q:ai->ao->Prop) (E:ai->ao->Prop),f i s.heap->Q (.ref d) s->aC (ay P w) A (pyIter (.ref d)) Q E s)(C:∀A:aV,A.handled=ag->Walks P w A d [d] [d] z.cps.size (SignAt z) f):oF P w K a (re z) [d] d f where
 mem:=by simp
 obj:=λi h g b j=>by
  have e:b=d:=by simpa using j
  subst e;obtain⟨o,n,r,J,_,G,_⟩:=S i h g;exact⟨o,J,λv q=>by rw[G]at q;cases q⟩
 keep:=λi h m g k=>by exact(C ({}:aV) rfl).frame i h m g k
 item:=by intro X D x F B i W s O H E I p g y;subst D x F;obtain⟨N,M,f2,f3,f4,L⟩:=p d (by simp);refine(C X.A (I.ok.hd B)).item i s _ _ y g λv m l hv T k=>?_;have I1:Inv X W O H {s with heap:=m,toks:=l}:=I.turned (t':=l) (λb o j e=>k b o (by simpa using j) e) N M f3 f4 L;obtain⟨o,n,r,J,h2,G,h4⟩:=S _ _ T;obtain⟨c,u,e1,rfl⟩:=hv;exact⟨_,rfl,qf (s:={s with heap:=m,toks:=l}) J h2 G h4 ⟨sg c,H,I1,⟨u,rfl⟩,⟨rfl,c,e1,rfl⟩,T,λb j=>(p b j).1⟩⟩
 done:=by intro X D x F B i W s O H E I p g y;subst D x F;obtain⟨N,M,f2,f3,f4,L⟩:=p d (by simp);have Z:i=z.cps.size:=y;subst Z;exact(C X.A (I.ok.hd B)).done s _ _ g λm l k=>⟨rfl,I.turned (t':=l) (λb o j e=>k b o (by simpa using j) e) N M f3 f4 L⟩
 self:=Y
theorem Bg{J:It}{xs:List V}{R:Hp->Prop}{g:TG}{l:TS}{D:iV}{b:St}{H:Hp}(B:Walk J xs R)(c:Nat->St->Hp->Prop)(C:c 0 b H)(w:∀i b H,i<=xs.length->c i b H->R H)(v:∀i x b H,xs[i]?=aa x->c i b H->g x b H λf j=>l {D with nx:=c (i+1),ct:=c (i+1),bk:=D.nx} f j) (A:∀b H,c xs.length b H->D.nx b H):∃W:Nat->Nat->St->Hp->Prop,(∃m,W 0 m b H)/\∀i m b H,W i m b H -> (J.stop i H/\D.nx b H)\/(J.go i H/\∃N:St->Hp->Prop,(∀h d,N h d->∃n,n<m/\W (i+1) n h d)/\∀x d,J.yld i H x d->g x b d λf j=>l {D with nx:=N,ct:=N,bk:=D.nx} f j):=by
 refine⟨λi m b H=>m=xs.length-i/\i<=xs.length/\c i b H,⟨xs.length,by simp,l8 _,C⟩,?_⟩;rintro i m b H ⟨rfl,z,p⟩;have q:=B H (w i b H z p) i;by_cases r:i<xs.length
 .have o:xs[i]?=aa xs[i]:=by simp[r]
  obtain⟨E,s⟩:=q.1 xs[i] o;refine .inr ⟨E,c (i+1),λh d u=>⟨xs.length-(i+1),∅,rfl,r,u⟩,λx d y=>?_⟩;obtain⟨rfl,rfl⟩:=s x d y;exact v i _ b _ o p
 .have e:i=xs.length:=∅
  subst e;exact .inl ⟨q.2 rfl,A b H p⟩
theorem Kh{b:Type}(l:List b)(f:b->Bool)(d:Nat->Bool)(c:∀i x,l[i]?=aa x->d i=f x):(cW l.length).all d=l.all f:=by
 induction l generalizing d with
 |nil=>rfl
 |cons x r e=>rw[eP,CI,lm,rG,lm,c 0 x rfl];congr 1;exact e _ λi y h=>c (i+1) y (by simpa using h)
theorem Kx{bs:List Bool}{b:List ai}(r:bv (bs.map V.bl) b){i:Nat}{v:ai}(h:b.toArray[i]?=aa v):v=.bool (bs.getD i aj):=by
 have d:=r.length;rw[cr]at d;have g:i<b.length:=by have:=(ny.mp h).1;simpa using this
 have e:(bs.map V.bl)[i]?=aa (.bl (bs.getD i aj)):=by rw[fN,dY ∅];simp[List.getD,dY (show i<bs.length by lia)]
 obtain⟨u,c,f⟩:=r.get e;have:b[i]?=aa v:=by simpa using h
 rw[this]at c;cases c;exact f
theorem y8{A:aV}(h:A.handled=ag):A.in1.handled=ag:=h
theorem BN(j:X.calm=ah):eI X (.builtin "all") (λxs H Q=>∃(p:af) (bs:List Bool),xs=[.ref p]/\b7 X.K H p (bs.map V.bl)/\Q (.bl (bs.all id)) H):=by
 intro M s n H xs O Q I r h;obtain⟨p,bs,rfl,E,q⟩:=h;obtain⟨u,rfl,y⟩:=vals1 r;cases y;obtain⟨d,l,f,S⟩:=I.list E;have m:=l.length;rw[cr]at m;refine call_all_walk (wpAny_pyIter_list f.isList ?_);have L:p≠s.heap.objs.size:=by obtain⟨o,g,_⟩:=f.isList;exact gh (bM g)
 refine⟨s.heap.objs.size,_,_,_,_,_,λi=>bs.getD i aj,rfl,Walks.list (y8 (I.ok.hd j)) s.heap.objs.size p L d.toArray,⟨⟨_,fL _ rfl,rfl,rfl⟩,?_⟩,λi v P W Y D K=>?_,λT w k=>?_⟩
 .obtain⟨o,g,j,G⟩:=f.isList;exact⟨o,dE _ g,j,G⟩
 .rw[Kx l D];exact nq K
 .have e:(cW d.toArray.size).all (λi=>bs.getD i aj)=bs.all id:=by
   rw[cq,<-m];exact Kh bs id _ λi x C=>by simp[List.getD,C]
  rw[e];have N:Inv X M n H {s with heap:=s.heap.push {cls:=.type "list_iterator",data:=.fields #[.ref p,.int 0 0]},toks:=s.toks}:=I.kept (t':=s.toks) λb o e=>dE _ e;exact⟨.bl _,H,Inv.turned (t':=w) N (it:=s.heap.objs.size) (λb o J e=>k b o (by simpa using J) e) I.fresh (xO I.lt) (.inr I.sz) (λx c e z=>by obtain⟨v,A⟩:=I.cell x c e;exact absurd A.lt (by rw[z];exact ii _)) (λB F z=>absurd (bM (I.pin B F).1) (by rw[z];exact ii _)),rfl,q⟩
end
section
variable{X:Cx}
def ki(z:Str)(a b:Option Int):Str:=⟨((z.cps.toList.drop (HT.sIx z.length 0 a)).take (HT.sIx z.length z.length b-HT.sIx z.length 0 a)).toArray⟩
theorem IC(a b:Nat):sliceRange (a:Int) (b:Int) 1=(cW (b-a)).map λk=>a+k:=by
 unfold sliceRange;have e:(if(1:Int) > 0 then(if(a:Int)<(b:Int)then((b:Int)-a+1-1) / 1 else 0)else(if(a:Int) > b then((a:Int)-b-1-1) / (-1)else 0)).toNat=b-a:=by
  rw[if_pos (by decide)];split
  .rw[Int.ediv_one];lia
  .have:b-a=0:=∅
   rw[this];rfl
 show(cW (if(1:Int) > 0 then(if(a:Int)<(b:Int)then((b:Int)-a+1-1) / 1 else 0)else(if(a:Int) > b then((a:Int)-b-1-1) / (-1)else 0)).toNat).map _=_;rw[e];refine uK λk _=>?_;lia
theorem Ev(a b:Option Int)(n:Nat):Builtin.Str.strSliceIndices a b 1 n=(cW (HT.sIx n n b-HT.sIx n 0 a)).map λk=>HT.sIx n 0 a+k:=by
 rw[<-IC];have p:(1:Int) > 0:=by decide
 cases a <;> cases b <;> (unfold Builtin.Str.strSliceIndices HT.sIx;simp only[p,if_true];congr 1 <;> (try split) <;> lia)
theorem FI{b:Type}(l:List b)(a k:Nat):((cW k).map λj=>a+j).filterMap (λi=>l[i]?)=(l.drop a).take k:=by
 induction k with
 |zero=>simp
 |succ k c=>
  rw[List.range_succ,List.map_append,List.filterMap_append,c,List.take_succ];congr 1;simp[xM];cases l[a+k]? <;> rfl
theorem FC(z:Str)(t:Tok)(l u:Option (Int×Tok)):∃m,sliceMade z t l u ag=m/\(m=.val (.str z t)/\ki z (l.map (·.1)) (u.map (·.1))=z\/m=.str (ki z (l.map (·.1)) (u.map (·.1)))):=by
 refine⟨_,rfl,?_⟩;unfold sliceMade slicePicked;have e:=Ev (l.map (·.1)) (u.map (·.1)) z.length;simp only[Option.map_none,CD];rw[e];have d:=FI z.cps.toList (HT.sIx z.length 0 (l.map (·.1))) (HT.sIx z.length z.length (u.map (·.1))-HT.sIx z.length 0 (l.map (·.1)));have b:(((cW (HT.sIx z.length z.length (u.map (·.1))-HT.sIx z.length 0 (l.map (·.1)))).map λk=>HT.sIx z.length 0 (l.map (·.1))+k).filterMap (z.cps[·]?)).toArray=(ki z (l.map (·.1)) (u.map (·.1))).cps:=by unfold ki;rw[<-d];simp
 split
 .rename_i h;left;refine⟨rfl,?_⟩;simp only[beq_self_eq_true,pI,cr,List.length_range,beq_iff_eq]at h;have g:HT.sIx z.length z.length (u.map (·.1))<=z.length:=HT.sIx_le _ _ (bB _) _;have f:z.cps.toList.length=z.length:=by simp[Str.length]
  have a:HT.sIx z.length 0 (l.map (·.1))=0\/z.length=0:=∅
  unfold ki;rw[h];rcases a with a|a
  .rw[a,List.drop_zero,rH ∅]
  .have:z.cps.toList=[]:=uL ∅;rw[this];cases z;rename_i c;simp at this;subst this;simp
 .right;rw[show(⟨(((cW (HT.sIx z.length z.length (u.map (·.1))-HT.sIx z.length 0 (l.map (·.1)))).map λk=>HT.sIx z.length 0 (l.map (·.1))+k).filterMap (z.cps[·]?)).toArray⟩:Str)=ki z (l.map (·.1)) (u.map (·.1))from by rw[b]]
def AG:V->Option Int->Option Int->Hp->VK->Prop:=λx a b H Q=>∃z,x=.str z/\z.length<=bj/\Q (.str (ki z a b)) H
theorem JY(z:Str)(a b:Option Int):(ki z a b).length<=z.length:=by unfold ki Str.length;simp;lia
theorem part_of{v:ai}{o:Option Int}(p:jU v o):∃q:Option (Int×Tok),v=partValue q/\q.map (·.1)=o:=by
 cases p with
 |none=>exact⟨ag,rfl,rfl⟩
 |int i t=>exact⟨aa (i,t),rfl,rfl⟩
theorem Li:jE X AG:=by
 intro y s n H x v p o r w a Q I b g d c h;obtain⟨z,rfl,f,q⟩:=h;obtain⟨t,rfl⟩:=b;obtain⟨l,rfl,rfl⟩:=part_of d;obtain⟨u,rfl,rfl⟩:=part_of c;refine⟨"str",_,F.slot_str_getitem.lookup,typeIs_str s z t,?_⟩;obtain⟨m,j,i⟩:=FC z t l u;refine getItem_meets (typeIs_str s z t) (by decide) F.slot_str_getitem F.entry_str_getitem (F.args_str_getitem_2 _ _) (meets_str_getitem_slice z t a l u ag (by decide)) ⟨g,?_⟩;rw[j];rcases i with⟨rfl,e⟩|rfl
 .exact⟨.str z,H,I,⟨t,rfl⟩,by rw[e]at q;exact q⟩
 .exact⟨cK (JY z _ _) f,⟨.str _,H,I.tok _,⟨_,rfl⟩,q⟩⟩
def f8(K:ar)(H:Hp)(d:Nat)(x y:V)(k:Bool):Prop :=
 ∀(X:Cx),X.K=K->∀(b:List (af×Obj)) (a:St) (s:ao) (u v:ai) (A:aV),Inv X b a H s->RelV x u->RelV y v->A.units+d<cLine->rF A s u v k
theorem Ez{K:ar}{H:Hp}{d:Nat}{x y:V}(e:fF x=ah)(c:fF y=ah):f8 K H d x y (dS x y):=λ_ _ _ _ _ _ _ _ _ b a _=>An b a e c
def eY(e:Nat->Bool)(n m:Nat):Bool:=(cW (min n m)).all e&&n == m
theorem Ch{A:aV}:A.in1.units=A.units+1:=rfl
theorem wp{H:Hp}{d:Nat}{a b:af}{xs c:List V}{e:Nat->Bool}{E:List (af×Obj)}{o:St}{s:ao}{A:aV}(I:Inv X E o H s)(M:b7 X.K H a xs)(L:b7 X.K H b c)(K:∀(j:Nat) x y,xs[j]?=aa x->c[j]?=aa y->f8 X.K H d x y (e j)) (S:A.units+(d+1)<cLine):SeqAt.RcAt A s (.ref a) (.ref b) (eY e xs.length c.length)/\SeqAt.RcNeAt A s (.ref a) (.ref b) (!eY e xs.length c.length):=by
 obtain⟨g,q,n,_⟩:=I.list M;obtain⟨i,p,f,_⟩:=I.list L;have F:=q.length;have Q:=p.length;have z:∀j (C:j<g.toArray.size) (B:j<i.toArray.size),rF A.in1 s g.toArray[j] i.toArray[j] (e j):=λj C B=>by
  have O:j<g.length:=by simpa using C
  have N:j<i.length:=by simpa using B
  have l:xs[j]?=aa xs[j]:=dY ∅;have D:c[j]?=aa c[j]:=dY ∅;obtain⟨u,w,J⟩:=q.get l;obtain⟨v,r,G⟩:=p.get D;have P:g[j]=u:=by rw[dY O]at w;exact cp w
  have f2:i[j]=v:=by rw[dY N]at r;exact cp r
  have:=K j xs[j] c[j] l D X rfl E o s u v A.in1 I J G (by rw[Ch];lia);simpa[P,f2]using this
 by_cases h:xs.length=c.length
 .have m:g.toArray.size=i.toArray.size:=by simp;lia
  have l:eY e xs.length c.length=(cW g.toArray.size).all e:=by unfold eY;rw[h,Nat.min_self,beq_self_eq_true,Bool.and_true,cq,<-F,h]
  rw[l];exact⟨.lists n.isList f.isList m ∅ z,.lists n.isList f.isList m ∅ z⟩
 .have l:eY e xs.length c.length=aj:=by
   unfold eY;rw[beq_false_of_ne h,yb]
  have m:(g.toArray.size != i.toArray.size)=ah:=by simp;lia
  rw[l];exact⟨.lists_lengths n.isList f.isList m ∅,.lists_lengths n.isList f.isList m ∅⟩
theorem xA{H:Hp}{d:Nat}{a b:af}{xs c:List V}{e:Nat->Bool}{C:List (af×Obj)}{l:St}{s:ao}{A:aV}(I:Inv X C l H s)(L:cf X.K H a xs)(K:cf X.K H b c)(J:∀(j:Nat) x y,xs[j]?=aa x->c[j]?=aa y->f8 X.K H d x y (e j)) (P:A.units+(d+1)<cLine):SeqAt.RcAt A s (.ref a) (.ref b) (eY e xs.length c.length)/\SeqAt.RcNeAt A s (.ref a) (.ref b) (!eY e xs.length c.length):=by
 obtain⟨g,n,q,_⟩:=I.tuple L;obtain⟨f,m,h,_⟩:=I.tuple K;have D:=n.length;have G:=m.length;have r:∀j (z:j<g.toArray.size) (w:j<f.toArray.size),rF A.in1 s g.toArray[j] f.toArray[j] (e j):=λj z w=>by
  have N:j<g.length:=by simpa using z
  have M:j<f.length:=by simpa using w
  have i:xs[j]?=aa xs[j]:=dY ∅;have B:c[j]?=aa c[j]:=dY ∅;obtain⟨u,p,F⟩:=n.get i;obtain⟨v,o,E⟩:=m.get B;have O:g[j]=u:=by rw[dY N]at p;exact cp p
  have f2:f[j]=v:=by rw[dY M]at o;exact cp o
  have:=J j xs[j] c[j] i B X rfl C l s u v A.in1 I F E (by rw[Ch];lia);simpa[O,f2]using this
 have i:eY e xs.length c.length=((cW (min g.toArray.size f.toArray.size)).all e&&g.toArray.size == f.toArray.size):=by unfold eY;rw[cq,cq,<-D,<-G]
 rw[i];exact⟨.tuples q h ∅ r,.tuples q h ∅ r⟩
theorem Dp{K:ar}{H:Hp}{d:Nat}{a b:af}{xs c:List V}{e:Nat->Bool}(m:b7 K H a xs)(l:b7 K H b c)(o:a≠b)(i:∀(j:Nat) x y,xs[j]?=aa x->c[j]?=aa y->f8 K H d x y (e j)):f8 K H (d+1) (.ref a) (.ref b) (eY e xs.length c.length):=λX n q p s u v A I g f h=>by
 subst n;cases g;cases f;exact .of_refs o (wp I m l i h).1
theorem E9{K:ar}{H:Hp}{d:Nat}{a b:af}{xs c:List V}{e:Nat->Bool}(m:cf K H a xs)(l:cf K H b c)(o:a≠b)(i:∀(j:Nat) x y,xs[j]?=aa x->c[j]?=aa y->f8 K H d x y (e j)):f8 K H (d+1) (.ref a) (.ref b) (eY e xs.length c.length):=λX n q p s u v A I g f h=>by
 subst n;cases g;cases f;exact .of_refs o (xA I m l i h).1
theorem zv{K:ar}{H:Hp}{d:Nat}{a:af}:f8 K H d (.ref a) (.ref a) ah:=λX g h e s u v A I c b f=>by
 cases c;cases b;exact .same _
def qo(K:ar)(f:Bool):R2:=λx y H Q=>∃a b xs c d e,x=.ref a/\y=.ref b/\((b7 K H a xs/\b7 K H b c)\/(cf K H a xs/\cf K H b c))/\d<=8 /\
 (∀(j:Nat) x y,xs[j]?=aa x->c[j]?=aa y->f8 K H d x y (e j))/\Q (.bl (if f then !eY e xs.length c.length else eY e xs.length c.length)) H
theorem DQ(m:X.A.units+64<cLine):bH X (dP .Eq) (qo X.K aj):=by
 intro o s j H x y v u Q I g f h;obtain⟨a,b,xs,l,d,e,rfl,rfl,i,n,c,q⟩:=h;cases g;cases f;rcases i with⟨h1,h2⟩|⟨h1,h2⟩
 .exact(wp I h1 h2 c ∅).1 _ _ _ _ ⟨.bl _,H,I,rfl,q⟩
 .exact(xA I h1 h2 c ∅).1 _ _ _ _ ⟨.bl _,H,I,rfl,q⟩
theorem Io(m:X.A.units+64<cLine):bH X (dP .NotEq) (qo X.K ah):=by
 intro o s j H x y v u Q I g f h;obtain⟨a,b,xs,l,d,e,rfl,rfl,i,n,c,q⟩:=h;cases g;cases f;rcases i with⟨h1,h2⟩|⟨h1,h2⟩
 .exact(wp I h1 h2 c ∅).2 _ _ _ _ ⟨.bl _,H,I,rfl,q⟩
 .exact(xA I h1 h2 c ∅).2 _ _ _ _ ⟨.bl _,H,I,rfl,q⟩
def FV(K:ar):V->List V->Hp->VK->Prop:=λx a H Q=>∃(p:af) (xs:List V) (y:V),x=.ref p/\a=[y]/\H p=aa (.lst xs)/\fF y=ah/\xs.all fF=ah/\Q (.int ((xs.countP λz=>dS z y:Nat):Int)) H
theorem BG{y:V}:∀{xs:List V}{a:List ai},bv xs a->xs.all fF=ah->a.countP (fG y)=xs.countP λz=>dS z y
 |_,_,.nil,_=>rfl
 |z::xs,u::a,.cons r t,f=>by rw[lm,fP]at f;rw[List.countP_cons,List.countP_cons,sX r f.1,BG t f.2]
theorem Fp:ux X "list.count" (FV X.K):=by
 intro B s l H x m v o Q I c d h;obtain⟨p,xs,y,rfl,rfl,i,j,b,q⟩:=h;cases c;obtain⟨u,rfl,f⟩:=d.one;obtain⟨z,a,n,r,A,e⟩:=I.lstM i;refine call_meets F.slot_list_count ⟨_,e,rfl⟩ F.entry_list_count (F.args_list_count_2 _ _) (SeqAt.list_countAt p a.toArray n ag #[] u (fG y)) ⟨e,λw g=>mz f j r b w (by simpa using g),?_⟩;exact⟨.int _,H,I.tok _,⟨_,by rw[yc,BG r b]⟩,q⟩
def Hc:V->List V->Hp->VK->Prop:=λx a H Q=>∃(p:af) (xs:List V) (y:V) (j:Nat),x=.ref p/\a=[y]/\H p=aa (.lst xs)/\fF y=ah/\xs.all fF=ah/\j<xs.length /\
 (∀z,xs[j]?=aa z->dS z y=ah)/\(∀(i:Nat) z,i<j->xs[i]?=aa z->dS z y=aj)/\Q (.int j) H
theorem HU:ux X "list.index" Hc:=by
 intro ae s S H x T v W Q I A B h;obtain⟨p,xs,y,j,rfl,rfl,K,N,l,hj,M,L,q⟩:=h;cases A;obtain⟨u,rfl,C⟩:=B.one;obtain⟨z,a,n,r,Z,e⟩:=I.lstM K;have Y:=oG;have c:∀(i:Nat) (g:i<a.toArray.size),∃w,xs[i]?=aa w/\fG y a.toArray[i]=dS w y:=λi g=>by
  have D:i<a.length:=by simpa using g
  have o:xs[i]?=aa xs[i]:=dY ∅;obtain⟨w,b,E⟩:=r.get o;have P:a[i]=w:=by rw[dY D]at b;exact cp b
  refine⟨_,o,?_⟩;have O:fF xs[i]=ah:=jV.mp l _ (uN _);rw[<-sX E O];simp[P]
 refine call_meets F.slot_list_index ⟨_,e,rfl⟩ F.entry_list_index (F.args_list_index_2 _ _) (SeqAt.list_indexAt p a.toArray n ag #[] u (fG y) j (by simp;lia) ∅ ?_ ?_) ⟨e,λw G=>mz C N r l w (by simpa using G),?_⟩
 .obtain⟨w,b,d⟩:=c j (by simp;lia);rw[d];exact M w b
 .intro m J f;obtain⟨w,b,d⟩:=c m J;rw[d];exact L m w f b
 .exact⟨.int _,H,I.tok _,⟨_,rfl⟩,q⟩
end
abbrev Tx:=List Nat
def tS(l:Tx):Str:=⟨l.toArray⟩
def tV(l:Tx):V:=.str (tS l)
def cD(ls:List Tx):List V:=ls.map tV
theorem jK(l:Tx):(tS l).cps.toList=l:=by simp[tS]
theorem jh(l:Tx):(tS l).length=l.length:=by simp[tS,Str.length]
theorem oO(z:Str):tS z.cps.toList=z:=by cases z;simp[tS]
theorem vW{a b:Tx}(h:tS a=tS b):a=b:=by rw[<-jK a,h,jK]
theorem F9{a b:Tx}(h:tV a=tV b):a=b:=vW (V.str.inj h)
theorem By(a:List Tx):(cD a).length=a.length:=cr _
def cb(a b:Tx):Bool:=decide (a<=b)
def aZ(ls:List Tx):List Tx:=ls.mergeSort cb
theorem Ae(a b c:Tx)(e:cb a b=ah)(d:cb b c=ah):cb a c=ah:=by simp only[cb,decide_eq_true_eq]at *;exact List.le_trans e d
theorem Fz(a b:Tx):(cb a b||cb b a)=ah:=by simp only[cb,uO,decide_eq_true_eq];exact List.le_total a b
theorem Iu{a b:Tx}(d:cb a b=ah)(c:cb b a=ah):a=b:=by simp only[cb,decide_eq_true_eq]at *;exact List.le_antisymm d c
theorem gY(ls:List Tx):(aZ ls).Perm ls:=List.mergeSort_perm _ _
theorem kr(ls:List Tx):(aZ ls).Pairwise (λa b=>cb a b=ah):=List.pairwise_mergeSort Ae Fz _
theorem wW(ls:List Tx):(aZ ls).length=ls.length:=(gY ls).length_eq
theorem w_{c d:List Tx}(f:d.Perm c)(e:d.Pairwise (λa b=>cb a b=ah)):d=aZ c :=List.Perm.eq_of_pairwise (le:=λa b=>cb a b=ah) (λ_ _ _ _ h g=>Iu h g) e (kr c) (f.trans (gY c).symm)
theorem m8{ls:List Tx}(c:ls.Pairwise (λa b=>cb a b=ah)):aZ ls=ls:=(w_ (uP ls) c).symm
theorem sQ{a b:List Tx}(c:a.Perm b):aZ a=aZ b:=w_ ((gY a).trans c) (kr a)
theorem Aa:∀(p:Str) (l:List Str),risingS p l=ah->(p::l).Pairwise (λa b=>cb a.cps.toList b.cps.toList=ah)
 |p,[],_=>List.pairwise_singleton _ _
 |p,x::r,h=>by
  have d:(!ltCps x.cps.toList p.cps.toList&&risingS x r)=ah:=h;rw[fP,ltCps_eq]at d;have q:=Aa x r d.2;have e:cb p.cps.toList x.cps.toList=ah:=by simp only[cb,decide_eq_true_eq];intro f;simp[f]at d
  refine List.pairwise_cons.mpr ⟨λy c=>?_,q⟩;rcases dm.mp c with rfl|c
  .exact e
  .exact Ae _ _ _ e (List.rel_of_pairwise_cons q c)
theorem Kk{c:List Str}(h:sortedS c=ah):(c.map λz=>z.cps.toList).Pairwise (λa b=>cb a b=ah):=by
 rw[yd];cases c with
 |nil=>exact List.Pairwise.nil
 |cons x r=>exact Aa x r h
theorem vf:∀{ls:List Tx}{a:List ai},bv (cD ls) a->jW a (ls.map tS)
 |[],_,.nil=>.nil
 |l::ls,_::_,.cons ⟨t,e⟩ r=>by subst e;exact .cons _ t (vf (ls:=ls) r)
theorem A4:∀{b:List Str}{a:List ai},jW a b->bv (cD (b.map λz=>z.cps.toList)) a
 |_,_,.nil=>.nil
 |_,_,.cons y t h=>.cons ⟨t,by rw[oO]⟩ (A4 h)
section
variable{X:Cx}
theorem Gv(z:Tx)(n:Nat):Txt.mul (tS z) (n:Int)=tS (dq n z).flatten:=by
 unfold Txt.mul;cases n with
 |zero=>simp[tS,Str.empty]
 |succ n=>
  rw[if_neg ∅];split
  .rename_i h;simp only[uO,beq_iff_eq]at h;rcases h with h|h
   .have:n=0:=∅
    subst this;simp
   .rw[jh]at h;have:z=[]:=uL h;subst this;simp
  .unfold tS;congr 1;have b:∀(k:Nat) (a:Array Nat),(dq k z.toArray).foldl (·++·) a=a++(dq k z).flatten.toArray:=by
    intro k
    induction k with
    |zero=>intro a;simp
    |succ k c=>intro a;rw[CG,ln,c,CG,List.flatten_cons];simp[Array.append_assoc]
   have e:=b (n+1) #[];simp only[uI];simpa using e
theorem HL:bH X (ij .Mult) (λx y H Q=>∃(z:Tx) (n:Nat),x=tV z/\y=.int n/\n<=100/\z.length<=100/\Q (tV (dq n z).flatten) H):=by
 intro r s i H x y v u Q I c b h;obtain⟨z,n,rfl,rfl,e,d,q⟩:=h;obtain⟨t,rfl⟩:=c;obtain⟨l,rfl⟩:=b;refine SB.mul ?_ λj k=>?_
 .have m:z.length*n<=10000:=cK (ye d e) (by decide);refine⟨by rw[Bool.or_eq_false_iff];constructor <;> (apply decide_eq_false;lia),λg _=>?_,λg _=>?_⟩
  .rw[jh];intro f;have p:(2^63-1:Int) / n ≥ (2^63-1) / 100:=by
    have a:(0:Int)<n:=∅
    apply (Int.le_ediv_iff_mul_le a).mpr;have:((2^63-1:Int) / 100)*n<=((2^63-1) / 100)*100:=Int.mul_le_mul_of_nonneg_left ∅ (by decide);refine Int.le_trans this (by decide)
   have o:((2^63-1:Int) / 100) > 1000:=by decide
   lia
  .rw[jh,uI];unfold Builtin.Str.tooLong;apply decide_eq_false;have:10000<bj:=by rw[uE];decide
   lia
 .rw[Gv];exact⟨tV _,H,I.tok _,⟨_,rfl⟩,q⟩
end
section
variable{P:aT}{w:aK}{A:aV}{E:ai->ao->Prop}{s:ao}
def Hu(ks:List Str)(x:Str):List Str:=if x∈ks then ks else ks++[x]
end
def met(val:Nat->Str)(i:Nat):List Str:=((cW i).map val).foldl Hu []
end L2
set_option maxHeartbeats 8000000
namespace L2
structure cM(K:ar)(mg:Str->Option ai)(x:Str)(st:bf):Prop where
 ex:∃f fd,mg x=aa (.ref f)/\mL K x x st f fd
theorem Bc{H:Hp}{p:af}{o:HO}(h:H p=ag):Same H (upd H p o):=λb u q=>by rw[bd (kU q h)];exact q
theorem tX{a:Type}{xs:List a}{k:Int}(b:0<=k)(h:k.toNat<xs.length):eK xs k=aa xs[k.toNat]:=by
 have e:((k.toNat:Nat):Int)=k:=∅
 have q:=IN (xs:=xs) (j:=k.toNat) (v:=xs[k.toNat]) (by simp[h]);rwa[e]at q
def zX(N:List Str)(d a:dD)(x:Str)(c:List Str)(b:List Nat):Bool :=
 decide (a.kind=.function)&&a.names.all (λy=>(decide (y.2≠.cell)||decide (a.names.lookup y.1=aa .cell))&&(decide (y.2≠.local)||decide (a.names.lookup y.1=aa .local))&&(decide (y.2≠.free)||decide (d.names.lookup y.1=aa .cell)||decide (d.names.lookup y.1=aa .free)))
 && (decide (a.names.lookup x=aa .local)||decide (a.names.lookup x=aa .cell))&&decide c.Nodup&&decide (c.head?=aa x)&&decide (c.length=b.length+1)&&(b.zip c.tail).all λp=>(decide (N[p.1]?=aa p.2)&&decide (a.names.lookup p.2=aa .free))||(decide (N.length<=p.1)&&decide (a.names.lookup p.2=aa .local))
theorem iD.of{X:Cx}{a:dD}{x:Str}{N':List Str}{cap:List Nat}(N:List Str)(f:dD)(l:X.N=N)(c:X.env.scope=f)(h:zX N f a x N' cap=ah):iD X a x N' cap:=by
 subst l c;simp only[zX,fP,decide_eq_true_eq,jV,uO]at h;obtain⟨⟨⟨⟨⟨⟨r,d⟩,q⟩,p⟩,o⟩,n⟩,m⟩:=h;refine⟨r,λy b e=>(d y b).1.1.elim (λz=>absurd e z) λz=>z,λy b e=>?_,q,λy b e=>?_,p,o,n,λi j y u s=>?_⟩
 .rcases(d y b).1.2 with z|z
  .exact absurd e z
  .exact z
 .rcases(d y b).2 with(z|z)|z
  .exact absurd e z
  .exact .inl z
  .exact .inr z
 .have g:(j,y)∈cap.zip N'.tail:=by
   refine List.mem_iff_getElem?.mpr ⟨i,?_⟩;rw[List.getElem?_zip_eq_some];refine⟨s,?_⟩;rw[<-List.drop_one,List.getElem?_drop,xY];exact u
  exact m _ g
theorem B4(a b:Tx):dS (tV a) (tV b)=decide (a=b):=by show(tS a == tS b)=_;rw[i9];simp only[beq_iff_eq,decide_eq_true_eq];exact⟨vW,λh=>by rw[h]⟩
end L2
namespace Pu
open L2
abbrev St:=L2.St
inductive PV where
 |non|bl (b:Bool)|int (i:Int)|str (x:Tx)|tup (xs:List PV)|lst (xs:List PV)|raw (v:V)|exc (c:ai)
def im(a:af)(c:ai):HO:=.ext λh=>∃o b,h.get? a=aa o/\o.cls=c/\o.data=.fields b/\o.dict=ag
def bF:Nat:=1000000
theorem jF:bF<=bj:=by rw[uE];decide
def dy:HO->Prop
 |.lst _=>True
 |.dK _=>True
 |.dT _=>True
 |.ins _ _ _=>True
 |.own _=>True
 |_=>False
mutual
def aJ(K:ar)(H:Hp)(F:af->Prop):PV->V->Prop
 |.non,v=>v=.non
 |.bl b,v=>v=.bl b
 |.int i,v=>v=.int i
 |.str x,v=>v=tV x/\x.length<=bF
 |.tup xs,v=>∃a d,v=.ref a/\H a=aa (.tup d)/\aS K H F xs d
 |.lst xs,v=>∃a d,v=.ref a/\Rd H a (.lst d)/\F a/\aS K H F xs d
 |.raw u,v=>v=u
 |.exc c,v=>∃a,v=.ref a/\H a=aa (im a c)
def aS(K:ar)(H:Hp)(F:af->Prop):List PV->List V->Prop
 |[],a=>a=[]
 |x::xs,a=>∃v r,a=v::r/\aJ K H F x v/\aS K H F xs r
end
section
variable{K:ar}{H H':Hp}{F b:af->Prop}
mutual
theorem aJ.mono(g:∀a,F a->b a)(f:∀a xs,F a->Rd H a (.lst xs)->Rd H' a (.lst xs))(d:∀a o,H a=aa o->¬dy o->H' a=aa o):∀(x:PV) (v:V),aJ K H F x v->aJ K H' b x v
 |.non,_,h=>h
 |.bl _,_,h=>h
 |.int _,_,h=>h
 |.str _,_,h=>h
 |.raw _,_,h=>h
 |.exc _,_,⟨a,e,h⟩=>⟨a,e,d a _ h id⟩
 |.tup xs,_,⟨a,c,e,j,i⟩=>⟨a,c,e,d a _ j id,aS.mono g f d xs c i⟩
 |.lst xs,_,⟨a,c,e,j,l,i⟩=>⟨a,c,e,f a c l j,g a l,aS.mono g f d xs c i⟩
theorem aS.mono(g:∀a,F a->b a)(f:∀a xs,F a->Rd H a (.lst xs)->Rd H' a (.lst xs))(d:∀a o,H a=aa o->¬dy o->H' a=aa o):∀(xs:List PV) (c:List V),aS K H F xs c->aS K H' b xs c
 |[],_,h=>h
 |x::xs,_,⟨v,r,e,j,i⟩=>⟨v,r,e,aJ.mono g f d x v j,aS.mono g f d xs r i⟩
end
theorem aS.len:∀{xs:List PV}{a:List V},aS K H F xs a->a.length=xs.length
 |[],_,h=>by rw[show _=[] from h];rfl
 |_::_,_,⟨_,_,e,_,b⟩=>by rw[e,eP,eP,aS.len b]
theorem aS.get:∀{xs:List PV}{c:List V}{i:Nat}{x:PV},aS K H F xs c->xs[i]?=aa x->∃v,c[i]?=aa v/\aJ K H F x v
 |[],_,_,_,_,e=>by simp at e
 |x::xs,_,0,y,⟨v,r,e,h1,_⟩,q=>by simp at q;subst q;subst e;exact⟨v,rfl,h1⟩
 |x::xs,_,i+1,y,⟨v,r,e,_,h2⟩,q=>by obtain⟨w,a,b⟩:=aS.get (i:=i) (x:=y) h2 (by simpa using q);subst e;exact⟨w,by simpa using a,b⟩
theorem aS.back:∀{xs:List PV}{c:List V}{i:Nat}{v:V},aS K H F xs c->c[i]?=aa v->∃x,xs[i]?=aa x/\aJ K H F x v
 |[],_,_,_,h,e=>by rw[show _=[] from h]at e;simp at e
 |x::xs,_,0,y,⟨v,r,e,h1,_⟩,q=>by subst e;simp at q;subst q;exact⟨x,rfl,h1⟩
 |x::xs,_,i+1,y,⟨v,r,e,_,h2⟩,q=>by subst e;obtain⟨w,a,b⟩:=aS.back (i:=i) (v:=y) h2 (by simpa using q);exact⟨w,by simpa using a,b⟩
theorem aS.app:∀{xs a:List PV}{c b:List V},aS K H F xs c->aS K H F a b->aS K H F (xs++a) (c++b)
 |[],_,_,_,h,g=>by rw[show _=[] from h];exact g
 |x::xs,_,_,_,⟨v,r,e,f,d⟩,g=>by subst e;exact⟨v,_,rfl,f,aS.app d g⟩
theorem aS.one{x:PV}{v:V}(h:aJ K H F x v):aS K H F [x] [v]:=⟨v,[],rfl,h,rfl⟩
theorem aS.drop:∀(n:Nat) {xs:List PV}{a:List V},aS K H F xs a->aS K H F (xs.drop n) (a.drop n)
 |0,_,_,h=>h
 |_+1,[],_,h=>by rw[show _=[] from h];rfl
 |n+1,_::_,_,⟨_,_,e,_,h2⟩=>by subst e;exact aS.drop n h2
theorem aS.take:∀(n:Nat) {xs:List PV}{a:List V},aS K H F xs a->aS K H F (xs.take n) (a.take n)
 |0,_,_,_=>by rw[yf,yf];rfl
 |_+1,[],_,h=>by rw[show _=[] from h];rfl
 |n+1,_::_,_,⟨v,_,e,h1,h2⟩=>by subst e;exact⟨v,_,rfl,h1,aS.take n h2⟩
theorem aS.set{x:PV}{v:V}(b:aJ K H F x v):∀(n:Nat) {xs:List PV}{a:List V},aS K H F xs a->aS K H F (xs.set n x) (a.set n v)
 |_,[],_,h=>by rw[show _=[] from h];rfl
 |0,_::_,_,⟨_,r,e,_,h2⟩=>by subst e;exact⟨v,r,rfl,b,h2⟩
 |n+1,_::_,_,⟨w,_,e,h1,h2⟩=>by subst e;exact⟨w,_,rfl,h1,aS.set b n h2⟩
end
structure Grow(O O' F F':af->Prop)(H H':Hp):Prop where
 fro:∀a,F a->F' a
 keep:∀b o,H b=aa o->¬O b->H' b=aa o
 there:∀b o,H b=aa o->∃o',H' b=aa o'
 fnew:∀a,F' a->F a\/H a=ag\/O a
 onew:∀a,O' a->O a\/H a=ag
theorem Grow.refl(O F:af->Prop)(H:Hp):Grow O O F F H H:=⟨λ_ h=>h,λ_ _ h _=>h,λ_ o h=>⟨o,h⟩,λ_ h=>.inl h,λ_ h=>.inl h⟩
theorem Grow.trans{O f e F l j:af->Prop}{H d i:Hp}(g:Grow O f F l H d)(k:Grow f e l j d i):Grow O e F j H i where
 fro:=λa h=>k.fro a (g.fro a h)
 keep:=λb o h n=>k.keep b o (g.keep b o h n) λz=>(g.onew b z).elim n λq=>by rw[q]at h;cases h
 there:=λb o h=>let ⟨o',c⟩:=g.there b o h;k.there b o' c
 fnew:=λa h=>by
  have back:d a=ag->H a=ag\/O a:=λz=>by
   cases q:H a with
   |none=>exact .inl rfl
   |some o=>obtain⟨o',c⟩:=g.there a o q;rw[z]at c;cases c
  rcases k.fnew a h with z|z|z
  .exact g.fnew a z
  .exact .inr (back z)
  .exact .inr ((g.onew a z).symm)
 onew:=λa h=>by
  rcases k.onew a h with z|z
  .exact g.onew a z
  .cases q:H a with
   |none=>exact .inr rfl
   |some o=>obtain⟨o',c⟩:=g.there a o q;rw[z]at c;cases c
def Fit(O F:af->Prop)(H:Hp):Prop:=∀b,O b->¬F b/\∃o,H b=aa o/\dy o
section
variable{K:ar}{O c F b:af->Prop}{H H':Hp}
theorem Grow.imm(g:Grow O c F b H H')(f:Fit O F H){a:af}{o:HO}(h:H a=aa o)(n:¬dy o):H' a=aa o :=
 g.keep _ _ h λz=>by
  obtain⟨_,i,d,e⟩:=f a z;rw[h]at d;cases d;exact n e
theorem Grow.lst(g:Grow O c F b H H')(f:Fit O F H){a:af}{xs:List V}(d:F a)(h:Rd H a (.lst xs)):Rd H' a (.lst xs):=by
 have no:¬O a:=λz=>(f a z).1 d;rcases h with h|⟨o,h⟩
 .exact .inl (g.keep _ _ h no)
 .exact .inr ⟨o,g.keep _ _ h no⟩
theorem aJ.grow(g:Grow O c F b H H')(f:Fit O F H){x:PV}{v:V}(h:aJ K H F x v):aJ K H' b x v:=aJ.mono g.fro (λ_ _ a q=>g.lst f a q) (λ_ _ q n=>g.imm f q n) x v h
theorem aS.grow(g:Grow O c F b H H')(f:Fit O F H){x:List PV}{v:List V}(h:aS K H F x v):aS K H' b x v:=aS.mono g.fro (λ_ _ a q=>g.lst f a q) (λ_ _ q n=>g.imm f q n) x v h
end
theorem _root_.L2.Same.rd{H b:Hp}{a:af}{u:HO}(e:Same H b)(h:Rd H a u):Rd b a u:=h.elim (λz=>.inl (e _ _ z)) λ⟨o,z⟩=>.inr ⟨o,e _ _ z⟩
structure Al(F F':af->Prop)(H H':Hp):Prop where
 fro:∀a,F a->F' a
 same:Same H H'
 fnew:∀a,F' a->F a\/(H a=ag/\∃o,H' a=aa o)
theorem Al.refl(F:af->Prop)(H:Hp):Al F F H H:=⟨λ_ h=>h,Same.refl H,λ_ h=>.inl h⟩
theorem Al.grow{F d O:af->Prop}{H c:Hp}(a:Al F d H c):Grow O O F d H c :=⟨a.fro,λb o h _=>a.same b o h,λb o h=>⟨o,a.same b o h⟩,λb h=>(a.fnew b h).imp id λz=>.inl z.1,λ_ h=>.inl h⟩
theorem Al.rep{K:ar}{F c:af->Prop}{H b:Hp}(a:Al F c H b){x:PV}{v:V}(h:aJ K H F x v):aJ K b c x v:=aJ.mono a.fro (λ_ _ _ q=>a.same.rd q) (λ_ _ q _=>a.same _ _ q) x v h
theorem Al.reps{K:ar}{F c:af->Prop}{H b:Hp}(a:Al F c H b){x:List PV}{v:List V}(h:aS K H F x v):aS K b c x v:=aS.mono a.fro (λ_ _ _ q=>a.same.rd q) (λ_ _ q _=>a.same _ _ q) x v h
theorem Al.new{F:af->Prop}{H:Hp}{l:af}{o:HO}(h:H l=ag):Al F (λa=>F a\/a=l) H (upd H l o) :=⟨λ_ h=>.inl h,Bc h,λa z=>z.imp id λe=>by subst e;exact⟨h,o,upd_same⟩⟩
theorem Al.new0{F:af->Prop}{H:Hp}{l:af}{o:HO}(h:H l=ag):Al F F H (upd H l o):=⟨λ_ h=>h,Bc h,λa z=>.inl z⟩
inductive PO where
 |lst (xs:List PV)|dK (kvs:List (aQ×PV))|lls (bW:List (List PV))|ins (C:af) (fs:List (Str×PV))|dT (kvs:List (List aQ×PV))|inl (C:af) (fs:List (Str×PV)) (y:Str) (xs:List PV)
def gz:PO->Bool
 |.lls _=>aj
 |.inl ..=>aj
 |_=>ah
inductive Slot where
 |none|val (v:PV)|own (o:PO)
abbrev ak:=List Slot
def uu(K:ar)(H:Hp)(F:af->Prop)(a:List (aQ×PV))(b:List (aQ×V)):Prop:=c7 (λ(p:aQ×PV) (q:aQ×V)=>p.1=q.1/\aJ K H F p.2 q.2) a b
def qy(K:ar)(H:Hp)(F:af->Prop)(fs:List (Str×PV))(a:List (Str×V)):Prop:=c7 (λ(p:Str×PV) (q:Str×V)=>p.1=q.1/\aJ K H F p.2 q.2) fs a
def ir(K:ar)(H:Hp)(F:af->Prop)(a:List (List aQ×PV))(b:List (List aQ×V)):Prop:=c7 (λ(p:List aQ×PV) (q:List aQ×V)=>p.1=q.1/\aJ K H F p.2 q.2) a b
def fJ(K:ar)(H:Hp)(F:af->Prop)(c:List (List PV))(d:List af):Prop:=c7 (λ(xs:List PV) (b:af)=>∃a,H b=aa (.lst a)/\aS K H F xs a) c d
def ez(K:ar)(H:Hp)(F:af->Prop)(i:PO)(a:af)(S:af->Prop):Prop :=
 match i with
 |.lst xs=>(∃f,H a=aa (.lst f)/\aS K H F xs f)/\∀b,S b↔b=a
 |.dK e=>(∃d,H a=aa (.dK d)/\uu K H F e d)/\∀b,S b↔b=a
 |.lls j=>∃g,H a=aa (.lst (g.map .ref))/\fJ K H F j g/\g.Nodup/\a∉g/\∀b,S b↔b=a\/b∈g
 |.ins C fs=>(∃h d,H a=aa (.ins C h d)/\qy K H F fs d)/\∀b,S b↔b=a
 |.dT e=>(∃d,H a=aa (.dT d)/\ir K H F e d)/\∀b,S b↔b=a
 |.inl C fs y xs=>∃h d b f,H a=aa (.ins C h (d++[(y,.ref b)]))/\qy K H F fs d/\fs.lookup y=ag/\H b=aa (.lst f)/\aS K H F xs f/\a≠b/\∀c,S c↔c=a\/c=b
structure aG(K:ar)(F:af->Prop)(S:Nat->af->Prop)(ε:ak)(σ:St)(H:Hp):Prop where
 len:ε.length=σ.length
 ex:∀a,F a->∃o,H a=aa o
 val:∀(i:Nat) (pv:PV),ε[i]?=aa (.val pv)->∃v,σ[i]?=aa (aa v)/\aJ K H F pv v
 own:∀(i:Nat) (po:PO),ε[i]?=aa (.own po)->∃a,σ[i]?=aa (aa (.ref a))/\ez K H F po a (S i)
 foot:∀(i:Nat) (b:af),S i b->(∃po,ε[i]?=aa (.own po))/\¬F b/\∃o,H b=aa o/\dy o
 dist:∀(i j:Nat) (b:af),S i b->S j b->i=j
def U(S:Nat->af->Prop)(b:af):Prop:=∃i,S i b
section
variable{K:ar}{F d:af->Prop}{S:Nat->af->Prop}{g:ak}{f:St}{H H':Hp}
theorem aG.fit(r:aG K F S g f H):Fit (U S) F H:=λb ⟨i,h⟩=>(r.foot i b h).2
theorem uu.mono{a:List (aQ×PV)}{b:List (aQ×V)}(e:∀x v,aJ K H F x v->aJ K H' d x v)(h:uu K H F a b):uu K H' d a b:=by
 unfold uu at h ⊢
 induction h with
 |nil=>exact .nil
 |cons r _ c=>exact .cons ⟨r.1,e _ _ r.2⟩ c
theorem qy.mono{fs:List (Str×PV)}{a:List (Str×V)}(c:∀x v,aJ K H F x v->aJ K H' d x v)(h:qy K H F fs a):qy K H' d fs a:=by
 unfold qy at h ⊢
 induction h with
 |nil=>exact .nil
 |cons r _ b=>exact .cons ⟨r.1,c _ _ r.2⟩ b
theorem ir.mono{a:List (List aQ×PV)}{b:List (List aQ×V)}(e:∀x v,aJ K H F x v->aJ K H' d x v)(h:ir K H F a b):ir K H' d a b:=by
 unfold ir at h ⊢
 induction h with
 |nil=>exact .nil
 |cons r _ c=>exact .cons ⟨r.1,e _ _ r.2⟩ c
theorem fJ.mono{e:List (List PV)}{a:List af}(j:∀x v,aS K H F x v->aS K H' d x v)(c:∀b o,b∈a->H b=aa o->H' b=aa o)(h:fJ K H F e a):fJ K H' d e a:=by
 unfold fJ at h ⊢
 induction h with
 |nil=>exact .nil
 |cons r _ l=>obtain⟨i,p,n⟩:=r;exact .cons ⟨i,c _ _ (by simp) p,j _ _ n⟩ (l λb o m=>c b o (by simp[m]))
theorem ez.mono{po:PO}{a:af}{Sa:af->Prop}(j:∀x v,aJ K H F x v->aJ K H' d x v)(m:∀x v,aS K H F x v->aS K H' d x v)(c:∀b o,Sa b->H b=aa o->H' b=aa o)(h:ez K H F po a Sa):ez K H' d po a Sa:=by
 cases po with
 |lst xs=>obtain⟨⟨l,e,q⟩,w⟩:=h;exact⟨⟨l,c a _ ((w a).mpr rfl) e,m _ _ q⟩,w⟩
 |dK p=>obtain⟨⟨i,e,q⟩,w⟩:=h;exact⟨⟨i,c a _ ((w a).mpr rfl) e,q.mono j⟩,w⟩
 |lls G=>obtain⟨E,e,q,A,z,w⟩:=h;exact⟨E,c a _ ((w a).mpr (.inl rfl)) e,q.mono m λb o B=>c b o ((w b).mpr (.inr B)),A,z,w⟩
 |ins C fs=>obtain⟨⟨r,i,e,q⟩,w⟩:=h;exact⟨⟨r,i,c a _ ((w a).mpr rfl) e,q.mono j⟩,w⟩
 |dT p=>obtain⟨⟨i,e,q⟩,w⟩:=h;exact⟨⟨i,c a _ ((w a).mpr rfl) e,q.mono j⟩,w⟩
 |inl C fs y xs=>obtain⟨r,i,b,l,e,q,n,D,s,u,w⟩:=h;exact⟨r,i,b,l,c a _ ((w a).mpr (.inl rfl)) e,q.mono j,n,c b _ ((w b).mpr (.inr rfl)) D,m _ _ s,u,w⟩
theorem aG.al(r:aG K F S g f H)(a:Al F d H H'):aG K d S g f H' where
 len:=r.len
 ex:=λb h=>(a.fnew b h).elim (λz=>let ⟨o,q⟩:=r.ex b z;⟨o,a.same _ _ q⟩) λz=>z.2
 val:=λi pv e=>let ⟨v,l,j⟩:=r.val i pv e;⟨v,l,a.rep j⟩
 own:=λi n e=>let ⟨b,l,j⟩:=r.own i n e;⟨b,l,j.mono (λ_ _ q=>a.rep q) (λ_ _ q=>a.reps q) λc o _ q=>a.same _ _ q⟩
 foot:=λi b h=>by
  obtain⟨l,j,o,m,p⟩:=r.foot i b h;refine⟨l,λz=>?_,o,a.same _ _ m,p⟩;rcases a.fnew b z with y|⟨y,_⟩
  .exact j y
  .rw[m]at y;cases y
 dist:=r.dist
end
inductive R(α:Type) where
 |ok (a:α) (ε:ak)|er (c:ai) (ε:ak)|no
def R.bind{d b:Type}(r:R d)(k:d->ak->R b):R b:=match r with
 |.ok a ε=>k a ε
 |.er c ε=>.er c ε
 |.no=>.no
def a_{b:Type}(o:Option b)(ε:ak):R b:=match o with
 |some a=>.ok a ε
 |none=>.no
@[simp] theorem R.bind_ok{c d:Type}(a:c)(b:ak)(k:c->ak->R d):(R.ok a b).bind k=k a b:=rfl
@[simp] theorem R.bind_er{b d:Type}(c:ai)(a:ak)(k:b->ak->R d):(R.er c a:R b).bind k=.er c a:=rfl
@[simp] theorem R.bind_no{a b:Type}(k:a->ak->R b):(R.no:R a).bind k=.no:=rfl
@[simp] theorem cQ{c:Type}(a:c)(b:ak):a_ (aa a) b=.ok a b:=rfl
@[simp] theorem Lx{b:Type}(a:ak):a_ (ag:Option b) a=.no:=rfl
def Ok(K:ar)(E:XK)(g:St)(F:af->Prop)(S:Nat->af->Prop)(H:Hp){h:Type}(r:R h)(C:h->ak->(af->Prop)->(Nat->af->Prop)->Hp->Prop):Prop:=match r with
 |.ok a b=>∀f e d,aG K f e b g d->Grow (U S) (U e) F f H d->C a b f e d
 |.er c b=>∀x f e d,aG K f e b g d->Grow (U S) (U e) F f H d->E c x d
 |.no=>False
section
variable{K:ar}{E:XK}{b:St}{F:af->Prop}{S:Nat->af->Prop}{H:Hp}{d e:Type}{C C':d->ak->(af->Prop)->(Nat->af->Prop)->Hp->Prop}{D:e->ak->(af->Prop)->(Nat->af->Prop)->Hp->Prop}
theorem Ok.imp{r:R d}(h:Ok K E b F S H r C)(f:∀a i m j l,aG K m j i b l->Grow (U S) (U j) F m H l->C a i m j l->C' a i m j l):Ok K E b F S H r C':=by
 cases r with
 |ok a i=>exact λm j l r g=>f a i m j l r g (h m j l r g)
 |er c i=>exact h
 |no=>exact h
theorem Ok.from{r:R e}{q:af->Prop}{o:Nat->af->Prop}{p:Hp}(h:Ok K E b F S H r D)(g:Grow (U S) (U o) F q H p):Ok K E b q o p r D:=by
 cases r with
 |ok a f=>exact λn l m i j=>h n l m i (g.trans j)
 |er c f=>exact λx n l m i j=>h x n l m i (g.trans j)
 |no=>exact h
theorem Ok.bind{r:R d}{k:d->ak->R e}(h:Ok K E b F S H (r.bind k) D):Ok K E b F S H r (λa ε1 l i j=>Ok K E b l i j (k a ε1) D):=by
 cases r with
 |ok a f=>exact λo m n r g=>Ok.from h g
 |er c f=>exact h
 |no=>exact h
end
structure Bx(p:Prop):Prop where
 run:p
def gw(X:Cx)(e:aA):TE:=λa H Q=>Bx (∀b s,Inv X b a H s->aC (ay X.prog X.w) X.A (bi e X.env) (EP X b a Q) X.xe s)
def vj(X:Cx)(e:aA):TT:=λa H Q=>Bx (∀b s,Inv X b a H s->aC (ay X.prog X.w) X.A (lh e X.env (bi e X.env)) (TP X b a Q) X.xe s)
def wpS(X:Cx)(c:bf):TS:=λD b H=>Bx (∀a s,Inv X a b H s->aC (ay X.prog X.w) X.A (exec c X.env) (SP X a D) X.xe s)
def lM(X:Cx)(c:List bf):TS:=λD b H=>Bx (∀a s,Inv X a b H s->aC (ay X.prog X.w) X.A (execs c X.env) (SP X a D) X.xe s)
section
variable{X:Cx}{e:aA}{b:bf}{a:List bf}
theorem bI:PE X e (gw X e):=λc s _ _ _ I h=>h.run c s I
theorem oP:PT X e (vj X e):=λc s _ _ _ I h=>h.run c s I
theorem zZ:PS X b (wpS X b):=λc s _ _ _ I h=>h.run c s I
theorem o0:jM X a (lM X a):=λc s _ _ _ I h=>h.run c s I
theorem bX{t:TE}(h:PE X e t){c:St}{H:Hp}{Q:VK}(q:t c H Q):gw X e c H Q:=⟨λd s I=>h d s c H Q I q⟩
theorem um{t:TT}(h:PT X e t){c:St}{H:Hp}{Q:Bool->Hp->Prop}(q:t c H Q):vj X e c H Q:=⟨λd s I=>h d s c H Q I q⟩
theorem gC{t:TS}(h:PS X b t){c:St}{H:Hp}{D:iV}(q:t D c H):wpS X b D c H:=⟨λd s I=>h d s c H D I q⟩
theorem wZ{t:TS}(h:jM X a t){c:St}{H:Hp}{D:iV}(q:t D c H):lM X a D c H:=⟨λd s I=>h d s c H D I q⟩
end
def DE(X:Cx)(E:XK)(e:aA)(d:ak->R PV):Prop :=
 ∀F S b a H Q,aG X.K F S b a H->Ok X.K E a F S H (d b) (λpv _ f _ c=>∀v,aJ X.K c f pv v->Q v c)->gw X e a H Q
def DN(X:Cx)(E:XK)(e:aA)(d:ak->R PO):Prop :=
 ∀F S g c H Q,aG X.K F S g c H->Ok X.K E c F S H (d g) (λj _ i l f=>∀a h,ez X.K f i j a h->(∀b,h b->H b=ag/\¬i b/\¬U l b/\∃o,f b=aa o/\dy o)->Q (.ref a) f)->gw X e c H Q
def DT(X:Cx)(E:XK)(e:aA)(d:ak->R Bool):Prop :=
 ∀F S c a H Q,aG X.K F S c a H->Ok X.K E a F S H (d c) (λb _ _ _ f=>Q b f)->vj X e a H Q
end Pu
namespace Pu
open L2
section
variable{X:Cx}{E:XK}{a b c:aA}{m db A:ak->R PV}{pos:Pos}
def dC(pv:PV):ak->R PV:=λε=>.ok pv ε
theorem aU{i j pos}:DE X E (.Constant (.int i) j pos) (dC (.int i)):=λF S e d H Q r h=>bX Kg (h F S H r (Grow.refl ..) _ rfl)
theorem iG{i j pos}:DE X E (.Constant (.bool i) j pos) (dC (.bl i)):=λF S e d H Q r h=>bX HA (h F S H r (Grow.refl ..) _ rfl)
theorem DH{j pos}:DE X E (.Constant .none j pos) (dC .non):=λF S e d H Q r h=>bX HR (h F S H r (Grow.refl ..) _ rfl)
theorem cC(l:Tx){x:Str}{j pos}(d:x=tS l:=by decide +kernel)(e:l.length<=bF:=by decide):DE X E (.Constant (.str x) j pos) (dC (.str l)):=λF S g f H Q r h=>bX GP (h F S H r (Grow.refl ..) _ (by rw[d];exact⟨rfl,e⟩))
def dV(i:Nat):ak->R PV:=λε=>match ε[i]? with
 |some (.val pv)=>.ok pv ε
 |_=>.no
theorem aq(i:Nat){x:Str}{pos:Pos}(g:X.N[i]?=aa x:=by rfl)(d:d_ X.env.scope x:=by eq_refl)(f:(x==("__debug__":Str))=aj:=by decide)(n:(x==("__classdict__":Str))=aj:=by decide):DE X E (.Name x pos) (dV i):=λF S q o H Q r h=>by
 unfold dV at h;split at h
 .rename_i p e;obtain⟨v,l,j⟩:=r.val i p e;exact bX (fD g d f n) ⟨v,l,h F S H r (Grow.refl ..) v j⟩
 .exact h.elim
theorem xl{x:Str}{i:Int}{pos:Pos}(h:∃t,X.mg x=aa (.int i t))(d:Gl X x:=by rfl)(f:(x==("__debug__":Str))=aj:=by decide):DE X E (.Name x pos) (dC (.int i)):=λF S j g H Q r q=>by obtain⟨t,e⟩:=h;exact bX (wE (v:=.int i) d e ⟨t,rfl⟩ f) (q F S H r (Grow.refl ..) _ rfl)
theorem o9{x:Str}{l:Tx}{pos:Pos}(h:∃t,X.mg x=aa (.str (tS l) t))(f:Gl X x:=by rfl)(d:l.length<=bF:=by decide)(g:(x==("__debug__":Str))=aj:=by decide):DE X E (.Name x pos) (dC (.str l)):=λF S j i H Q r q=>by obtain⟨t,e⟩:=h;exact bX (wE (v:=tV l) f e ⟨t,rfl⟩ g) (q F S H r (Grow.refl ..) _ ⟨rfl,d⟩)
def aG.frz{K:ar}{F:af->Prop}{S:Nat->af->Prop}{p:ak}{s:St}{H:Hp}{i:Nat}{xs:List PV}(r:aG K F S p s H)(e:p[i]?=aa (.own (.lst xs))):∃a w I,aG K w I (p.set i (.val (.lst xs))) s H/\Grow (U S) (U I) F w H H/\s[i]?=aa (aa (.ref a))/\aJ K H w (.lst xs) (.ref a):=by
 obtain⟨a,G,⟨J,C,L⟩,D⟩:=r.own i _ e;have B:i<p.length:=(bY.mp e).1;have g:∀b,F b->F b\/b=a:=λb h=>.inl h;have mono:∀x v,aJ K H F x v->aJ K H (λb=>F b\/b=a) x v:=aJ.mono g (λ_ _ _ q=>q) (λ_ _ q _=>q);have d:∀x v,aS K H F x v->aS K H (λb=>F b\/b=a) x v:=aS.mono g (λ_ _ _ q=>q) (λ_ _ q _=>q);have y:aJ K H (λb=>F b\/b=a) (.lst xs) (.ref a):=⟨a,J,rfl,.inl C,.inr rfl,d _ _ L⟩
 refine⟨a,λb=>F b\/b=a,λj b=>S j b/\j≠i,⟨by rw[dX];exact r.len,λb h=>?_,λj pv q=>?_,λj po q=>?_,λj b h=>?_,λj k b N M=>r.dist j k b N.1 M.1⟩,?_,G,y⟩
 .rcases h with h|rfl
  .exact r.ex b h
  .exact⟨_,C⟩
 .by_cases f:i=j
  .subst f;rw[cR B]at q;cases q;exact⟨_,G,y⟩
  .rw[b9 f]at q;obtain⟨v,n,l⟩:=r.val j pv q;exact⟨v,n,mono _ _ l⟩
 .by_cases f:i=j
  .subst f;rw[cR B]at q;cases q
  .rw[b9 f]at q;obtain⟨v,n,l⟩:=r.own j po q;refine⟨v,n,?_⟩;have u:=l.mono (H':=H) mono d λ_ _ _ z=>z;have O:(λb=>S j b/\j≠i)=S j:=by funext b;simp[cX f]
   rw[O];exact u
 .obtain⟨⟨po,n⟩,l,u⟩:=r.foot j b h.1;refine⟨⟨po,by rw[b9 (cX h.2)];exact n⟩,λz=>?_,u⟩;rcases z with z|rfl
  .exact l z
  .exact h.2 (r.dist j i b h.1 ((D b).mpr rfl))
 .refine⟨λ_ h=>.inl h,λb o h _=>h,λb o h=>⟨o,h⟩,λb h=>?_,λb ⟨j,h⟩=>.inl ⟨j,h.1⟩⟩;rcases h with h|rfl
  .exact .inl h
  .exact .inr (.inr ⟨i,(D b).mpr rfl⟩)
def dM(i:Nat):ak->R PV:=λd=>match d[i]? with
 |some (.own (.lst xs))=>.ok (.lst xs) (d.set i (.val (.lst xs)))
 |_=>.no
theorem Kq(i:Nat){x:Str}{pos:Pos}(l:X.N[i]?=aa x:=by rfl)(f:d_ X.env.scope x:=by eq_refl)(j:(x==("__debug__":Str))=aj:=by decide)(q:(x==("__classdict__":Str))=aj:=by decide):DE X E (.Name x pos) (dM i):=λF S w v H Q r h=>by
 unfold dM at h;split at h
 .rename_i p e;obtain⟨a,u,s,d,g,o,n⟩:=r.frz e;exact bX (fD l f j q) ⟨_,o,h u s H d g _ n⟩
 .exact h.elim
def P2(K:ar)(r:R2)(f:PV->PV->Option PV):Prop:=∀(F:af->Prop) (H:Hp) (x y:PV) (v u:V) (Q:VK) (pv:PV),aJ K H F x v->aJ K H F y u->f x y=aa pv->(∀w e d,Al F e H d->aJ K d e pv w->Q w d)->r v u H Q
def d2(f:PV->PV->Option PV)(m db:ak->R PV):ak->R PV:=λε=>(m ε).bind λx ε1=>(db ε1).bind λy d=>a_ (f x y) d
theorem uh{r:R2}{f:PV->PV->Option PV}(I:P2 X.K r f)(K:DE X E a m)(J:DE X E b db){F:af->Prop}{S:Nat->af->Prop}{l:ak}{d:St}{H:Hp}{Q:VK}(D:aG X.K F S l d H)(h:Ok X.K E d F S H (d2 f m db l) (λpv _ q _ i=>∀v,aJ X.K i q pv v->Q v i)):gw X a d H λx p=>gw X b d p λy o=>r x y o Q:=by
 refine K F S l d H _ D ((Ok.bind h).imp λx j T O p s W L v B=>?_);refine J T O j d p _ s ((Ok.bind L).imp λy z P N o G M g u C=>?_);cases e:f x y with
 |none=>rw[e]at g;exact g.elim
 |some pv=>rw[e]at g;exact I P o x y v u Q pv (B.grow M s.fit) C e λw q i al n=>g q N i (G.al al) al.grow w n
theorem cz{d:Operator}{r:R2}{f:PV->PV->Option PV}(i:bH X (ij d) r)(g:P2 X.K r f)(l:DE X E a m)(j:DE X E b db):DE X E (.BinOp a d b pos) (d2 f m db):=λF S o n H Q e h=>bX (Dg i bI bI) (uh g l j e h)
theorem lV{d:CmpOp}{r:R2}{f:PV->PV->Option PV}(i:bH X (dP d) r)(g:P2 X.K r f)(n:DE X E a m)(l:DE X E b db)(j:xR d b=aj):DE X E (.Compare a [d] [b] pos) (d2 f m db):=λF S p o H Q e h=>bX (IR i bI bI j) (uh g n l e h)
def lE:PV->Option Bool
 |.bl b=>aa b
 |_=>ag
def dB(d:ak->R PV):ak->R Bool:=λε=>(d ε).bind λx ε1=>a_ (lE x) ε1
theorem BS{K:ar}{H:Hp}{F:af->Prop}{x:PV}{v:V}{k:Bool}(h:aJ K H F x v)(e:lE x=aa k):v=.bl k:=by
 cases x <;> simp[lE]at e;subst e;exact h
theorem sM{F:af->Prop}{S:Nat->af->Prop}{j:ak}{i:St}{H:Hp}{Q:Bool->Hp->Prop}{d:ak->R PV}(h:Ok X.K E i F S H (dB d j) (λk _ _ _ g=>Q k g)):Ok X.K E i F S H (d j) (λpv _ s _ g=>∀v,aJ X.K g s pv v->∃k,v=.bl k/\Q k g):=by
 refine(Ok.bind h).imp λx l r p q o u f v n=>?_;cases e:lE x with
 |none=>rw[e]at f;exact f.elim
 |some k=>rw[e]at f;exact⟨k,BS n e,f r p q o (Grow.refl ..)⟩
theorem fv{d:CmpOp}{r:R2}{f:PV->PV->Option PV}(i:bH X (dP d) r)(g:P2 X.K r f)(n:DE X E a m)(l:DE X E b db)(j:xR d b=aj):DT X E (.Compare a [d] [b] pos) (dB (d2 f m db)):=λF S q p H Q e h=>um (FZ i bI bI j) (uh (Q:=λx o=>∃k,x=.bl k/\Q k o) g n l e (sM h))
theorem lY{e:aA}{d:ak->R PV}(n:DE X E e d)(l:∀f,lh e X.env f=(do let v <-f;standAt e.pos;jQ [v] (truthy v)):=by intro _;rfl):DT X E e (dB d):=λF S i g H Q j h=>um (Ja bI l) (n F S i g H _ j (sM h))
def mP(f g:PV->PV->Option PV)(m db A:ak->R PV):ak->R PV:=λi=>(m i).bind λx h=>(db h).bind λy d=>(a_ ((f x y).bind lE) d).bind λk d=>
 match k with
 |true=>(A d).bind λz e=>a_ (g y z) e
 |false=>.ok (.bl aj) d
theorem BJ{r O:R2}{f g:PV->PV->Option PV}(hp:P2 X.K r f)(dr:P2 X.K O g)(ha:DE X E a m)(hb:DE X E b db)(hc:DE X E c A){F:af->Prop}{S:Nat->af->Prop}{B:ak}{j:St}{H:Hp}{Q:VK}(rl:aG X.K F S B j H)(h:Ok X.K E j F S H (mP f g m db A B) (λpv _ l _ i=>∀v,aJ X.K i l pv v->Q v i)):vF r O (gw X a) (gw X b) (gw X c) j H Q:=by
 refine ha F S B j H _ rl ((Ok.bind h).imp λx s F1 S1 H1 N g1 h1 v rv=>?_);refine hb F1 S1 s j H1 _ N ((Ok.bind h1).imp λy n T L P r2 g2 d u M=>?_);cases e:f x y with
 |none=>rw[e]at d;exact d.elim
 |some pv=>
  rw[e]at d;refine hp T P x y v u _ pv (rv.grow g2 N.fit) M e λw l i al D=>?_;cases K:lE pv with
  |none=>rw[fm,K]at d;exact d.elim
  |some k=>
   rw[fm,K]at d;refine⟨k,BS D K,?_⟩;have I:=r2.al al;cases k with
   |false=>exact oB (Ok.from d al.grow l L i I (Grow.refl ..) _ rfl)
   |true=>
    have h3:Ok X.K E j T L P ((A n).bind λz q=>a_ (g y z) q) (λpv _ l _ i=>∀v,aJ X.K i l pv v->Q v i):=d;refine oS (hc l L n j i _ I ((Ok.bind (Ok.from h3 al.grow)).imp λz W F4 S4 H4 r4 g4 p Z G=>?_));cases J:g y z with
    |none=>rw[J]at p;exact p.elim
    |some pz=>rw[J]at p;exact dr F4 H4 y z u Z Q pz ((al.rep M).grow g4 I.fit) G J λY F5 H5 o C=>p F5 S4 H5 (r4.al o) o.grow Y C
theorem Kj{e d:CmpOp}{r i:R2}{f g:PV->PV->Option PV}(n:bH X (dP e) r)(u:bH X (dP d) i)(l:P2 X.K r f)(v:P2 X.K i g)(s:DE X E a m)(q:DE X E b db)(p:DE X E c A)(o:lastMarks [e,d] [b,c]=aj:=by with_unfolding_all rfl):DE X E (.Compare a [e,d] [b,c] pos) (mP f g m db A):=λF S x w H Q j h=>bX (HN n u bI bI bI o) (BJ l v s q p j h)
theorem EG{e d:CmpOp}{r i:R2}{f g:PV->PV->Option PV}(n:bH X (dP e) r)(u:bH X (dP d) i)(l:P2 X.K r f)(v:P2 X.K i g)(s:DE X E a m)(q:DE X E b db)(p:DE X E c A)(o:lastMarks [e,d] [b,c]=aj:=by with_unfolding_all rfl):DT X E (.Compare a [e,d] [b,c] pos) (dB (mP f g m db A)):=λF S z y H Q j h=>um (Iq n u bI bI bI o) (BJ (Q:=λx w=>∃k,x=.bl k/\Q k w) l v s q p j (sM h))
variable{n B:ak->R Bool}{rest:List aA}
def DW(X:Cx)(E:XK)(e:aA)(d:ak->R Bool):Prop:=∀F S g f H Q,aG X.K F S g f H->Ok X.K E f F S H (d g) (λb _ _ _ i=>Q b i)->∀(h:Sem ai) ae s,Inv X ae f H s->aC (ay X.prog X.w) X.A (lh e X.env h) (TP X ae f Q) X.xe s
def Fc(X:Cx)(e:aA):TT:=λd H Q=>∀(f:Sem ai) ae s,Inv X ae d H s->aC (ay X.prog X.w) X.A (lh e X.env f) (TP X ae d Q) X.xe s
theorem JH{e:aA}:PW X e (Fc X e):=λd f s _ _ _ I h=>h d f s I
theorem DW.dt{e:aA}{d:ak->R Bool}(h:DW X E e d):DT X E e d:=λF S ε f H Q g q=>⟨λi s I=>h F S ε f H Q g q _ i s I⟩
def vz(n B:ak->R Bool):ak->R Bool:=λe=>(n e).bind λk d=>match k with
 |true=>B d
 |false=>.ok aj d
def kb(n B:ak->R Bool):ak->R Bool:=λe=>(n e).bind λk d=>match k with
 |true=>.ok ah d
 |false=>B d
def jA(n:ak->R Bool):ak->R Bool:=λe=>(n e).bind λk d=>.ok (!k) d
theorem oq(h:DT X E a n):DW X E (.BoolOp .Or [a] pos) n:=λF S e d H Q f q g i s I=>GC oP g i s d H Q I (h F S e d H Q f q)
theorem oy(r:DT X E a n)(p:DW X E (.BoolOp .Or (b::rest) pos) B):DW X E (.BoolOp .Or (a::b::rest) pos) (kb n B):=λF S l d H Q o q u v s I=>by
 refine HM oP JH u v s d H Q I (r F S l d H _ o ((Ok.bind q).imp λk e j h i f w g=>?_));cases k with
 |true=>exact oS (g j h i f (Grow.refl ..))
 |false=>exact oB (p j h e d i Q f g)
theorem lH(i:DT X E a n):DT X E (.UnaryOp .Not a pos) (jA n):=λF S f d H Q g q=>um (EV oP) (i F S f d H _ g ((Ok.bind q).imp λk e p l o h r j=>j p l o h (Grow.refl ..)))
def kc(m db:ak->R PV):ak->R PV:=λe=>(dB m e).bind λk d=>match k with
 |true=>db d
 |false=>.ok (.bl aj) d
def A5(m db:ak->R PV):ak->R PV:=λe=>(dB m e).bind λk d=>match k with
 |true=>.ok (.bl ah) d
 |false=>db d
def ug(m:ak->R PV):ak->R PV:=λe=>(dB m e).bind λk d=>.ok (.bl (!k)) d
theorem BK{d:ak->R PV}{p:Type}{D:p->ak->(af->Prop)->(Nat->af->Prop)->Hp->Prop}{k:Bool->ak->R p}{F:af->Prop}{S:Nat->af->Prop}{o:ak}{l:St}{H:Hp}{P:Bool->Hp->Prop}(h:Ok X.K E l F S H ((dB d o).bind k) D) (f:∀c e j i g,aG X.K j i e l g->Grow (U S) (U i) F j H g->Ok X.K E l j i g (k c e) D->P c g):Ok X.K E l F S H (d o) (λpv _ x _ q=>∀v,aJ X.K q x pv v->∃c,v=.bl c/\P c q):=by have s:=(Ok.bind h).imp (C':=λc e j i g=>P c g) λc e j i g r w u=>f c e j i g r w u;exact sM s
theorem n9{op}{d:ak->R PV}(h:DE X E a d):DE X E (.BoolOp op [a] pos) d:=λF S f e H Q g q=>bX (FM bI) (h F S f e H Q g q)
theorem mY(r:DE X E a m)(p:DE X E (.BoolOp .And (b::rest) pos) db):DE X E (.BoolOp .And (a::b::rest) pos) (kc m db):=λF S l e H Q o q=>by
 refine bX (Dq bI bI) (r F S l e H _ o (BK q λk d j h i f s g=>?_));cases k with
 |true=>exact oS (p j h d e i Q f g)
 |false=>exact oB (g j h i f (Grow.refl ..) _ rfl)
theorem IX(i:DE X E a m):DE X E (.UnaryOp .Not a pos) (ug m):=λF S f d H Q g q=>bX (Jr bI) (i F S f d H _ g (BK q λk e p l o h r j=>j p l o h (Grow.refl ..) _ rfl))
def cI{d:Type}(t:ak->R Bool)(m db:ak->R d):ak->R d:=λe=>(t e).bind λk ε1=>match k with
 |true=>m ε1
 |false=>db ε1
theorem A1(p:DT X E c n)(s:DE X E a m)(r:DE X E b db):DE X E (.IfExp c a b pos) (cI n m db):=λF S l e H Q o q=>by
 refine bX (Gw oP bI bI) (p F S l e H _ o ((Ok.bind q).imp λk d j h i f u g=>?_));cases k with
 |true=>exact oS (s j h d e i Q f g)
 |false=>exact oB (r j h d e i Q f g)
def P1(K:ar)(r:V->Hp->VK->Prop)(f:PV->Option PV):Prop:=∀(F:af->Prop) (H:Hp) (x:PV) (v:V) (Q:VK) (pv:PV),aJ K H F x v->f x=aa pv->(∀w e d,Al F e H d->aJ K d e pv w->Q w d)->r v H Q
def d1(f:PV->Option PV)(m:ak->R PV):ak->R PV:=λe=>(m e).bind λx d=>a_ (f x) d
theorem Ia{r:V->Hp->VK->Prop}{f:PV->Option PV}(z:P1 X.K r f)(C:DE X E a m){F:af->Prop}{S:Nat->af->Prop}{j:ak}{d:St}{H:Hp}{Q:VK}(u:aG X.K F S j d H)(h:Ok X.K E d F S H (d1 f m j) (λpv _ p _ i=>∀v,aJ X.K i p pv v->Q v i)):gw X a d H λx o=>r x o Q:=by
 refine C F S j d H _ u ((Ok.bind h).imp λx q G D o y I g v s=>?_);cases e:f x with
 |none=>rw[e]at g;exact g.elim
 |some pv=>rw[e]at g;exact z G o x v Q pv s e λw p i al l=>g p D i (y.al al) al.grow w l
theorem Hh{d:UnaryOp}{r:V->Hp->VK->Prop}{f:PV->Option PV}(i:uv X (unaryOp d) r)(g:P1 X.K r f)(j:DE X E a m):DE X E (.UnaryOp d a pos) (d1 f m):=λF S o l H Q e h=>bX (Ji i bI) (Ia g j e h)
end
def oj(X:Cx)(d:List aA):TA:=λb H Q=>Bx (∀a c s,Inv X c b H s->aC (ay X.prog X.w) X.A (spliced (cS a (aR d X.env))) (AP X c b Q) X.xe s)
def DA(X:Cx)(E:XK)(g:List aA)(d:ak->R (List PV)):Prop :=
 ∀F S c a H Q,aG X.K F S c a H->Ok X.K E a F S H (d c) (λb _ h _ f=>∀e,aS X.K f h b e->Q e f)->oj X g a H Q
section
variable{X:Cx}{E:XK}{a b c e:aA}{j:List aA}{D db G d:ak->R PV}{m:ak->R (List PV)}{pos:Pos}
theorem iY{j:List aA}:PA X j (oj X j):=λpos f s _ _ _ I h=>h.run pos f s I
theorem qr{t:TA}(h:PA X j t){f:St}{H:Hp}{Q:List V->Hp->Prop}(q:t f H Q):oj X j f H Q:=⟨λpos g s I=>h pos g s f H Q I q⟩
def ax:ak->R (List PV):=λε=>.ok [] ε
def ap(d:ak->R PV)(m:ak->R (List PV)):ak->R (List PV):=λε=>(d ε).bind λx ε1=>(m ε1).bind λxs f=>.ok (x::xs) f
theorem aE:DA X E [] ax:=λF S i g H Q f h=>qr km (h F S H f (Grow.refl ..) _ rfl)
theorem GO(y:DE X E e d)(w:DA X E j m)(u:aR (e::j) X.env=(aj,bi e X.env)::aR j X.env:=by rfl):DA X E (e::j) (ap d m):=λF S n g H Q q h=>by refine qr (jH bI iY u) (y F S n g H _ q ((Ok.bind h).imp λx f M I K i N A v p=>?_));refine w M I f g K _ i ((Ok.bind A).imp λxs l L C J r B z o s=>?_);exact z L C J r (Grow.refl ..) _ ⟨v,o,rfl,p.grow B i.fit,s⟩
theorem aG.more{K:ar}{F N:af->Prop}{S:Nat->af->Prop}{p:ak}{n:St}{H:Hp}(r:aG K F S p n H)(s:∀b,N b->¬U S b/\∃o,H b=aa o):aG K (λb=>F b\/N b) S p n H:=by
 have mono:∀x v,aJ K H F x v->aJ K H (λb=>F b\/N b) x v:=aJ.mono (λ_ h=>.inl h) (λ_ _ _ q=>q) (λ_ _ q _=>q);have f:∀x v,aS K H F x v->aS K H (λb=>F b\/N b) x v:=aS.mono (λ_ h=>.inl h) (λ_ _ _ q=>q) (λ_ _ q _=>q);refine⟨r.len,λb h=>h.elim (r.ex b) λz=>(s b z).2,λi pv e=>?_,λi u e=>?_,λi b h=>?_,r.dist⟩
 .obtain⟨v,l,g⟩:=r.val i pv e;exact⟨v,l,mono _ _ g⟩
 .obtain⟨v,l,g⟩:=r.own i u e;exact⟨v,l,g.mono mono f λ_ _ _ z=>z⟩
 .obtain⟨l,g,y⟩:=r.foot i b h;exact⟨l,λz=>z.elim g λw=>(s b w).1 ⟨i,h⟩,y⟩
def vE:PO->Option PV
 |.lst xs=>aa (.lst xs)
 |_=>ag
def dF(d:ak->R PO):ak->R PV:=λε=>(d ε).bind λf ε1=>a_ (vE f) ε1
theorem DN.de{d:ak->R PO}(h:DN X E e d):DE X E e (dF d):=λF S ε s H Q x q=>by
 unfold dF at q;refine h F S ε s H Q x ?_;cases i:d ε with
 |no=>rw[i]at q;exact q.elim
 |er c u=>rw[i]at q;exact q
 |ok B ε1=>
  rw[i]at q;intro O l n A f a r I p;cases B with
  |dK g=>exact q.elim
  |lls P=>exact q.elim
  |ins C fs=>exact q.elim
  |dT g=>exact q.elim
  |inl C fs y xs=>exact q.elim
  |lst xs=>
   have M:∀b,r b->¬U l b/\∃o,n b=aa o:=λb z=>let ⟨_,_,x3,o,x4,_⟩:=p b z;⟨x3,o,x4⟩
   obtain⟨⟨v,K,J⟩,L⟩:=I;have N:Grow (U S) (U l) F (λb=>O b\/r b) H n:=⟨λb z=>.inl (f.fro b z),f.keep,f.there,λb z=>z.elim (f.fnew b) λw=>.inr (.inl (p b w).1),f.onew⟩
   exact q _ l n (A.more M) N _ ⟨a,v,rfl,.inl K,.inr ((L a).mpr rfl),aS.mono (λ_ z=>.inl z) (λ_ _ _ z=>z) (λ_ _ z _=>z) _ _ J⟩
def bE(xs:List PV):Option PV:=if xs.length<=1000 then aa (.tup xs)else ag
def cy(xs:List PV):Option PO:=if xs.length<=1000 then aa (.lst xs)else ag
def dL{g:Type}(f:List PV->Option g)(m:ak->R (List PV)):ak->R g:=λε=>(m ε).bind λxs ε1=>a_ (f xs) ε1
def PL(K:ar)(r:List V->Hp->VK->Prop)(f:List PV->Option PV):Prop:=∀(F:af->Prop) (H:Hp) (xs:List PV) (h:List V) (Q:VK) (pv:PV),aS K H F xs h->f xs=aa pv->(∀w i g,Al F i H g->aJ K g i pv w->Q w g)->r h H Q
def kT(K:ar)(r:List V->Hp->VK->Prop)(f:List PV->Option PO):Prop:=∀(F:af->Prop) (H:Hp) (xs:List PV) (i:List V) (Q:VK) (l:PO),(∀a,F a->∃o,H a=aa o)->aS K H F xs i->f xs=aa l ->
 (∀a h g n,Al F h H g->ez K g h l a n->(∀b,n b->H b=ag/\¬h b/\∃o,g b=aa o/\dy o)->Q (.ref a) g)->r i H Q
theorem wL{r:List V->Hp->VK->Prop}{f:List PV->Option PV}(A:PL X.K r f)(B:DA X E j m){F:af->Prop}{S:Nat->af->Prop}{n:ak}{g:St}{H:Hp}{Q:VK}(x:aG X.K F S n g H)(h:Ok X.K E g F S H (dL f m n) (λpv _ q _ l=>∀v,aJ X.K l q pv v->Q v l)):oj X j g H λxs p=>r xs p Q:=by
 refine B F S n g H _ x ((Ok.bind h).imp λxs s I C p y J i u z=>?_);cases e:f xs with
 |none=>rw[e]at i;exact i.elim
 |some pv=>rw[e]at i;exact A I p xs u Q pv z e λw q l al o=>i q C l (y.al al) al.grow w o
theorem mJ{O i F l:af->Prop}{H f:Hp}(g:Grow O i F l H f){b:af}(h:f b=ag):H b=ag:=by
 cases q:H b with
 |none=>rfl
 |some o=>obtain⟨o',e⟩:=g.there b o q;rw[h]at e;cases e
theorem wu{r:List V->Hp->VK->Prop}{f:List PV->Option PO}(O:kT X.K r f)(P:DA X E j m){F:af->Prop}{S:Nat->af->Prop}{s:ak}{l:St}{H:Hp}{Q:VK}(L:aG X.K F S s l H)(h:Ok X.K E l F S H (dL f m s) (λv _ q Z g=>∀a p,ez X.K g q v a p->(∀b,p b->H b=ag/\¬q b/\¬U Z b/\∃o,g b=aa o/\dy o)->Q (.ref a) g)):oj X j l H λxs x=>r xs x Q:=by
 refine P F S s l H _ L ((Ok.bind h).imp λxs B F1 Y x u T n K N=>?_);cases e:f xs with
 |none=>rw[e]at n;exact n.elim
 |some v=>
  rw[e]at n;refine O F1 x xs K Q v u.ex N e λa q g p al M W=>n q Y g (u.al al) al.grow a p M λb z=>?_;obtain⟨y,J,o,I,C⟩:=W b z;refine⟨mJ T y,J,λ⟨i,w⟩=>?_,o,I,C⟩;obtain⟨_,_,o',A,_⟩:=u.foot i b w;rw[y]at A;cases A
theorem v7{n:Nat}(h:n<=1000):n<=bj:=nk (IK h)
theorem Gc{K:ar}:PL K (λxs H Q=>xs.length<=bj/\∀p,H p=ag->Q (.ref p) (upd H p (.tup xs))) bE:=λF H xs h Q pv f e q=>by
 unfold bE at e;split at e
 .cases e;refine⟨by rw[f.len];exact v7 (by assumption),λp g=>q _ F _ (Al.new0 g) ⟨p,h,rfl,upd_same,(Al.new0 g).reps f⟩⟩
 .cases e
theorem qu{K:ar}{F:af->Prop}{H:Hp}{l:af}{xs:List PV}{f:List V}(h:H l=ag)(g:aS K H F xs f):ez K (upd H l (.lst f)) F (.lst xs) l (λb=>b=l):=⟨⟨f,upd_same,(Al.new0 h).reps g⟩,λb=>pJ⟩
theorem qF{F:af->Prop}{H:Hp}{l:af}{o:HO}(g:H l=ag)(i:∀a,F a->∃o,H a=aa o)(h:dy o):∀b,b=l->H b=ag/\¬F b/\∃f,(upd H l o) b=aa f/\dy f:=λb z=>by
 subst z;exact⟨g,(λw=>by obtain⟨o,q⟩:=i b w;rw[g]at q;cases q),o,upd_same,h⟩
theorem JL{K:ar}:kT K (λxs H Q=>xs.length<=bj/\∀p,H p=ag->Q (.ref p) (upd H p (.lst xs))) cy:=λF H xs i Q l h g e q=>by
 unfold cy at e;split at e
 .cases e;exact⟨by rw[g.len];exact v7 (by assumption),λp f=>q p F _ _ (Al.new0 f) (qu f g) (qF f h trivial)⟩
 .cases e
theorem cg{x1}(h:DA X E j m):DE X E (.Tuple j x1 pos) (dL bE m):=λF S i g H Q f q=>bX (EO iY) (wL Gc h f q)
theorem sU(h:DA X E j m):DN X E (.List j pos) (dL cy m):=λF S i g H Q f q=>bX (J0 iY) (wu JL h f q)
theorem iq(h:DA X E j m):DE X E (.List j pos) (dF (dL cy m)):=(sU h).de
variable{x:Str}{p:Pos}{A T:String}{r:List V->Hp->VK->Prop}{f:List PV->Option PV}{B:List PV->Option PO}
theorem cJ(u:eI X (.builtin A) r)(i:PL X.K r f)(n:X.mg x=ag)(h:eD x=aa (.builtin A))(v:DA X E (e::j) m)(o:Gl X x:=by rfl)(l:x≠"__name__":=by decide)(w:(x==("__debug__":Str))=aj:=by decide)(s:aR (e::j) X.env=(aj,bi e X.env)::aR j X.env:=by rfl) (y:(cS pos (aR j X.env)).any (·.1)=aj:=by rfl):DE X E (.Call (.Name x p) (e::j) [] pos) (dL f m):=λF S C z H Q g q=>bX (o_ u o n h iY l w s y) (wL i v g q)
theorem qi(u:eI X (.builtin A) r)(i:kT X.K r B)(n:X.mg x=ag)(h:eD x=aa (.builtin A))(v:DA X E (e::j) m)(o:Gl X x:=by rfl)(l:x≠"__name__":=by decide)(w:(x==("__debug__":Str))=aj:=by decide)(s:aR (e::j) X.env=(aj,bi e X.env)::aR j X.env:=by rfl) (y:(cS pos (aR j X.env)).any (·.1)=aj:=by rfl):DN X E (.Call (.Name x p) (e::j) [] pos) (dL B m):=λF S C z H Q g q=>bX (o_ u o n h iY l w s y) (wu i v g q)
theorem pi(u:eI X (.type T) r)(i:PL X.K r f)(n:X.mg x=ag)(h:eD x=aa (.type T))(v:DA X E (e::j) m)(o:Gl X x:=by rfl)(l:x≠"__name__":=by decide)(w:(x==("__debug__":Str))=aj:=by decide)(s:aR (e::j) X.env=(aj,bi e X.env)::aR j X.env:=by rfl) (y:(cS pos (aR j X.env)).any (·.1)=aj:=by rfl):DE X E (.Call (.Name x p) (e::j) [] pos) (dL f m):=λF S C z H Q g q=>bX (Br u o n h iY l w s y) (wL i v g q)
theorem tD(u:eI X (.type T) r)(i:kT X.K r B)(n:X.mg x=ag)(h:eD x=aa (.type T))(v:DA X E (e::j) m)(o:Gl X x:=by rfl)(l:x≠"__name__":=by decide)(w:(x==("__debug__":Str))=aj:=by decide)(s:aR (e::j) X.env=(aj,bi e X.env)::aR j X.env:=by rfl) (y:(cS pos (aR j X.env)).any (·.1)=aj:=by rfl):DN X E (.Call (.Name x p) (e::j) [] pos) (dL B m):=λF S C z H Q g q=>bX (Br u o n h iY l w s y) (wu i v g q)
theorem dw{r:R2}{f:PV->PV->Option PV}(l:ka X r)(n:P2 X.K r f)(q:DE X E a D)(o:DE X E b db)(i:tL b:=by exact λ_ _=>rfl):DE X E (.Subscript a b pos) (d2 f D db):=λF S u s H Q g h=>bX (v5 l bI bI i) (uh n q o g h)
def wH(X:Cx)(e:Option aA):TO:=λg H Q=>Bx (∀h s,Inv X h g H s->aC (ay X.prog X.w) X.A (evalPart e X.env) (λu l=>∃o i,Inv X h g i l/\jU u o/\Q o i) X.xe s)
theorem zj{o:Option aA}:L2.PO X o (wH X o):=λg s _ _ _ I h=>h.run g s I
theorem B5{o:Option aA}{t:TO}(h:L2.PO X o t){g:St}{H:Hp}{Q:Option Int->Hp->Prop}(q:t g H Q):wH X o g H Q:=⟨λi s I=>h i s g H Q I q⟩
def DO(X:Cx)(E:XK)(e:Option aA)(d:ak->R (Option Int)):Prop:=∀F S h g H Q,aG X.K F S h g H->Ok X.K E g F S H (d h) (λo _ _ _ i=>Q o i)->wH X e g H Q
def kR:ak->R (Option Int):=λg=>.ok ag g
def kt:PV->Option Int
 |.int i=>aa i
 |_=>ag
def iE(d:ak->R PV):ak->R (Option Int):=λε=>(d ε).bind λx ε1=>a_ ((kt x).map aa) ε1
theorem wo:DO X E ag kR:=λF S l i H Q g h=>B5 Gk (h F S H g (Grow.refl ..))
theorem qe(w:DE X E e d):DO X E (aa e) (iE d):=λF S o l H Q s h=>by
 refine B5 (Hw bI) (w F S o l H _ s ((Ok.bind h).imp λx n C y z u I g v q=>?_));cases x <;> first|exact(show False from g).elim|skip
 rename_i i;exact⟨i,q,g C y z u (Grow.refl ..)⟩
def jf{i:Type}(f:PV->Option Int->Option Int->Option i)(d:ak->R PV)(o n:ak->R (Option Int)):ak->R i:=λε=>(d ε).bind λx ε1=>(o ε1).bind λl h=>(n h).bind λu g=>a_ (f x l u) g
def wt(K:ar)(r:V->Option Int->Option Int->Hp->VK->Prop)(f:PV->Option Int->Option Int->Option PV):Prop:=∀(F:af->Prop) (H:Hp) (x:PV) (h i:Option Int) (v:V) (Q:VK) (pv:PV),aJ K H F x v->f x h i=aa pv->(∀w l g,Al F l H g->aJ K g l pv w->Q w g)->r v h i H Q
theorem uc{r:V->Option Int->Option Int->Hp->VK->Prop}{f:PV->Option Int->Option Int->Option PV}{C I:Option aA}{K J:ak->R (Option Int)}{W:Pos}(Z:jE X r)(hp:wt X.K r f)(he:DE X E e d)(hl:DO X E C K)(Y:DO X E I J):DE X E (.Subscript e (.Slice C I ag W) pos) (jf f d K J):=λF S M i H Q O h=>by
 refine bX (GU Z bI zj zj) (he F S M i H _ O ((Ok.bind h).imp λx o F1 S1 H1 z g1 h1 v N=>?_));refine hl F1 S1 o i H1 _ z ((Ok.bind h1).imp λl n F2 S2 H2 y g2 h2=>?_);refine Y F2 S2 n i H2 _ y ((Ok.bind h2).imp λu L F3 S3 H3 P g3 g=>?_);cases s:f x l u with
 |none=>rw[s]at g;exact g.elim
 |some pv=>rw[s]at g;exact hp F3 H3 x l u v Q pv ((N.grow g2 z.fit).grow g3 y.fit) s λw F' H' al q=>g F' S3 H' (P.al al) al.grow w q
end
inductive aL where
 |next|ret (s:Slot)|brk|cont
def k7(K:ar)(H:Hp)(F:af->Prop)(s:Slot)(v:V)(c:af->Prop):Prop:=match s with
 |.val pv=>aJ K H F pv v/\∀b,¬c b
 |.own d=>∃a,v=.ref a/\ez K H F d a c
 |.none=>False
def gv(b:List Nat)(c a:St):Prop:=∀i∈b,a[i]?=c[i]?
theorem gv.refl(a:List Nat)(b:St):gv a b b:=λ_ _=>rfl
theorem gv.trans{c:List Nat}{f e d:St}(a:gv c f e)(b:gv c e d):gv c f d:=λi h=>(b i h).trans (a i h)
theorem gv.set{a:List Nat}{b:St}{i:Nat}{x:Option V}(h:i∉a):gv a b (b.set i x):=λj c=>by rw[b9 (by rintro rfl;exact h c)]
def q8(e:af->Prop)(c:Nat->af->Prop)(d:Hp)(a:af->Prop):Prop:=∀b,a b->¬e b/\¬U c b/\∃o,d b=aa o/\dy o
def hZ(K:ar)(E:XK)(h:List Nat)(i:St)(F:af->Prop)(S:Nat->af->Prop)(H:Hp)(r:R aL)(D:iV):Prop:=match r with
 |.ok .next e=>∀f g a d,aG K f g e a d->Grow (U S) (U g) F f H d->gv h i a->D.nx a d
 |.ok .brk e=>∀f g a d,aG K f g e a d->Grow (U S) (U g) F f H d->gv h i a->D.bk a d
 |.ok .cont e=>∀f g a d,aG K f g e a d->Grow (U S) (U g) F f H d->gv h i a->D.ct a d
 |.ok (.ret s) e=>∀v f g a d j,aG K f g e a d->Grow (U S) (λb=>U g b\/j b) F f H d->gv h i a->k7 K d f s v j->q8 f g d j->D.rt v d
 |.er c e=>∀x f g a d,aG K f g e a d->Grow (U S) (U g) F f H d->gv h i a->E c x d
 |.no=>False
def DS(X:Cx)(E:XK)(b:List Nat)(e:bf)(d:ak->R aL):Prop:=∀F S c a H D,aG X.K F S c a H->hZ X.K E b a F S H (d c) D->wpS X e D a H
def fX(X:Cx)(E:XK)(b:List Nat)(e:List bf)(d:ak->R aL):Prop:=∀F S c a H D,aG X.K F S c a H->hZ X.K E b a F S H (d c) D->lM X e D a H
section
variable{K:ar}{E:XK}{b:List Nat}{d e:St}{F l:af->Prop}{S i:Nat->af->Prop}{H j:Hp}{D:iV}
theorem hZ.from{r:R aL}(h:hZ K E b d F S H r D)(g:Grow (U S) (U i) F l H j)(p:gv b d e):hZ K E b e l i j r D:=by
 cases r with
 |no=>exact h
 |er c y=>exact λx w q a u m o n=>h x w q a u m (g.trans o) (p.trans n)
 |ok f y=>
  cases f with
  |next=>exact λw q a u m o n=>h w q a u m (g.trans o) (p.trans n)
  |brk=>exact λw q a u m o n=>h w q a u m (g.trans o) (p.trans n)
  |cont=>exact λw q a u m o n=>h w q a u m (g.trans o) (p.trans n)
  |ret s=>exact λv w q a u z m o n=>h v w q a u z m (g.trans o) (p.trans n)
theorem hZ.bindE{n:Type}{r:R n}{k:n->ak->R aL}(h:hZ K E b d F S H (r.bind k) D):Ok K E d F S H r (λa f l i j=>hZ K E b d l i j (k a f) D):=by
 cases r with
 |no=>exact h
 |er c g=>exact λx s p q o m=>h x s p d q o m (gv.refl _ _)
 |ok a g=>exact λs p q o m=>h.from m (gv.refl _ _)
end
section
variable{X:Cx}{E:XK}{pin:List Nat}{l:bf}{rest:List bf}{d d1 d2:ak->R aL}{e:aA}{de:ak->R PV}{pos:Pos}
def dN:ak->R aL:=λa=>.ok .next a
theorem g6:fX X E pin [] dN:=λF S c a H D b h=>wZ EF (h F S a H b (Grow.refl ..) (gv.refl _ _))
def aX(d1 d2:ak->R aL):ak->R aL:=λa=>match d1 a with
 |.ok .next ε1=>d2 ε1
 |r=>r
theorem bz(u:DS X E pin l d1)(q:fX X E pin rest d2):fX X E pin (l::rest) (aX d1 d2):=λF S i m H D n h=>by
 refine wZ (Dz zZ o0) (u F S i m H {D with nx:=lM X rest D} n ?_);unfold aX at h;split at h
 .rename_i g w;rw[w];exact λz x b y o v p=>q z x g b y D o (h.from v p)
 .rename_i r j;generalize d1 i=r1 at h j;cases r1 with
  |no=>exact h
  |er c a=>exact h
  |ok f a=>
   cases f with
   |next=>exact absurd rfl (j a)
   |brk=>exact h
   |cont=>exact h
   |ret s=>exact h
theorem bu(f:DS X E pin l d1):fX X E pin [l] d1:=λF S b a H D c h=>wZ (EC zZ) (f F S b a H D c h)
def B2(f:aL):ak->R aL:=λa=>.ok f a
def BP(d:ak->R PV):ak->R aL:=λb=>(d b).bind λ_ a=>.ok .next a
def b0(d:ak->R PV):ak->R aL:=λb=>(d b).bind λx a=>.ok (.ret (.val x)) a
theorem Grow.cup{O c F i:af->Prop}{H f:Hp}(g:Grow O c F i H f):Grow O (λb=>c b\/False) F i H f:=⟨g.fro,g.keep,g.there,g.fnew,λa h=>h.elim (g.onew a) gj⟩
theorem cP(j:DE X E e de):DS X E pin (.Return (aa e) pos) (b0 de):=λF S c a H D g h=>gC (vH bI) (j F S c a H _ g (h.bindE.imp λx b p n o i q m v f=>m v p n a o (λ_=>False) i (Grow.refl ..).cup (gv.refl _ _) ⟨f,λ_ z=>z⟩ λ_ z=>z.elim))
def qb(d:ak->R PO):ak->R aL:=λε=>(d ε).bind λx ε1=>.ok (.ret (.own x)) ε1
theorem GA{dn:ak->R PO}(u:DN X E e dn):DS X E pin (.Return (aa e) pos) (qb dn):=λF S j g H D p h=>by
 refine gC (vH bI) (u F S j g H _ p ?_);unfold qb at h;cases i:dn j with
 |no=>rw[i]at h;exact h.elim
 |er c o=>rw[i]at h;exact λx J B G r v=>h x J B g G r v (gv.refl _ _)
 |ok K n=>rw[i]at h;intro I A C q f a y s m;exact h _ I A g C y q ⟨f.fro,f.keep,f.there,f.fnew,λb z=>z.elim (f.onew b) λw=>.inr (m b w).1⟩ (gv.refl _ _) ⟨a,rfl,s⟩ λb z=>let ⟨_,x2,x3,x4⟩:=m b z;⟨x2,x3,x4⟩
theorem aG.drop{K:ar}{F:af->Prop}{S:Nat->af->Prop}{c:ak}{n:St}{H:Hp}(r:aG K F S c n H)(i:Nat):aG K F (λj b=>S j b/\j≠i) (c.set i .none) n H:=by
 have no:∀{j s},(c.set i .none)[j]?=aa s->s≠.none->j≠i/\c[j]?=aa s:=λ{j s} e q=>by
  by_cases f:i=j
  .subst f;by_cases u:i<c.length
   .rw[cR u]at e;exact absurd (cp e).symm q
   .rw[yg (by rw[dX];lia)]at e;cases e
  .rw[b9 f]at e;exact⟨cX f,e⟩
 refine⟨by rw[dX];exact r.len,r.ex,λj pv e=>r.val j pv (no e (by intro z;cases z)).2,λj po e=>?_,λj b h=>?_,λj k b m g=>r.dist j k b m.1 g.1⟩
 .obtain⟨f,e⟩:=no e (by intro z;cases z);obtain⟨a,m,g⟩:=r.own j po e;have v:(λb=>S j b/\j≠i)=S j:=by funext b;simp[f]
  exact⟨a,m,by rw[v];exact g⟩
 .obtain⟨⟨po,p⟩,o⟩:=r.foot j b h.1;exact⟨⟨po,by rw[b9 (cX h.2)];exact p⟩,o⟩
theorem aG.set{K:ar}{F:af->Prop}{S:Nat->af->Prop}{f:ak}{m:St}{H:Hp}{i:Nat}{pv:PV}{v:V}(r:aG K F S f m H)(h:aJ K H F pv v):aG K F (λj b=>S j b/\j≠i) (f.set i (.val pv)) (m.set i (aa v)) H:=by
 have q:=r.drop i;have len:(f.set i (.val pv)).length=(m.set i (aa v)).length:=by rw[dX,dX];exact r.len
 refine⟨len,r.ex,λj p e=>?_,λj po e=>?_,λj b h=>?_,q.dist⟩
 .by_cases c:i=j
  .subst c;have g:i<f.length:=by have:=(bY.mp e).1;rw[dX]at this;exact this
   rw[cR g]at e;cases e;exact⟨v,cR (by rw[<-r.len];exact g),h⟩
  .rw[b9 c]at e;obtain⟨w,o,n⟩:=r.val j p e;exact⟨w,by rw[b9 c];exact o,n⟩
 .have c:i≠j:=by
   rintro rfl;have g:i<f.length:=by have:=(bY.mp e).1;rw[dX]at this;exact this
   rw[cR g]at e;cases e
  rw[b9 c]at e;obtain⟨a,o,n⟩:=r.own j po e;have x:(λb=>S j b/\j≠i)=S j:=by funext b;simp[cX c]
  exact⟨a,by rw[b9 c];exact o,by rw[x];exact n⟩
 .obtain⟨⟨po,s⟩,u⟩:=q.foot j b h;refine⟨⟨po,?_⟩,u⟩;rw[b9 (cX h.2)]at s ⊢;exact s
theorem Grow.less{S:Nat->af->Prop}{F:af->Prop}{H:Hp}(i:Nat):Grow (U S) (U λj b=>S j b/\j≠i) F F H H:=⟨λ_ z=>z,λ_ _ z _=>z,λ_ o z=>⟨o,z⟩,λ_ z=>.inl z,λb ⟨j,z⟩=>.inl ⟨j,z.1⟩⟩
theorem aG.setOwn{K:ar}{F:af->Prop}{S:Nat->af->Prop}{o:ak}{v:St}{H:Hp}{i:Nat}{q:PO}{a:af}{Sa:af->Prop}(r:aG K F S o v H)(n:i<o.length)(h:ez K H F q a Sa)(s:q8 F S H Sa):aG K F (λj b=>(S j b/\j≠i)\/(j=i/\Sa b)) (o.set i (.own q)) (v.set i (aa (.ref a))) H:=by
 have A:=r.drop i;refine⟨by rw[dX,dX];exact r.len,r.ex,λj p e=>?_,λj g e=>?_,λj b h=>?_,λj k b f c=>?_⟩
 .have m:i≠j:=by rintro rfl;rw[cR n]at e;cases e
  rw[b9 m]at e;obtain⟨w,f,c⟩:=r.val j p e;exact⟨w,by rw[b9 m];exact f,c⟩
 .by_cases m:i=j
  .subst m;rw[cR n]at e;cases e;have u:(λb=>(S i b/\i≠i)\/(i=i/\Sa b))=Sa:=by funext b;simp
   exact⟨a,cR (by rw[<-r.len];exact n),by rw[u];exact h⟩
  .rw[b9 m]at e;obtain⟨C,f,c⟩:=r.own j g e;have u:(λb=>(S j b/\j≠i)\/(j=i/\Sa b))=S j:=by funext b;simp[cX m]
   exact⟨C,by rw[b9 m];exact f,by rw[u];exact c⟩
 .rcases h with h|⟨rfl,h⟩
  .obtain⟨⟨g,x⟩,B⟩:=A.foot j b h;refine⟨⟨g,?_⟩,B⟩;rw[b9 (cX h.2)]at x ⊢;exact x
  .obtain⟨z,D,y⟩:=s b h;exact⟨⟨q,cR n⟩,z,y⟩
 .rcases f with f|⟨rfl,f⟩ <;> rcases c with c|⟨rfl,c⟩
  .exact r.dist j k b f.1 c.1
  .exact absurd ⟨j,f.1⟩ (s b c).2.1
  .exact absurd ⟨k,c.1⟩ (s b f).2.1
  .rfl
def bR(i:Nat)(d:ak->R PV):ak->R aL:=λa=>(d a).bind λx ε1=>.ok .next (ε1.set i (.val x))
theorem eJ(i:Nat){x:Str}{p:Pos}(u:X.N.Nodup)(s:DE X E e de)(o:i∉pin:=by decide)(q:X.N[i]?=aa x:=by rfl)(m:Loc X.env.scope x:=by first|exact Or.inl rfl|exact Or.inr rfl)(n:i8 e (aa (.Name x p)) pos.line X.env=pure aj:=by rfl)(r:X.fn x=ah\/X.env.scope.names.lookup x=aa .local:=by first|exact .inl rfl|exact .inr rfl):DS X E pin (.Assign [.Name x p] e pos) (bR i de):=λF S c a H D g h=>gC (xw u q m bI n r) (s F S c a H _ g (h.bindE.imp λx b z B y j A w v f=>w z _ _ y (j.set f) (Grow.less i) (gv.set o)))
def fg(i:Nat)(d:ak->R PO):ak->R aL:=λε=>(d ε).bind λx ε1=>if i<ε1.length then .ok .next (ε1.set i (.own x))else .no
theorem mW(i:Nat){x:Str}{p:Pos}{dn:ak->R PO}(K:X.N.Nodup)(J:DN X E e dn)(C:i∉pin:=by decide)(G:X.N[i]?=aa x:=by rfl)(A:Loc X.env.scope x:=by first|exact Or.inl rfl|exact Or.inr rfl)(B:i8 e (aa (.Name x p)) pos.line X.env=pure aj:=by rfl)(I:X.fn x=ah\/X.env.scope.names.lookup x=aa .local:=by first|exact .inl rfl|exact .inr rfl):DS X E pin (.Assign [.Name x p] e pos) (fg i dn):=λF S q o H D u h=>by
 refine gC (xw K G A bI B I) (J F S q o H _ u ?_);unfold fg at h;cases n:dn q with
 |no=>rw[n]at h;exact h.elim
 |er c s=>rw[n]at h;exact λx Q M O w L=>h x Q M o O w L (gv.refl _ _)
 |ok T g=>
  rw[n]at h;simp only[R.bind_ok]at h;intro P Y N v f a W y r;by_cases m:i<g.length
  .rw[if_pos m]at h;refine h P _ _ N (v.setOwn m y λb z=>(r b z).2) ⟨f.fro,f.keep,f.there,f.fnew,λb ⟨j,z⟩=>?_⟩ (gv.set C);rcases z with z|⟨_,z⟩
   .exact f.onew b ⟨j,z.1⟩
   .exact .inr (r b z).1
  .rw[if_neg m]at h;exact h.elim
theorem g9{c:aA}{a b:List bf}{t:ak->R Bool}(r:DT X E c t)(u:fX X E pin a d1)(s:fX X E pin b d2):DS X E pin (.If c a b pos) (cI t d1 d2):=λF S p g H D q h=>by
 refine gC (Ka oP o0 o0) (r F S p g H _ q (h.bindE.imp λk f o m n i v j=>?_));cases k with
 |true=>exact oS (u o m f g n D i j)
 |false=>exact oB (s o m f g n D i j)
def d4(r:R aL):R aL:=match r with
 |.er _ _=>.no
 |r=>r
theorem lJ(h:DS X.nox E0 pin l d):DS X E pin l (λa=>d4 (d a)):=λF S a b H D i q=>Bx.mk λm s I=>by
 have q:hZ X.K E pin b F S H (d4 (d a)) D:=q;have j:hZ X.K E0 pin b F S H (d a) D:=by
  cases e:d a with
  |no=>rw[e]at q;exact q
  |er c g=>rw[e]at q;exact q.elim
  |ok f g=>rw[e]at q;cases f <;> exact q
 exact fj ((h F S a b H D i j).run m s (I.wish _)) (λ_ _ z=>z.unwish) λ_ _ z=>z.elim
def lX(X:Cx)(f a:aA):TI:=λb H h=>Bx (∀c s,Inv X c b H s->aC (ay X.prog X.w) X.A (bi a X.env) (λv g=>aC (ay X.prog X.w) X.A (pyIter v) (sP X c b f h) X.xe g) X.xe s)
theorem uw{b a:aA}:PI X b a (lX X b a):=λc s _ _ _ I h=>h.run c s I
theorem FA{f a:aA}{t:TI}(h:PI X f a t){b:St}{H:Hp}{c:It->Hp->Prop}(q:t b H c):lX X f a b H c:=⟨λg s I=>h g s b H c I q⟩
def DI(X:Cx)(E:XK)(q a:aA)(d:ak->R (List PV)):Prop:=∀F S m c H n,aG X.K F S m c H ->
 Ok X.K E c F S H (d m) (λg _ p r i=>∀J f o,aS X.K i p g f->f.length<=bj->Walk J f o->(∀h j b,Grow (U r) (U h) p j i b->o b)->n J i)->lX X q a c H n
def dj(i:Nat)(db:ak->R aL):List PV->ak->R aL
 |[],b=>.ok .next b
 |x::xs,b=>match db (b.set i (.val x))with
  |.ok .next a=>dj i db xs a
  |.ok .cont a=>dj i db xs a
  |.ok .brk a=>.ok .next a
  |r=>r
def cO(i:Nat)(a:ak->R (List PV))(db:ak->R aL):ak->R aL:=λε=>(a ε).bind λxs ε1=>dj i db xs ε1
theorem kl(i:Nat){x:Str}{p:Pos}{o:aA}{r:List bf}{Z:ak->R (List PV)}{C:ak->R aL}(nJ:xQ (ay X.prog X.w) X.A X.env X.xe)(hc:X.calm=ah)(hN:X.N.Nodup)(hi:DI X E (.Name x p) o Z)(hb:fX X E pin r C)(hp:i∉pin:=by decide) (A:X.N[i]?=aa x:=by rfl) (O:Loc X.env.scope x:=by first|exact Or.inl rfl|exact Or.inr rfl) (hs:∀x,kA o X.env x=pure x:=by intro _;rfl)(hf:X.fn x=ah\/X.env.scope.names.lookup x=aa .local:=by first|exact .inl rfl|exact .inr rfl):DS X E pin (.For (.Name x p) o r [] pos) (cO i Z C):=λF S ε σ H D rl h=>by
 refine gC (AH nJ hc uw (xI hN A O hf) o0 hs) (hi F S ε σ H _ rl (h.bindE.imp λxs I F1 S1 H1 Y g1 h1 J vs RR W hz hw keep=>?_));refine Bg hw (λk a n=>∃u w m,aG X.K u w m a n/\Grow (U S1) (U w) F1 u H1 n/\hZ X.K E pin a u w n (dj i C (xs.drop k) m) D) ⟨F1,S1,I,Y,Grow.refl ..,h1⟩ (λk a n _ ⟨u,w,m,_,g,_⟩=>keep w u n g) ?_ ?_
 .rintro k v a n hv ⟨u,w,m,M,B,q⟩;obtain⟨x,A,rx⟩:=W.back hv;have hk:k<xs.length:=(bY.mp A).1;have ed:xs.drop k=x::xs.drop (k+1):=by rw[pK hk];congr 1;exact(bY.mp A).2
  rw[ed]at q;have K:=rx.grow B Y.fit;have r2:=M.set (i:=i) K;have P:Grow (U w) (U λj b=>w j b/\j≠i) u u n n:=Grow.less i;show lM X r _ (a.set i (aa v)) n;refine hb u _ _ _ n _ r2 ?_;unfold dj at q;have q:=q.from P (gv.set (x:=aa v) hp);cases e:C (m.set i (.val x))with
  |no=>rw[e]at q;exact q
  |er c y=>rw[e]at q;exact q
  |ok f y=>
   rw[e]at q;cases f with
   |next=>exact λT Q G H3 L z N=>⟨T,Q,y,L,(B.trans P).trans z,q.from z N⟩
   |cont=>exact λT Q G H3 L z N=>⟨T,Q,y,L,(B.trans P).trans z,q.from z N⟩
   |brk=>exact q
   |ret s=>exact q
 .rintro a n ⟨u,w,m,M,B,q⟩;have O:vs.length=xs.length:=W.len;rw[O,yh]at q;exact q u w a n M (Grow.refl ..) (gv.refl _ _)
end
def ub(K:ar)(E:XK)(h:List V)(F:af->Prop)(S:Nat->af->Prop)(H:Hp)(r:R Slot)(Q:VK):Prop:=match r with
 |.ok s g=>∀v d e a f,aG K d e g (h.map aa) a->Grow (U S) (λb=>U e b\/f b) F d H a->k7 K a d s v f->q8 d e a f->(∀b,f b->H b=ag)->Q v a
 |.er c g=>∀x d e a,aG K d e g (h.map aa) a->Grow (U S) (U e) F d H a->E c x a
 |.no=>False
def bS(K:ar)(g:ak->R Slot):Sp:=λa H Q E=>∃F S b,aG K F S b (a.map aa) H/\ub K E a F S H (g b) Q
structure c_(CX:fY)(P:aT)(w:aK)(K:ar)(mg:Str->Option ai)(base:aB)(x:Str)(k:Nat)(ps:List Str)(sp:Sp):Prop where
 ex:∃f fd,mg x=aa (.ref f)/\jC P w K mg base CX k f fd ps sp/\Binds K fd ps []/\nt K (.ref f)=ah
def back:ak->ak->Option ak
 |[],_=>aa []
 |.own _::a,.own c::b=>(back a b).map (.own c::·)
 |.own _::_,_=>ag
 |s::a,_::b=>(back a b).map (s::·)
 |_::_,[]=>ag
theorem tE:∀{a c b:ak},back a c=aa b->b.length=a.length/\∀(i:Nat) (s:Slot),b[i]?=aa s->(∃g f,a[i]?=aa (.own g)/\c[i]?=aa (.own f)/\s=.own f)\/(a[i]?=aa s/\∀g,s≠.own g)
 |[],_,b,h=>by cases h;exact⟨rfl,λi s e=>by simp at e⟩
 |.own g::a,.own f::c,b,h=>by
  unfold back at h;cases e:back a c with
  |none=>rw[e]at h;cases h
  |some r=>
   rw[e]at h;cases h;obtain⟨l,q⟩:=tE e;refine⟨by simp[l],λi s d=>?_⟩;cases i with
   |zero=>simp at d;subst d;exact .inl ⟨g,f,rfl,rfl,rfl⟩
   |succ i=>simpa using q i s (by simpa using d)
 |.own g::a,.none::c,b,h=>by cases h
 |.own g::a,.val _::c,b,h=>by cases h
 |.own g::a,[],b,h=>by cases h
 |.none::a,[],b,h=>by cases h
 |.val _::a,[],b,h=>by cases h
 |.none::a,x::c,b,h=>by
  have h:(back a c).map (Slot.none::·)=aa b:=by unfold back at h;cases x <;> exact h
  cases e:back a c with
  |none=>rw[e]at h;cases h
  |some r=>
   rw[e]at h;cases h;obtain⟨l,q⟩:=tE e;refine⟨by simp[l],λi s d=>?_⟩;cases i with
   |zero=>simp at d;subst d;exact .inr ⟨rfl,λ_ z=>by cases z⟩
   |succ i=>simpa using q i s (by simpa using d)
 |.val pv::a,x::c,b,h=>by
  have h:(back a c).map (Slot.val pv::·)=aa b:=by unfold back at h;cases x <;> exact h
  cases e:back a c with
  |none=>rw[e]at h;cases h
  |some r=>
   rw[e]at h;cases h;obtain⟨l,q⟩:=tE e;refine⟨by simp[l],λi s d=>?_⟩;cases i with
   |zero=>simp at d;subst d;exact .inr ⟨rfl,λ_ z=>by cases z⟩
   |succ i=>simpa using q i s (by simpa using d)
def bN(n:Nat)(d:ak->R aL):ak->R Slot:=λe=>match d (e++dq n .none)with
 |.ok (.ret r) a=>(a_ (back e a) []).bind λb _=>.ok r b
 |.ok .next a=>(a_ (back e a) []).bind λb _=>.ok (.val .non) b
 |.er c a=>(a_ (back e a) []).bind λb _=>.er c b
 |_=>.no
section
variable{K:ar}{F x:af->Prop}{S o:Nat->af->Prop}{c l m:ak}{f:St}{H u:Hp}{d:List V}
theorem aG.start(r:aG K F S c (d.map aa) H)(n:Nat):aG K F S (c++dq n .none) (d.map aa++dq n ag) H:=by
 have A:c.length=(d.map aa).length:=r.len;have no:∀{j:Nat}{s:Slot},(c++dq n Slot.none)[j]?=aa s->s≠.none->c[j]?=aa s:=λ{j s} e y=>by
  by_cases B:j<c.length
  .rw[uH B]at e;exact e
  .rw[Cw ∅,List.getElem?_replicate]at e;split at e
   .exact absurd (cp e).symm y
   .cases e
 have p:∀{j:Nat}{v:Option V},(d.map aa)[j]?=aa v->(d.map aa++dq n ag)[j]?=aa v:=λ{j v} e=>by rw[uH (bY.mp e).1];exact e
 refine⟨by simp[A],r.ex,λj pv e=>?_,λj a e=>?_,λj b h=>?_,r.dist⟩
 .obtain⟨v,i,g⟩:=r.val j pv (no e (by intro z;cases z));exact⟨v,p i,g⟩
 .obtain⟨v,i,g⟩:=r.own j a (no e (by intro z;cases z));exact⟨v,p i,g⟩
 .obtain⟨⟨a,q⟩,w⟩:=r.foot j b h;exact⟨⟨a,by rw[uH (bY.mp q).1];exact q⟩,w⟩
theorem z6{e:PO}{a:af}{j:af->Prop}(h:ez K H F e a j)(i:gz e=ah):∀b,j b↔b=a:=by
 cases e with
 |lst xs=>exact h.2
 |dK g=>exact h.2
 |lls n=>cases i
 |ins C fs=>exact h.2
 |dT g=>exact h.2
 |inl C fs y xs=>cases i
theorem Gn{e:PO}{a:af}{g:af->Prop}(h:ez K H F e a g):g a:=by
 cases e with
 |lst xs=>exact(h.2 a).mpr rfl
 |dK b=>exact(h.2 a).mpr rfl
 |lls i=>obtain⟨j,_,_,_,_,w⟩:=h;exact(w a).mpr (.inl rfl)
 |ins C fs=>exact(h.2 a).mpr rfl
 |dT b=>exact(h.2 a).mpr rfl
 |inl C fs y xs=>obtain⟨_,_,_,_,_,_,_,_,_,_,w⟩:=h;exact(w a).mpr (.inl rfl)
theorem aG.back{Y:af->Prop}{D:List Nat}{n:Nat}(C:aG K F S c (d.map aa) H)(r:aG K x o l f u)(g:Grow (U S) Y F x H u)(p:gv D (d.map aa++dq n ag) f)(Q:∀(i:Nat) (s:PO),c[i]?=aa (.own s)->i∈D)(T:back c l=aa m):∃B,aG K x B m (d.map aa) u/\(∀b,U B b->U o b)/\((∀(i:Nat) (s:PO),c[i]?=aa (.own s)->gz s=ah)->∀b,U S b->U B b):=by
 obtain⟨M,G⟩:=tE T;have inj:∀(i:Nat) (s:PO),c[i]?=aa (.own s)->∃a,(d.map aa)[i]?=aa (aa (.ref a))/\f[i]?=aa (aa (.ref a))/\ez K H F s a (S i):=λi s e=>by obtain⟨a,y,A⟩:=C.own i s e;refine⟨a,y,?_,A⟩;rw[p i (Q i s e),uH (bY.mp y).1];exact y
 have bk:∀(i:Nat) (s:PO),c[i]?=aa (.own s)->∃w,m[i]?=aa (.own w)/\l[i]?=aa (.own w):=λi s e=>by
  have N:i<m.length:=by rw[M];exact(bY.mp e).1
  rcases G i m[i] (by simp[N])with⟨p1,p2,q1,q2,q3⟩|⟨q1,q2⟩
  .exact⟨p2,by rw[dY N,q3],q2⟩
  .rw[e]at q1;exact absurd (cp q1).symm (q2 s)
 refine⟨λi b=>o i b/\∃s,c[i]?=aa (.own s),⟨by rw[M];exact C.len,r.ex,λi pv e=>?_,λi s e=>?_,λi b h=>?_,λi j b y A=>r.dist i j b y.1 A.1⟩,λb ⟨i,h⟩=>⟨i,h.1⟩,λP b ⟨i,h⟩=>?_⟩
 .rcases G i _ e with⟨_,_,_,_,z⟩|⟨q1,_⟩
  .cases z
  .obtain⟨v,y,A⟩:=C.val i pv q1;exact⟨v,y,A.grow g C.fit⟩
 .rcases G i _ e with⟨p1,p2,q1,q2,q3⟩|⟨_,q2⟩
  .cases q3;obtain⟨a,y,A,O⟩:=inj i p1 q1;obtain⟨X,E,I⟩:=r.own i s q2;rw[A]at E;cases E;refine⟨a,y,?_⟩;have W:(λb=>o i b/\∃s,c[i]?=aa (.own s))=o i:=by funext b;exact propext ⟨λz=>z.1,λz=>⟨z,p1,q1⟩⟩
   rw[W];exact I
  .exact absurd rfl (q2 s)
 .obtain⟨s,q⟩:=h.2;obtain⟨w,L,J⟩:=bk i s q;exact⟨⟨w,L⟩,(r.foot i b h.1).2⟩
 .obtain⟨⟨s,q⟩,_⟩:=C.foot i b h;obtain⟨a,y,A,O⟩:=inj i s q;obtain⟨w,L,J⟩:=bk i s q;obtain⟨X,E,I⟩:=r.own i w J;rw[A]at E;cases E;have e:b=a:=(z6 O (P i s q) b).mp h;exact⟨i,e ▸ Gn I,s,q⟩
end
theorem t_{K:ar}{E:XK}{a:List V}{F:af->Prop}{S:Nat->af->Prop}{H:Hp}{r:R Slot}{Q:VK}(h:ub K E a F S H r Q):r≠.no:=λz=>by rw[z]at h;exact h
theorem zw{K:ar}{g:ak->R Slot}{m:Nat}(e:∀a,g a≠.no->a.length=m):∀b H Q E,bS K g b H Q E->b.length=m:=λb H Q E ⟨F,S,a,c,ok⟩=>by have:=e a (t_ ok);have d:=c.len;rw[cr]at d;lia
theorem B7{X:Cx}{E:XK}{u:List bf}{N P:List Str}{s:List V}{H:Hp}{Q:VK}{n:Nat}{g:ak->R Slot}{d:ak->R aL}{A:List Nat}(hn:N.length=P.length+n)(bq:∀a,g a≠.no->a.length=P.length) (jc:∀a,g a≠.no->∀(i:Nat) po,a[i]?=aa (.own po)->i∈A) (Z:∀a p m,g a=.ok p m->(∃pv,p=.val pv)\/∀(i:Nat) po,a[i]?=aa (.own po)->gz po=ah) (hg:∀a,g a≠.no->bN n d a=g a)(hb:fX X E A u d) (gq:bS X.K g s H Q E):lM X u {nx:=λ_ l=>Q .non l,rt:=Q} (L2.start N s) H:=by
 obtain⟨F,S,a,L,ok⟩:=gq;have hl:=bq a (t_ ok);have h2:=L.len;rw[cr]at h2;have es:L2.start N s=s.map aa++dq n ag:=by unfold L2.start;rw[show N.length-s.length=n by lia]
 rw[es];refine hb F S _ _ H _ (L.start n) ?_;have W:=jc a (t_ ok);have j5:=hg a (t_ ok);have K:=Z a;rw[<-j5]at ok K;unfold bN at ok K;generalize d (a++dq n .none)=r at ok K ⊢;cases r with
 |no=>exact ok
 |er c h=>
  intro x q C j l D f G;have ok:ub X.K E s F S H ((a_ (back a h) []).bind λm _=>.er c m) Q:=ok;cases e:back a h with
  |none=>rw[e]at ok;exact ok.elim
  |some m=>rw[e]at ok;obtain⟨B,y,o,_⟩:=L.back D f G W e;exact ok x q B l y ⟨f.fro,f.keep,f.there,f.fnew,λb z=>f.onew b (o b z)⟩
 |ok fl h=>
  have I:∀(p:Slot),(∀m,back a h=aa m->(∃pv,p=.val pv)\/∀(i:Nat) po,a[i]?=aa (.own po)->gz po=ah)->ub X.K E s F S H ((a_ (back a h) []).bind λm _=>.ok p m) Q->∀(v:V) q C j l J,aG X.K q C h j l->Grow (U S) (λb=>U C b\/J b) F q H l->gv A (s.map aa++dq n ag) j->k7 X.K l q p v J->q8 q C l J->Q v l:=by
   intro p O ok v q C j l J D f G T M;cases e:back a h with
   |none=>rw[e]at ok;exact ok.elim
   |some m=>
    rw[e]at ok;obtain⟨B,y,o,Y⟩:=L.back D f G W e;refine ok v q B l J y ⟨f.fro,f.keep,f.there,f.fnew,λb z=>f.onew b (z.imp (o b) id)⟩ T (λb z=>⟨(M b z).1,λw=>(M b z).2.1 (o b w),(M b z).2.2⟩) λb z=>?_;rcases O m e with⟨pv,rfl⟩|hf
    .exact absurd z (T.2 b)
    rcases f.onew b (.inr z)with w|w
    .exact absurd (o b (Y hf b w)) (M b z).2.1
    .exact w
  cases fl with
  |brk=>exact ok.elim
  |cont=>exact ok.elim
  |ret p=>exact I p (λm e=>K p m (by show(a_ (back a h) []).bind _=_;rw[e];rfl)) ok
  |next=>exact λq C j l D f G=>I (.val .non) (λ_ _=>.inl ⟨_,rfl⟩) ok .non q C j l (λ_=>False) D ⟨f.fro,f.keep,f.there,f.fnew,λb z=>z.elim (f.onew b) gj⟩ G ⟨rfl,λ_ z=>z⟩ λ_ z=>z.elim
theorem D7{f:af}{o:gi}{C:fY}{P:aT}{w:aK}{K:ar}{u:Str->Option ai}{h:aB}{x b:Str}{e:bf}{N j:List Str}{k n:Nat}{g:ak->R Slot}{d:ak->R aL}{l:List Nat}(Y:mL K x b e f o)(X:ce N j (ba e))(L:N.length=j.length+n)(hb:∀(kV m r:ai) (z:Option af) (B v:ai) (p:List ai),p.length=j.length->fk (ik x b (iU e) (fi e) (ba e) .none kV m r z B v) ⟨p,[]⟩=pure (j.zip p))(y:∀c,g c≠.no->c.length=j.length) (I:∀c,g c≠.no->∀(i:Nat) po,c[i]?=aa (.own po)->i∈l) (F:∀c q W,g c=.ok q W->(∃pv,q=.val pv)\/∀(i:Nat) po,c[i]?=aa (.own po)->gz po=ah) (M:∀c,g c≠.no->bN n d c=g c)(S:∀(A:aV) (a:List Env) (s:ao) (H:Hp) (E:XK),fc k (A.deeper (ix b (ba e) s.heap.objs.size f o.code))->fX (io C P w K u h N b (ba e) f o.code A a s H E) E l (fi e) d):jC P w K u h C (k+1) f o j (bS K g):=by obtain⟨oc,od,kV,m,r,z,B,v,D,rfl,G,T⟩:=Y.ex;exact Dr G T X (zw y) λA a s H Z Q E J O=>⟨_,o0,B7 L y I F M (S A a s H E J) O⟩
theorem AL{f:af}{u:gi}{B:fY}{P:aT}{w:aK}{K:ar}{y:Str->Option ai}{l:aB}{x b:Str}{j:bf}{N m:List Str}{k n:Nat}{g:ak->R Slot}{d:ak->R aL}{p:List Nat}(Q:mL K x b j f u)(O:ce N m (ba j))(D:N.length=m.length+n)(G:∀(kV v C:ai) (M:Option af) (q J:ai) (r:List ai),r.length=m.length->fk (ik x b (iU j) (fi j) (ba j) .none kV v C M q J) ⟨r,[]⟩=pure (m.zip r))(L:∀c,g c≠.no->c.length=m.length) (z:∀c,g c≠.no->∀(i:Nat) o,c[i]?=aa (.own o)->i∈p/\gz o=ah) (F:∀c,g c≠.no->bN n d c=g c)(I:∀(f:af) (q:ai) (A:aV) (a:List Env) (s:ao) (H:Hp) (E:XK),fc k (A.deeper (ix b (ba j) s.heap.objs.size f q))->fX (io B P w K y l N b (ba j) f q A a s H E) E p (fi j) d):jC P w K y l B (k+1) f u m (bS K g):=D7 Q O D G L (λc h i o e=>(z c h i o e).1) (λc S T h=>.inr λi o e=>(z c (by rw[h];exact nofun) i o e).2) F λA a s H E=>I f u.code A a s H E
theorem KL{u:fY}{P:aT}{w:aK}{K:ar}{o:Str->Option ai}{c:aB}{x:Str}{b:bf}{N h:List Str}{k n:Nat}{g:ak->R Slot}{d:ak->R aL}{j:List Nat}(D:cM K o x b)(M:ce N h (ba b))(z:N.length=h.length+n)(r:∀(kV p v:ai) (L:Option af) (l I:ai) (m:List ai),m.length=h.length->fk (ik x x (iU b) (fi b) (ba b) .none kV p v L l I) ⟨m,[]⟩=pure (h.zip m))(J:∀a,g a≠.no->a.length=h.length) (y:∀a,g a≠.no->∀(i:Nat) po,a[i]?=aa (.own po)->i∈j/\gz po=ah) (C:∀a,g a≠.no->bN n d a=g a)(F:∀(f:af) (l:ai) (A:aV) (e:List Env) (s:ao) (H:Hp) (E:XK),fc k (A.deeper (ix x (ba b) s.heap.objs.size f l))->fX (io u P w K o c N x (ba b) f l A e s H E) E j (fi b) d):c_ u P w K o c x (k+1) h (bS K g):=by obtain⟨f,G,B,q⟩:=D.ex;exact⟨f,G,B,AL q M z r J y C F,q.binds r,q.kp⟩
abbrev cA:=Sum PV Nat
def iQ(K:ar)(b:St)(F:af->Prop)(H:Hp):List cA->List V->Prop
 |[],a=>a=[]
 |.inl pv::c,a=>∃v r,a=v::r/\aJ K H F pv v/\iQ K b F H c r
 |.inr i::c,a=>∃v r,a=v::r/\b[i]?=aa (aa v)/\iQ K b F H c r
def DG(X:Cx)(E:XK)(f:List aA)(d:ak->R (List cA)):Prop :=
 ∀F S b a H Q,aG X.K F S b a H->Ok X.K E a F S H (d b) (λg _ h _ e=>∀c,iQ X.K a h e g c->Q c e)->oj X f a H Q
section
variable{X:Cx}{E:XK}{e:aA}{b:List aA}{de:ak->R PV}{c:ak->R (List cA)}{f:Pos}
def bD:ak->R (List cA):=λε=>.ok [] ε
def gV(d:ak->R PV)(c:ak->R (List cA)):ak->R (List cA):=λε=>(d ε).bind λx g=>(c g).bind λxs a=>.ok (.inl x::xs) a
def gO(i:Nat)(c:ak->R (List cA)):ak->R (List cA):=λd=>match d[i]? with
 |some (.own _)=>(c d).bind λxs a=>.ok (.inr i::xs) a
 |_=>.no
theorem bG:DG X E [] bD:=λF S g d H Q a h=>qr km (h F S H a (Grow.refl ..) _ rfl)
theorem EH(s:DE X E e de)(r:DG X E b c)(q:aR (e::b) X.env=(aj,bi e X.env)::aR b X.env:=by rfl):DG X E (e::b) (gV de c):=λF S j d H Q n h=>by refine qr (jH bI iY q) (s F S j d H _ n ((Ok.bind h).imp λx a G A C g I w v m=>?_));refine r G A a d C _ g ((Ok.bind w).imp λxs i D z B o y u l p=>?_);exact u D z B o (Grow.refl ..) _ ⟨v,l,rfl,m.grow y g.fit,p⟩
theorem et(i:Nat){x:Str}{p:Pos}(v:DG X E b c)(y:X.N[i]?=aa x:=by rfl)(s:d_ X.env.scope x:=by eq_refl)(w:(x==("__debug__":Str))=aj:=by decide)(A:(x==("__classdict__":Str))=aj:=by decide) (u:aR (.Name x p::b) X.env=(aj,bi (.Name x p) X.env)::aR b X.env:=by rfl):DG X E (.Name x p::b) (gO i c):=λF S m j H Q d h=>by
 unfold gO at h;split at h
 .rename_i q e;obtain⟨a,g,_⟩:=d.own i q e;refine qr (jH (fD y s w A) iY u) ⟨_,g,v F S m j H _ d ((Ok.bind h).imp λxs l D B C o G z n r=>?_)⟩;exact z D B C o (Grow.refl ..) _ ⟨_,n,rfl,g,r⟩
 .exact h.elim
end
def eO(a:ak):List cA->Option ak
 |[]=>aa []
 |.inl pv::b=>(eO a b).map (.val pv::·)
 |.inr i::b=>match a[i]? with
  |some (.own c)=>(eO a b).map (.own c::·)
  |_=>ag
def iP:ak->List cA->ak->ak
 |a,.inl _::c,_::b=>iP a c b
 |a,.inr i::c,s::b=>iP (a.set i s) c b
 |a,_,_=>a
def cB:List cA->List Nat
 |[]=>[]
 |.inl _::as=>cB as
 |.inr i::as=>i::cB as
theorem Aq:∀{as:List cA}{i:Nat},i∈cB as↔∃k:Nat,as[k]?=aa (.inr i)
 |[],i=>by simp[cB]
 |.inl _::as,i=>by
  unfold cB;rw[Aq];constructor
  .rintro⟨k,h⟩;exact⟨k+1,by simpa using h⟩
  .rintro⟨k,h⟩;cases k with
   |zero=>simp at h
   |succ k=>exact⟨k,by simpa using h⟩
 |.inr j::as,i=>by
  unfold cB;rw[dm,Aq];constructor
  .rintro(rfl|⟨k,h⟩)
   .exact⟨0,rfl⟩
   .exact⟨k+1,by simpa using h⟩
  .rintro⟨k,h⟩;cases k with
   |zero=>simp at h;exact .inl h.symm
   |succ k=>exact .inr ⟨k,by simpa using h⟩
theorem tW{d:ak}:∀{a:List cA}{c:ak},eO d a=aa c->c.length=a.length/\∀(k:Nat) (s:Slot),c[k]?=aa s->(∃pv,a[k]?=aa (.inl pv)/\s=.val pv)\/∃i f,a[k]?=aa (.inr i)/\d[i]?=aa (.own f)/\s=.own f
 |[],c,h=>by cases h;exact⟨rfl,λk s e=>by simp at e⟩
 |.inl pv::a,c,h=>by
  unfold eO at h;cases e:eO d a with
  |none=>rw[e]at h;cases h
  |some r=>
   rw[e]at h;cases h;obtain⟨l,q⟩:=tW e;refine⟨by simp[l],λk s b=>?_⟩;cases k with
   |zero=>simp at b;exact .inl ⟨pv,rfl,b.symm⟩
   |succ k=>simpa using q k s (by simpa using b)
 |.inr i::a,c,h=>by
  unfold eO at h;split at h
  .rename_i f g;cases e:eO d a with
   |none=>rw[e]at h;cases h
   |some r=>
    rw[e]at h;cases h;obtain⟨l,q⟩:=tW e;refine⟨by simp[l],λk s b=>?_⟩;cases k with
    |zero=>simp at b;exact .inr ⟨i,f,rfl,g,b.symm⟩
    |succ k=>simpa using q k s (by simpa using b)
  .cases h
theorem vD:∀(c:List cA) (a b:ak),(iP a c b).length=a.length
 |[],a,b=>by cases b <;> rfl
 |.inl _::c,a,[]=>rfl
 |.inr _::c,a,[]=>rfl
 |.inl _::c,a,s::b=>vD c a b
 |.inr i::c,a,s::b=>by show(iP (a.set i s) c b).length=_;rw[vD,dX]
theorem o7:∀(a:List cA) (b c:ak) (j:Nat),j∉cB a->(iP b a c)[j]?=b[j]?
 |[],b,c,j,_=>by cases c <;> rfl
 |.inl _::a,b,[],j,_=>rfl
 |.inr _::a,b,[],j,_=>rfl
 |.inl _::a,b,s::c,j,h=>o7 a b c j h
 |.inr i::a,b,s::c,j,h=>by
  have d:¬(j=i\/j∈cB a):=by simpa[cB]using h
  show(iP (b.set i s) a c)[j]?=_;rw[o7 a _ c j λz=>d (.inr z),b9 λz=>d (.inl z.symm)]
theorem p9:∀(a:List cA) (b c:ak) (j k:Nat) (s:Slot),(cB a).Nodup->j<b.length->a[k]?=aa (.inr j)->c[k]?=aa s->(iP b a c)[j]?=aa s
 |[],b,c,j,k,s,_,_,h,_=>by simp at h
 |_::a,b,[],j,k,s,_,_,_,h=>by simp at h
 |.inl _::a,b,t::c,j,0,s,_,_,h,_=>by simp at h
 |.inl _::a,b,t::c,j,k+1,s,nd,hj,h,g=>p9 a b c j k s nd hj (by simpa using h) (by simpa using g)
 |.inr i::a,b,t::c,j,0,s,nd,hj,h,g=>by simp at h g;subst h g;have d:i∉cB a:=(lj.mp nd).1;show(iP (b.set i t) a c)[i]?=_;rw[o7 a _ c i d,cR hj]
 |.inr i::a,b,t::c,j,k+1,s,nd,hj,h,g=>p9 a (b.set i t) c j k s (lj.mp nd).2 (by rw[dX];exact hj) (by simpa using h) (by simpa using g)
theorem iQ.len{K:ar}{c:St}{F:af->Prop}{H:Hp}:∀{a:List cA}{b:List V},iQ K c F H a b->b.length=a.length
 |[],_,h=>by rw[show _=[] from h];rfl
 |.inl _::a,_,⟨v,r,e,_,h⟩=>by rw[e,eP,eP,iQ.len h]
 |.inr _::a,_,⟨v,r,e,_,h⟩=>by rw[e,eP,eP,iQ.len h]
theorem iQ.val{K:ar}{d:St}{F:af->Prop}{H:Hp}:∀{as:List cA}{c:List V}{k:Nat}{pv:PV},iQ K d F H as c->as[k]?=aa (.inl pv)->∃v,c[k]?=aa v/\aJ K H F pv v
 |[],_,k,_,_,e=>by simp at e
 |.inl x::as,_,0,pv,⟨v,r,e,h,_⟩,q=>by simp at q;subst q e;exact⟨v,rfl,h⟩
 |.inr _::as,_,0,pv,_,q=>by simp at q
 |.inl x::as,_,k+1,pv,⟨v,r,e,_,h⟩,q=>by obtain⟨w,a,b⟩:=iQ.val (k:=k) h (by simpa using q);subst e;exact⟨w,by simpa using a,b⟩
 |.inr x::as,_,k+1,pv,⟨v,r,e,_,h⟩,q=>by obtain⟨w,a,b⟩:=iQ.val (k:=k) h (by simpa using q);subst e;exact⟨w,by simpa using a,b⟩
theorem iQ.own{K:ar}{c:St}{F:af->Prop}{H:Hp}:∀{as:List cA}{d:List V}{k i:Nat},iQ K c F H as d->as[k]?=aa (.inr i)->∃v,d[k]?=aa v/\c[i]?=aa (aa v)
 |[],_,k,_,_,e=>by simp at e
 |.inr x::as,_,0,pv,⟨v,r,e,h,_⟩,q=>by simp at q;subst q e;exact⟨v,rfl,h⟩
 |.inl _::as,_,0,pv,_,q=>by simp at q
 |.inl x::as,_,k+1,pv,⟨v,r,e,_,h⟩,q=>by obtain⟨w,a,b⟩:=iQ.own (k:=k) h (by simpa using q);subst e;exact⟨w,by simpa using a,b⟩
 |.inr x::as,_,k+1,pv,⟨v,r,e,_,h⟩,q=>by obtain⟨w,a,b⟩:=iQ.own (k:=k) h (by simpa using q);subst e;exact⟨w,by simpa using a,b⟩
section
variable{K:ar}{F A:af->Prop}{S m:Nat->af->Prop}{c s f:ak}{u:St}{H y:Hp}{as:List cA}{d:List V}
def kn(as:List cA)(S:Nat->af->Prop)(k:Nat)(b:af):Prop:=∃i,as[k]?=aa (.inr i)/\S i b
theorem tI(b:af)(h:U (kn as S) b):U S b:=let ⟨_,i,_,h⟩:=h;⟨i,h⟩
theorem ut:∀{as:List cA}{i k l:Nat},(cB as).Nodup->as[k]?=aa (.inr i)->as[l]?=aa (.inr i)->k=l
 |[],_,_,_,_,h,_=>by simp at h
 |.inl _::as,i,0,_,_,h,_=>by simp at h
 |.inl _::as,i,_,0,_,_,h=>by simp at h
 |.inl _::as,i,k+1,l+1,nd,h1,h2=>by rw[ut (as:=as) (i:=i) (k:=k) (l:=l) nd (by simpa using h1) (by simpa using h2)]
 |.inr j::as,i,0,0,_,_,_=>rfl
 |.inr j::as,i,0,l+1,nd,h1,h2=>by simp at h1;subst h1;exact absurd (Aq.mpr ⟨l,by simpa using h2⟩) (lj.mp nd).1
 |.inr j::as,i,k+1,0,nd,h1,h2=>by simp at h2;subst h2;exact absurd (Aq.mpr ⟨k,by simpa using h1⟩) (lj.mp nd).1
 |.inr j::as,i,k+1,l+1,nd,h1,h2=>by rw[ut (as:=as) (i:=i) (k:=k) (l:=l) (lj.mp nd).2 (by simpa using h1) (by simpa using h2)]
theorem aG.cal(r:aG K F S c u H)(C:iQ K u F H as d)(L:eO c as=aa s)(J:(cB as).Nodup):aG K F (kn as S) s (d.map aa) H:=by
 obtain⟨G,B⟩:=tW L;have D:∀{k:Nat}{v:V},d[k]?=aa v->(d.map aa)[k]?=aa (aa v):=λ{k v} e=>by rw[fN,e];rfl
 refine⟨by rw[G,cr,C.len],r.ex,λk pv e=>?_,λk E e=>?_,λk b h=>?_,λk l b g o=>?_⟩
 .rcases B k _ e with⟨p,q1,n⟩|⟨_,_,_,_,z⟩
  .cases n;obtain⟨v,x,w⟩:=C.val q1;exact⟨v,D x,w⟩
  .cases z
 .rcases B k _ e with⟨_,_,z⟩|⟨i,p,q1,n,q3⟩
  .cases z
  .cases q3;obtain⟨v,x,w⟩:=C.own q1;obtain⟨a,b1,b2⟩:=r.own i E n;rw[w]at b1;cases b1;have M:kn as S k=S i:=by
    funext b;exact propext ⟨λ⟨j,g,o⟩=>by rw[q1]at g;cases g;exact o,λh=>⟨i,q1,h⟩⟩
   exact⟨a,D x,by rw[M];exact b2⟩
 .obtain⟨i,g,o⟩:=h;obtain⟨⟨E,q⟩,n⟩:=r.foot i b o;have I:k<s.length:=by rw[G];exact(bY.mp g).1
  refine⟨?_,n⟩;rcases B k s[k] (by simp[I])with⟨_,z,_⟩|⟨j,p,z1,z2,z3⟩
  .rw[g]at z;cases z
  .exact⟨p,by rw[dY I,z3]⟩
 .obtain⟨i,x,w⟩:=g;obtain⟨j,b1,b2⟩:=o;have:=r.dist i j b w b2;subst this;exact ut J x b1
theorem aG.called{O':af->Prop}(r:aG K F S c u H)(ha:iQ K u F H as d)(hs:eO c as=aa s)(Q:(cB as).Nodup)(O:aG K A m f (d.map aa) y)(g:Grow (U (kn as S)) O' F A H y)(hO:∀b,U m b->O' b)(M:∀(k:Nat) i,as[k]?=aa (.inr i)->∃D,f[k]?=aa (.own D)):∃Z,aG K A Z (iP c as f) u y/\Grow (U S) (U Z) F A H y/\∀b,U Z b->U m b\/U S b:=by
 have up:∀{k:Nat}{v:V},(d.map aa)[k]?=aa (aa v)->d[k]?=aa v:=λ{k v} e=>by
  rw[fN]at e;cases q:d[k]? with
  |none=>rw[q]at e;cases e
  |some x=>rw[q]at e;cases e;rfl
 have fit:Fit (U (kn as S)) F H:=λb h=>r.fit b (tI b h);have L:∀i D,c[i]?=aa (.own D)->i<c.length:=λi D e=>(bY.mp e).1;have lt:∀(k:Nat) i,as[k]?=aa (.inr i)->i<c.length:=λk i e=>by
  obtain⟨hl,hg⟩:=tW hs;have E:k<s.length:=by rw[hl];exact(bY.mp e).1
  rcases hg k s[k] (by simp[E])with⟨_,z,_⟩|⟨j,p,z1,z2,z3⟩
  .rw[e]at z;cases z
  .rw[e]at z1;cases z1;exact L _ _ z2
 refine⟨λj b=>(∃k:Nat,as[k]?=aa (.inr j)/\m k b)\/(j∉cB as/\S j b),⟨by rw[vD];exact r.len,O.ex,λj pv e=>?_,λj D e=>?_,λj b h=>?_,λi j b B C=>?_⟩,⟨g.fro,λb o e n=>g.keep b o e λz=>n (tI b z),g.there,λa z=>(g.fnew a z).imp id λw=>w.imp id (tI a),λb ⟨j,z⟩=>?_⟩,λb ⟨j,z⟩=>?_⟩
 .by_cases I:j∈cB as
  .obtain⟨k,E⟩:=Aq.mp I;obtain⟨D,q⟩:=M k j E;rw[p9 as c f j k _ Q (lt k j E) E q]at e;cases e
  .rw[o7 as c f j I]at e;obtain⟨v,B,C⟩:=r.val j pv e;exact⟨v,B,C.grow g fit⟩
 .by_cases I:j∈cB as
  .obtain⟨k,E⟩:=Aq.mp I;obtain⟨po',q⟩:=M k j E;rw[p9 as c f j k _ Q (lt k j E) E q]at e;cases e;obtain⟨a,B,C⟩:=O.own k D q;obtain⟨v,T,Y⟩:=ha.own E;rw[up B]at T;cases T;have X:(λb=>(∃k:Nat,as[k]?=aa (.inr j)/\m k b)\/(j∉cB as/\S j b))=m k:=by
    funext b;refine propext ⟨λz=>?_,λz=>.inl ⟨k,E,z⟩⟩;rcases z with⟨l,z1,z2⟩|⟨z,_⟩
    .rw[ut Q E z1];exact z2
    .exact absurd I z
   exact⟨a,Y,by rw[X];exact C⟩
  .rw[o7 as c f j I]at e;obtain⟨a,B,C⟩:=r.own j D e;have X:(λb=>(∃k:Nat,as[k]?=aa (.inr j)/\m k b)\/(j∉cB as/\S j b))=S j:=by
    funext b;refine propext ⟨λz=>?_,λz=>.inr ⟨I,z⟩⟩;rcases z with⟨l,z1,z2⟩|⟨_,z⟩
    .exact absurd (Aq.mpr ⟨l,z1⟩) I
    .exact z
   have h3:ez K y A D a (S j):=by refine C.mono (λ_ _ q=>q.grow g fit) (λ_ _ q=>q.grow g fit) λb o z q=>g.keep b o q λ⟨l,i,N,J⟩=>?_;have:=r.dist i j b J z;subst this;exact I (Aq.mpr ⟨l,N⟩)
   exact⟨a,B,by rw[X];exact h3⟩
 .rcases h with⟨k,B,C⟩|⟨B,C⟩
  .obtain⟨⟨D,q⟩,W⟩:=O.foot k b C;exact⟨⟨D,p9 as c f j k _ Q (lt k j B) B q⟩,W⟩
  .obtain⟨⟨D,q⟩,W,o,P,q4⟩:=r.foot j b C;have no:¬U (kn as S) b:=λ⟨l,i,N,J⟩=>by have:=r.dist i j b J C;subst this;exact B (Aq.mpr ⟨l,N⟩)
   refine⟨⟨D,by rw[o7 as c f j B];exact q⟩,λz=>?_,o,g.keep b o P no,q4⟩;rcases g.fnew b z with w|w|w
   .exact W w
   .rw[P]at w;cases w
   .exact no w
 .have G:∀{i j:Nat}{b:af},(∃k:Nat,as[k]?=aa (.inr i)/\m k b)->(j∉cB as/\S j b)->False:=λ{i j b} ⟨k,N,J⟩ ⟨w3,w4⟩=>by
   obtain⟨_,_,o,P,_⟩:=r.foot j b w4;rcases g.onew b (hO b ⟨k,J⟩)with⟨l,i',z1,z2⟩|z
   .have:=r.dist i' j b z2 w4;subst this;exact w3 (Aq.mpr ⟨l,z1⟩)
   .rw[P]at z;cases z
  rcases B with B|B <;> rcases C with C|C
  .obtain⟨k,T,Y⟩:=B;obtain⟨l,b1,b2⟩:=C;have:=O.dist k l b Y b2;subst this;rw[T]at b1;cases b1;rfl
  .exact(G B C).elim
  .exact(G C B).elim
  .exact r.dist i j b B.2 C.2
 .rcases z with⟨k,_,z⟩|⟨_,z⟩
  .rcases g.onew b (hO b ⟨k,z⟩)with w|w
   .exact .inl (tI b w)
   .exact .inr w
  .exact .inl ⟨j,z⟩
 .rcases z with⟨k,_,z⟩|⟨_,z⟩
  .exact .inl ⟨k,z⟩
  .exact .inr ⟨j,z⟩
end
def DR(X:Cx)(E:XK)(e:aA)(d:ak->R Slot):Prop :=
 ∀F S f a H Q,aG X.K F S f a H->Ok X.K E a F S H (d f) (λs _ h i c=>∀v g,k7 X.K c h s v g->(∀b,g b->H b=ag/\¬h b/\¬U i b/\∃o,c b=aa o/\dy o)->Q v c)->gw X e a H Q
def gH:List cA->ak->Bool
 |[],_=>ah
 |.inl _::as,_::ss=>gH as ss
 |.inr _::as,.own _::ss=>gH as ss
 |_,_=>aj
theorem lO:∀{as:List cA}{ss:ak},gH as ss=ah->∀(k:Nat) i,as[k]?=aa (.inr i)->∃a,ss[k]?=aa (.own a)
 |[],_,_,k,i,h=>by simp at h
 |.inl _::as,s::ss,q,0,i,h=>by simp at h
 |.inl _::as,s::ss,q,k+1,i,h=>by simpa using lO (as:=as) (ss:=ss) (by unfold gH at q;exact q) k i (by simpa using h)
 |.inr _::as,.own a::ss,q,0,i,h=>⟨a,rfl⟩
 |.inr _::as,.own a::ss,q,k+1,i,h=>by simpa using lO (as:=as) (ss:=ss) (by unfold gH at q;exact q) k i (by simpa using h)
 |.inr _::as,.val _::ss,q,k,i,h=>by cases q
 |.inr _::as,.none::ss,q,k,i,h=>by cases q
 |.inl _::as,[],q,k,i,h=>by cases q
 |.inr _::as,[],q,k,i,h=>by cases q
def gX{e:Type}(d:ak)(b:List cA)(r:R e):R e:=match r with
 |.ok s a=>if gH b a then .ok s (iP d b a)else .no
 |.er c a=>if gH b a then .er c (iP d b a)else .no
 |.no=>.no
def a8(g:ak->R Slot)(d:ak->R (List cA)):ak->R Slot:=λε=>(d ε).bind λb a=>(a_ (if(cB b).Nodup then eO a b else ag) a).bind λc a=>gX a b (g c)
section
variable{m:fY}{X:Cx}{E:XK}{pin:List Nat}{e:aA}{j:List aA}{l:ak->R (List cA)}{pos:Pos}{x:Str}{k:Nat}{n:List Str}{g:ak->R Slot}{p:Pos}{d:ak->R Slot}
theorem Bn{K:ar}{F0 u:af->Prop}{S0 D:Nat->af->Prop}{a:ak}{I:St}{H r:Hp}{c:List cA}{vs:List V}{Q:VK}(B:aG K u D a I r)(g1:Grow (U S0) (U D) F0 u H r)(S:iQ K I u r c vs)(q:Ok K E I u D r ((a_ (if(cB c).Nodup then eO a c else ag) a).bind λF a=>gX a c (g F)) λs _ A Y h=>∀v G,k7 K h A s v G->(∀b,G b->H b=ag/\¬A b/\¬U Y b/\∃o,h b=aa o/\dy o)->Q v h):bS K g vs r Q E:=by
 have q:=Ok.bind q;by_cases C:(cB c).Nodup
 .rw[if_pos C]at q;cases j:eO a c with
  |none=>rw[j]at q;exact q.elim
  |some F=>
   rw[j]at q;have q:=q u D r B (Grow.refl ..);dsimp only at q;refine⟨u,kn c D,F,B.cal S j C,?_⟩;cases P:g F with
   |no=>rw[P]at q;exact q.elim
   |er cv T=>
    rw[P]at q;intro y A Y h L O;unfold gX at q;dsimp only at q;by_cases f:gH c T=ah
    .rw[if_pos f]at q;obtain⟨W,J,N,_⟩:=B.called S j C L O (λ_ z=>z) (lO f);exact q y A W h J N
    .rw[if_neg f]at q;exact q.elim
   |ok s T=>
    rw[P]at q;intro v A Y h G L O rv M fr;unfold gX at q;dsimp only at q;by_cases f:gH c T=ah
    .rw[if_pos f]at q;obtain⟨W,J,N,u2⟩:=B.called S j C L O (λ_ z=>.inl z) (lO f);refine q A W h J N v G rv λb z=>⟨mJ g1 (fr b z),(M b z).1,λw=>?_,(M b z).2.2⟩
     rcases u2 b w with w|⟨i,w⟩
     .exact(M b z).2.1 w
     .obtain⟨_,_,o,Z,_⟩:=B.foot i b w;rw[fr b z]at Z;cases Z
    .rw[if_neg f]at q;exact q.elim
 .rw[if_neg C]at q;exact q.elim
theorem bJ(c:c_ m X.prog X.w X.K X.mg X.base x k n (bS X.K g))(u:fc k X.A)(s:qJ m X E)(B:DG X E (e::j) l)(y:Gl X x:=by rfl)(z:(x==("__debug__":Str))=aj:=by decide) (D:aR (e::j) X.env=(aj,bi e X.env)::aR j X.env:=by rfl) (C:(cS pos (aR j X.env)).any (·.1)=aj:=by rfl):DR X E (.Call (.Name x p) (e::j) [] pos) (a8 g l):=λF S i a H Q o h=>by obtain⟨f,L,v,J,A,w⟩:=c.ex;refine bX (Fe J u y v w A .nil s iY z D C) (B F S i a H _ o ((Ok.bind h).imp λM b P N O r G q K I=>?_));rw[i_];exact Bn r G I q
def xq:Slot->Option PV
 |.val pv=>aa pv
 |.own (.lst xs)=>aa (.lst xs)
 |_=>ag
def bh(d:ak->R Slot):ak->R PV:=λε=>(d ε).bind λs a=>a_ (xq s) a
def wM:Slot->Option PO
 |.own a=>aa a
 |_=>ag
def qD(d:ak->R Slot):ak->R PO:=λb=>(d b).bind λs a=>a_ (wM s) a
theorem DR.dn(h:DR X E e d):DN X E e (qD d):=λF S f i H Q w q=>by
 unfold qD at q;refine h F S f i H Q w ?_;cases b:d f with
 |no=>rw[b]at q;exact q.elim
 |er c r=>rw[b]at q;exact q
 |ok s o=>
  rw[b]at q;cases s with
  |none=>exact q.elim
  |val pv=>exact q.elim
  |own J=>intro I D G y A v C u B;obtain⟨a,rfl,z⟩:=u;exact q I D G y A a C z B
theorem DR.de(h:DR X E e d):DE X E e (bh d):=λF S ε b H Q f q=>by
 unfold bh at q;cases a:d ε with
 |no=>rw[a]at q;exact q.elim
 |er c o=>refine h F S ε b H Q f ?_;rw[a]at q ⊢;exact q
 |ok s ε1=>
  cases s with
  |none=>rw[a]at q;exact q.elim
  |val pv=>refine h F S ε b H Q f ?_;rw[a]at q ⊢;exact λD A B u z v J r G=>q D A B u z v r.1
  |own w=>
   refine h.dn.de F S ε b H Q f ?_;unfold dF qD;rw[a]at q ⊢;cases w with
   |lst xs=>exact q
   |dK i=>exact q
   |lls I=>exact q
   |ins C fs=>exact q
   |dT i=>exact q
   |inl C fs y xs=>exact q
def mB(d:ak->R Slot):ak->R aL:=λb=>(d b).bind λs a=>.ok (.ret s) a
theorem vi(G:DR X E e d):DS X E pin (.Return (aa e) pos) (mB d):=λF S o f H D A h=>by
 refine gC (vH bI) (G F S o f H _ A ?_);unfold mB at h;cases i:d o with
 |no=>rw[i]at h;exact h.elim
 |er c u=>rw[i]at h;exact λx P L N C I=>h x P L f N C I (gv.refl _ _)
 |ok s r=>rw[i]at h;intro O K M B a v J y q;exact h v O K f M J B ⟨a.fro,a.keep,a.there,a.fnew,λb z=>z.elim (a.onew b) λw=>.inr (q b w).1⟩ (gv.refl _ _) y λb z=>(q b z).2
def rf(d:ak->R Slot):ak->R aL:=λb=>(d b).bind λ_ a=>.ok .next a
theorem zd(q:DR X E e d)(o:i8 e ag pos.line X.env=pure aj:=by rfl):DS X E pin (.Expr e pos) (rf d):=λF S c a H D f h=>gC (wz bI o) (q F S c a H _ f (h.bindE.imp λx b w s u i z r v B y A=>r w s a u i (Grow.refl ..) (gv.refl _ _)))
end
end Pu
namespace L2
section
variable{X:Cx}{l:List (af×Obj)}{i:St}{H:Hp}{s:ao}{d:dD}{x:Str}{j:List Str}{g:List Nat}
theorem GN{E m O:aA}{y:Str}{py J F:Pos}{G k:Nat}{N:V->Hp->St->Prop}{A:List aA}{wi:TI}{ts:TT}{te:TE}(B:iD X d x j g)(hk:k<=g.length)(hc:X.calm=ah)(hi:PI X O m wi)(d9:∀C r w Y P,PG (bP X d j C r w Y P) O λv M H Q=>∃vs,vs.length=k+1/\M.length=j.length/\N v H vs/\Q (vs++M.drop (k+1)) H)(ht:∀C r w Y P,oW (bP X d j C r w Y P) A ts) (he:∀C r w Y P,PE (bP X d j C r w Y P) E te) (hN:X.N.Nodup) (nL:X.N[G]?=aa y) (hxy:Loc X.env.scope y) (nM:i8 (.ListComp E [⟨O,m,A,0⟩] d J) (aa (.Name y py)) F.line X.env=pure ah) (hf:X.fn y=ah\/X.env.scope.names.lookup y=aa .local) (hs:∀x,kA m X.env x=pure x):PS X (.Assign [.Name y py] (.ListComp E [⟨O,m,A,0⟩] d J) F) (λD i H=>xE wi N k ts te g i H λv H'=>D.nx (i.set G (aa v)) H'):=by
 intro l s i H D I h;rw[exec_Assign_Name_used _ _ _ _ nM];refine az (wpAny_standAt (az ?_));show aC _ X.A (do let _ <-comprehension (.ListComp E [⟨O,m,A,0⟩] d J) d X.env _ (newList []) aj (bi m X.env) (aa (li (.Name y py) X.env))) _ _ s;refine az (fj (?_:aC _ X.A _ (λ_ s'=>SP X l D .next s') X.xe s) (λ_ s' hq=>bg (bg hq)) λ_ _ e=>e);refine Bz (use:=aa (li (.Name y py) X.env)) B hk hc hi d9 ht he hs I h λ{K s6 H3 H5 fp σ5 a f} Z f3 I6 q=>?_;obtain⟨mm,hn6,_⟩:=I6.loc;have J6:Inv X l i _ _:=Z.unblock f3 I6 (Heap.SameBut.refl _ _);have S:K.heap.objs.size≠X.env.locals:=λe=>absurd Z.lt (by rw[<-e];exact ii _);have T:∀z c,X.env.cells.lookup z=aa c->c≠K.heap.objs.size:=λz c e e2=>by obtain⟨vv,oo,ho,_⟩:=Z.cell z c e;exact absurd (bM ho) (by rw[e2];exact ii _)
 refine wpAny_assign_Name (Bo (v:=.ref a) J6 hN nL hxy rfl (λs7 I7 ⟨a7,sb7,ha7⟩=>?_) hf);have na7:K.heap.objs.size≠a7:=by
  rcases ha7 with z|z
  .rw[z];exact S
  .exact(T _ _ z).symm
 refine⟨mm,hn6.sameBut sb7 na7,λkJ sb=>⟨_,_,?_,q⟩⟩;have W:H5 K.heap.objs.size=ag:=I6.free;refine I7.call' (s':={s7 with heap:=kJ}) (ch:=[K.heap.objs.size]) rfl ⟨λb o e n hb L=>?_,λb o e n hb L=>?_,λb o e n L=>n,λb o e L=>?_,λb xs e=>e,λb o u e=>e,λb ps e=>e⟩ ?_ I7.bare λb hb=>?_
 .exact(sb.2 b (by simpa using L)).trans e
 .exact⟨o.slots,(sb.2 b (by simpa using L)).trans (by simpa using e)⟩
 .exact⟨o,(sb.2 b (by simpa using L)).trans e⟩
 .intro b u e;refine(I7.hok b u e).stay (λc v hc q=>(sb.2 c ?_).trans q) (λ_ q=>q) λ_ _ q=>q;rintro rfl;rcases hc with z|z
  .rw[<-z,W]at e;cases e
  .rw[W]at z;cases z
 .have e:b=K.heap.objs.size:=by simpa using hb
  subst e;refine⟨.inr Z.sz,S,T,λp hp e2=>?_⟩;obtain⟨e3,_⟩:=Z.pin p hp;exact absurd (bM e3) (by rw[e2];exact ii _)
theorem BU{m a:aA}{y:Str}{o u n e:Pos}{f:Nat}{h:List aA}{wi:TI}{ts:TT}{te:TE}(B:iD X d x j g)(J:X.calm=ah)(F:PI X (.Name x o) a wi)(A:∀C b c r p,oW (bP X d j C b c r p) h ts) (I:∀C b c r p,PE (bP X d j C b c r p) m te) (K:X.N.Nodup) (z:X.N[f]?=aa y) (q:Loc X.env.scope y) (w:i8 (.ListComp m [⟨.Name x o,a,h,0⟩] d n) (aa (.Name y u)) e.line X.env=pure ah) (G:X.fn y=ah\/X.env.scope.names.lookup y=aa .local) (E:∀x,kA a X.env x=pure x):PS X (.Assign [.Name y u] (.ListComp m [⟨.Name x o,a,h,0⟩] d n) e) (λD i H=>ur wi ts te g i H λv L=>D.nx (i.set f (aa v)) L):=GN B (l8 _) J F (zr B) A I K z q w G E
end
end L2
namespace Pu
open L2
def cL(ε:ak):List Nat->Option (List cA)
 |[]=>aa []
 |j::cap=>match ε[j]? with
  |some (.val pv)=>(cL ε cap).map (.inl pv::·)
  |some (.own _)=>(cL ε cap).map (.inr j::·)
  |_=>ag
def cc{b:Type}(cap:List Nat)(d:ak->R b)(x:PV):ak->R b:=λε=>(a_ (cL ε cap) ε).bind λa _=>(a_ (if(cB a).Nodup then eO ε (.inl x::a)else ag) ε).bind λc _=>gX ε (.inl x::a) (d c)
def bL{a:Type}(r:R a):R a:=match r with
 |.er _ _=>.no
 |r=>r
def gD(cap:List Nat)(dt:ak->R Bool)(de:ak->R PV):List PV->List PV->ak->R (List PV)
 |[],b,ε=>.ok b ε
 |x::xs,b,ε=>(bL (cc cap dt x ε)).bind λk a=>match k with
  |true=>(bL (cc cap de x a)).bind λy c=>gD cap dt de xs (b++[y]) c
  |false=>gD cap dt de xs b a
def cm(cap:List Nat)(c:ak->R (List PV))(dt:ak->R Bool)(de:ak->R PV):ak->R PO:=λε=>(c ε).bind λxs ε1=>(gD cap dt de xs [] ε1).bind λb a=>.ok (.lst b) a
theorem sJ{K:ar}{F:af->Prop}{S:Nat->af->Prop}{f:ak}{d:St}{H:Hp}(r:aG K F S f d H):∀{b:List Nat}{i:List cA},cL f b=aa i->∃c,iQ K d F H i c/\eZ d b=c.map aa
 |[],i,h=>by cases h;exact⟨[],rfl,rfl⟩
 |j::b,i,h=>by
  unfold cL at h;split at h
  .rename_i pv e;cases q:cL f b with
   |none=>rw[q]at h;cases h
   |some bs=>
    rw[q]at h;cases h;obtain⟨c,m,l⟩:=sJ r q;obtain⟨v,g,n⟩:=r.val j pv e;refine⟨v::c,⟨v,c,rfl,n,m⟩,?_⟩;show(d[j]?).join::eZ d b=_;rw[g,l];rfl
  .rename_i o e;cases q:cL f b with
   |none=>rw[q]at h;cases h
   |some bs=>
    rw[q]at h;cases h;obtain⟨c,m,l⟩:=sJ r q;obtain⟨a,g,n⟩:=r.own j o e;refine⟨.ref a::c,⟨_,c,rfl,g,m⟩,?_⟩;show(d[j]?).join::eZ d b=_;rw[g,l];rfl
  .cases h
theorem zx{K:ar}{E:XK}{F:af->Prop}{S:Nat->af->Prop}{q:ak}{e:St}{H:Hp}{G:Type}{b:List Nat}{d:ak->R G}{x:PV}{v:V}{C:G->ak->(af->Prop)->(Nat->af->Prop)->Hp->Prop}(r:aG K F S q e H) (N:aJ K H F x v) (h:Ok K E e F S H (bL (cc b d x q)) C):∃L j,aG K F L j (aa v::eZ e b) H/\Ok K E0 (aa v::eZ e b) F L H (d j) (λa _ p _ o=>∃i u,aG K p u i e o/\Grow (U S) (U u) F p H o/\C a i p u o):=by
 unfold cc at h;cases B:cL q b with
 |none=>rw[B]at h;exact h.elim
 |some f=>
  rw[B]at h;simp only[cQ,R.bind_ok]at h;by_cases y:(cB f).Nodup
  .rw[if_pos y]at h;cases s:eO q (.inl x::f)with
   |none=>rw[s]at h;exact h.elim
   |some j=>
    rw[s]at h;simp only[cQ,R.bind_ok]at h;obtain⟨w,T,Q⟩:=sJ r B;have n:iQ K e F H (.inl x::f) (v::w):=⟨v,w,rfl,N,T⟩
    have m:aa v::eZ e b=(v::w).map aa:=by rw[Q];rfl
    have l:(cB (.inl x::f)).Nodup:=y;refine⟨kn (.inl x::f) S,j,by rw[m];exact r.cal n s l,?_⟩;rw[m];cases A:d j with
    |no=>rw[A]at h;exact h.elim
    |er c D=>
     rw[A]at h;unfold gX at h;dsimp only at h;by_cases g:gH (.inl x::f) D=ah
     .rw[if_pos g]at h;exact h.elim
     .rw[if_neg g]at h;exact h.elim
    |ok a D=>
     rw[A]at h;intro p u o O P;unfold gX at h;dsimp only at h;by_cases g:gH (.inl x::f) D=ah
     .rw[if_pos g]at h;obtain⟨M,I,J,_⟩:=r.called n s l O P (λ_ z=>z) (lO g);exact⟨_,M,I,J,h p M o I J⟩
     .rw[if_neg g]at h;exact h.elim
  .rw[if_neg y]at h;exact h.elim
def oQ(X:Cx)(a:List aA):TT:=λb H Q=>Bx (∀d s,Inv X d b H s->aC (ay X.prog X.w) X.A (forIn a ah λc r=>if r=ah then do let ok <-lh c X.env (bi c X.env);pure (ForInStep.yield ok)else pure (ForInStep.yield r)) (TP X d b Q) X.xe s)
def DF(X:Cx)(E:XK)(c:List aA)(d:ak->R Bool):Prop:=∀F S e a H Q,aG X.K F S e a H->Ok X.K E a F S H (d e) (λb _ _ _ f=>Q b f)->oQ X c a H Q
def cZ:ak->R Bool:=λε=>.ok ah ε
theorem mG{X:Cx}{E:XK}:DF X E [] cZ:=λF S d a H Q b h=>⟨λc s I=>Ag c s a H Q I (h F S H b (Grow.refl ..))⟩
theorem tJ{X:Cx}{E:XK}{c:aA}{d:ak->R Bool}(h:DT X E c d):DF X E [c] d:=λF S b a H Q e q=>⟨λf s I=>KM oP f s a H Q I (h F S b a H Q e q)⟩
theorem Ok.bindB{K:ar}{E:XK}{b:St}{F q:af->Prop}{S m:Nat->af->Prop}{H o:Hp}{i f:Type}{D:f->ak->(af->Prop)->(Nat->af->Prop)->Hp->Prop}{r:R i}{k:i->ak->R f}(h:Ok K E b F S H (r.bind k) D)(g:Grow (U S) (U m) F q H o):Ok K E b q m o r (λa d _ _ _=>Ok K E b F S H (k a d) D):=by
 cases r with
 |no=>exact h
 |er c e=>exact λx s n p j l=>h x s n p j (g.trans l)
 |ok a e=>exact λs n p j l=>h
section
variable{X:Cx}{E:XK}{c:dD}{x:Str}{N':List Str}{cap:List Nat}
theorem Grow.stay{O a F d:af->Prop}{H b:Hp}(g:Grow O a F d H b){l:af}{o:HO}(e:H l=aa o)(n:¬O l)(f:¬F l):b l=aa o/\¬d l/\¬a l :=
 ⟨g.keep l o e n,λz=>(g.fnew l z).elim f λw=>w.elim (λq=>by rw[e]at q;cases q) n,λz=>(g.onew l z).elim n λq=>by rw[e]at q;cases q⟩
theorem aG.lay{K:ar}{F:af->Prop}{S:Nat->af->Prop}{i:ak}{h:St}{H:Hp}{l:af}{o o':HO}(r:aG K F S i h H)(A:H l=aa o)(no:dy o)(y:¬F l)(m:¬U S l):Grow (λb=>U S b\/b=l) (U S) F F H (L2.upd H l o')/\Fit (λb=>U S b\/b=l) F H/\aG K F S i h (L2.upd H l o'):=by
 have f:Grow (λb=>U S b\/b=l) (U S) F F H (L2.upd H l o'):=⟨λ_ z=>z,λb o e n=>by rw[bd λz=>n (.inr z)];exact e,λb o e=>by
  by_cases p:b=l
  .subst p;exact⟨_,upd_same⟩
  .exact⟨o,by rw[bd p];exact e⟩,λ_ z=>.inl z,λ_ z=>.inl (.inl z)⟩
 have g:Fit (λb=>U S b\/b=l) F H:=λb z=>by
  rcases z with z|rfl
  .exact r.fit b z
  .exact⟨y,_,A,no⟩
 refine⟨f,g,r.len,λb z=>let ⟨o,q⟩:=r.ex b z;f.there b o q,λj pv e=>?_,λj v e=>?_,λj b z=>?_,r.dist⟩
 .obtain⟨w,d,a⟩:=r.val j pv e;exact⟨w,d,a.grow f g⟩
 .obtain⟨w,d,a⟩:=r.own j v e;refine⟨w,d,a.mono (λ_ _ q=>q.grow f g) (λ_ _ q=>q.grow f g) λb o z q=>?_⟩;rw[bd (by rintro rfl;exact m ⟨j,z⟩)];exact q
 .obtain⟨d,a,o,u,s⟩:=r.foot j b z;exact⟨d,a,o,by rw[bd (by rintro rfl;exact m ⟨j,z⟩)];exact u,s⟩
theorem Grow.lay{O d F h:af->Prop}{H f:Hp}{l:af}{o':HO}(g:Grow O d F h H f)(a:H l=ag):Grow O d F h H (L2.upd f l o'):=by
 refine⟨g.fro,λb o e n=>?_,λb o e=>?_,g.fnew,g.onew⟩
 .rw[bd (by rintro rfl;rw[a]at e;cases e)];exact g.keep b o e n
 .obtain⟨i,q⟩:=g.there b o e;exact⟨i,by rw[bd (by rintro rfl;rw[a]at e;cases e)];exact q⟩
theorem AA{elt A:aA}{px:Pos}{ifs:List aA}{di:ak->R (List PV)}{dt:ak->R Bool}{de:ak->R PV}(hi:DI X E (.Name x px) A di)(ht:∀C d f r p,DF (bP X c N' C d f r p) E0 ifs dt) (he:∀C d f r p,DE (bP X c N' C d f r p) E0 elt de){F:af->Prop}{S:Nat->af->Prop}{ε:ak}{j:St}{H:Hp}{Q:VK} (rl:aG X.K F S ε j H) (h:Ok X.K E j F S H (cm cap di dt de ε) (λpo _ s L g=>∀a Sa,ez X.K g s po a Sa->(∀b,Sa b->H b=ag/\¬s b/\¬U L b/\∃o,g b=aa o/\dy o)->Q (.ref a) g)):ur (lX X (.Name x px) A) (λj H Q=>∀C d f r p,oQ (bP X c N' C d f r p) ifs j H Q) (λj H Q=>∀C d f r p,gw (bP X c N' C d f r p) elt j H Q) cap j H Q:=by
 refine hi F S ε j H _ rl ((Ok.bind h).imp λxs ε1 N S1 H1 r1 g1 h1 J vs RR rs hz hw keep l hl=>?_);have h1:=h1.bind;have hvl:vs.length=xs.length:=rs.len;have a0:Al N N H1 (upd H1 l (.lst [])):=Al.new0 hl;have nF1:¬N l:=λz=>by obtain⟨o,q⟩:=r1.ex l z;rw[hl]at q;cases q
 have nS1:¬U S1 l:=λ⟨i,z⟩=>by obtain⟨_,_,o,q,_⟩:=r1.foot i l z;rw[hl]at q;cases q
 have hH:H l=ag:=mJ g1 hl;refine⟨λi m D g=>m=xs.length-i/\i<=xs.length/\∃s L Y P,aG X.K s L Y j g/\Grow (U S1) (U L) N s H1 g/\g l=aa (.lst D)/\¬s l/\¬U L l/\aS X.K g s P D/\D.length<=i /\ Ok X.K E j N S1 H1 (gD cap dt de (xs.drop i) P Y) (λys' w T S2 M=>Ok X.K E j T S2 M (R.ok (PO.lst ys') w) (λpo _ s L g=>∀a Sa,ez X.K g s po a Sa->(∀b,Sa b->H b=ag/\¬s b/\¬U L b/\∃o,g b=aa o/\dy o)->Q (.ref a) g)),⟨_,rfl,l8 _,N,S1,ε1,[],r1.al a0,a0.grow,upd_same,nF1,nS1,rfl,bB _,h1⟩,?_⟩;rintro i m D M ⟨rfl,hi,T,S2,w,P,O,K,el,nF2,nS2,n,hyl,q2⟩;have RH:=keep S2 T M K;by_cases c8:i<xs.length
 .obtain⟨v,hv⟩:∃v,vs[i]?=aa v:=⟨_,dY ∅⟩
  obtain⟨go,yl⟩:=(hw M RH i).1 v hv;refine .inr ⟨go,λv' g y=>⟨[aa v'],rfl,rfl,?_⟩⟩;obtain⟨e1,e2⟩:=yl v' g y;subst e1 e2;obtain⟨px',hx,rx⟩:=rs.back hv;have ed:xs.drop i=px'::xs.drop (i+1):=by rw[pK c8];congr 1;exact(bY.mp hx).2
  rw[ed]at q2;have Z:=rx.grow K r1.fit;have q3:=Ok.bindB q2 K;obtain⟨Sb,ss,rb,okb⟩:=zx O Z q3;intro C d f r p;refine ht C d f r p T Sb ss _ g _ rb (okb.imp λb _ F3 _ H3 _ _ ⟨W,S3,r3,I,q4⟩=>?_);obtain⟨el3,nF3,nS3⟩:=I.stay el nS2 nF2;cases b with
  |false=>exact oB ⟨_,∅,rfl,c8,F3,S3,W,P,r3,K.trans I,el3,nF3,nS3,n.grow I O.fit,∅,q4⟩
  |true=>refine oS ?_;have q5:Ok X.K E j N S1 H1 ((bL (cc cap de px' W)).bind λy w=>gD cap dt de (xs.drop (i+1)) (P++[y]) w) _:=q4;obtain⟨Sc,sc,rc,okc⟩:=zx r3 (Z.grow I O.fit) (Ok.bindB q5 (K.trans I));intro C d f r p;refine he C d f r p F3 Sc sc _ H3 _ rc (okc.imp λy _ F4 _ H4 _ _ ⟨ε4,S4,r4,g4,q6⟩ u ru=>?_);obtain⟨el4,nF4,nS4⟩:=g4.stay el3 nS3 nF3;have G:=(n.grow I O.fit).grow g4 r3.fit;obtain⟨gl,B,r5⟩:=r4.lay (o':=.lst (D++[u])) el4 trivial nF4 nS4;have g5:=((K.trans I).trans g4).lay (o':=.lst (D++[u])) hl;refine⟨el4,?_,_,∅,rfl,c8,F4,S4,ε4,P++[y],r5,g5,upd_same,nF4,nS4,(G.grow gl B).app (.one (ru.grow gl B)),by simp;lia,q6⟩;lia
 .have e:i=xs.length:=∅
  subst e;refine .inl ⟨(hw M RH _).2 hvl.symm,?_⟩;rw[yh]at q2;exact q2 T S2 M O K T S2 M O (Grow.refl ..) l (λb=>b=l) ⟨⟨D,el,n⟩,λb=>pJ⟩ λb z=>by subst z;exact⟨hH,nF2,nS2,_,el,trivial⟩
theorem kL{i d:aA}{l pos:Pos}{g:List aA}{n:ak->R (List PV)}{dt:ak->R Bool}{de:ak->R PV}(B:iD X c x N' cap)(v:X.calm=ah)(r:DI X E (.Name x l) d n)(p:∀C a b f e,DF (bP X c N' C a b f e) E0 g dt) (u:∀C a b f e,DE (bP X c N' C a b f e) E0 i de) (q:∀x,kA d X.env x=pure x:=by intro _;rfl):DN X E (.ListComp i [⟨.Name x l,d,g,0⟩] c pos) (cm cap n dt de):=λF S w j H Q o h=>bX (GJ (wi:=lX X (.Name x l) d) (ts:=λj H Q=>∀C a b f e,oQ (bP X c N' C a b f e) g j H Q) (te:=λj H Q=>∀C a b f e,gw (bP X c N' C a b f e) i j H Q) (pos:=pos) B v uw (λC a b f e m s j H Q I h=>(h C a b f e).run m s I) (λC a b f e m s j H Q I h=>(h C a b f e).run m s I) q) (AA r p u o h)
end
theorem EW(x y:Tx):tS x++tS y=tS (x++y):=by
 show(⟨x.toArray++y.toArray⟩:Str)=⟨(x++y).toArray⟩
 simp
def a9:PV->PV->Option PV
 |.int i,.int j=>aa (.int (i+j))
 |.str x,.str y=>if(x++y).length<=bF then aa (.str (x++y))else ag
 |.tup xs,.tup a=>if xs≠[]/\a≠[]/\xs.length+a.length<=1000 then aa (.tup (xs++a))else ag
 |.lst xs,.lst a=>if xs.length+a.length<=bF then aa (.lst (xs++a))else ag
 |_,_=>ag
def o4:PV->PV->Option PV
 |.int i,.int j=>aa (.int (i-j))
 |_,_=>ag
def qZ(i:Int):Bool:=decide (-(2^64)<i/\i<2^64)
def jL:PV->PV->Option PV
 |.int i,.int j=>if qZ i||qZ j then aa (.int (i*j))else ag
 |.str x,.int j=>if 0<=j/\j<=100/\x.length<=100 then aa (.str (dq j.toNat x).flatten)else ag
 |_,_=>ag
def fA:PV->PV->Option PV
 |.int i,.int j=>if 0<j then aa (.int (i % j))else ag
 |_,_=>ag
def qx:PV->PV->Option PV
 |.int i,.int j=>if 0<=j/\j<=1000000/\i.natAbs<2^64 then aa (.int (i^j.toNat))else ag
 |_,_=>ag
def wb:PV->Option PV
 |.int i=>aa (.int (-i))
 |_=>ag
def AU:R2:=λx y H Q=>∃l b xs a,x=.ref l/\y=.ref b/\Rd H l (.lst xs)/\Rd H b (.lst a)/\xs.length+a.length<=bj/\∀p,H p=ag->Q (.ref p) (upd H p (.lst (xs++a)))
def tu(K:ar):R2:=λx y H Q=>((kP λi j=>V.int (i+j)) x y H Q\/∃i j,x=.str i/\y=.str j/\i.length+j.length<=bj/\Q (.str (i++j)) H)\/(zU K x y H Q\/AU x y H Q)
def A6:R2:=λx y H Q=>rI wI (λi j=>.int (i*j)) x y H Q\/∃(z:Tx) (n:Nat),x=tV z/\y=.int n/\n<=100/\z.length<=100/\Q (tV (dq n z).flatten) H
section
variable{X:Cx}{K:ar}
theorem zo:P2 K (kP λi j=>.int (i-j)) o4:=λF H x y v u Q pv b a e q=>by
 unfold o4 at e;split at e
 .cases e;exact⟨_,_,b,a,q _ F H (Al.refl ..) rfl⟩
 .cases e
theorem pq:P2 K (rI (λ_ j=>0<j) λi j=>.int (i % j)) fA:=λF H x y v u Q pv b a e q=>by
 unfold fA at e;split at e
 .split at e
  .cases e;exact⟨_,_,b,a,by assumption,q _ F H (Al.refl ..) rfl⟩
  .cases e
 .cases e
theorem KP:P2 K (rI z_ λi j=>.int (i^j.toNat)) qx:=λF H x y v u Q pv b a e q=>by
 unfold qx at e;split at e
 .split at e
  .cases e;exact⟨_,_,b,a,by assumption,q _ F H (Al.refl ..) rfl⟩
  .cases e
 .cases e
theorem J4:P1 K (rU λi=>.int (-i)) wb:=λF H x v Q pv a e q=>by
 unfold wb at e;split at e
 .cases e;exact⟨_,a,q _ F H (Al.refl ..) rfl⟩
 .cases e
theorem w6{c:List (af×Obj)}{b:St}{H:Hp}{s:ao}{l:af}{xs:List V}(I:Inv X c b H s)(h:Rd H l (.lst xs)):∃(a:List ai) (n:Nat),bv xs a/\s.heap.get? l=aa {cls:=.type "list",data:=.seq a.toArray n}/\xs.length<=bj:=by obtain⟨z,a,n,r,e⟩:=h.ok I.hok;exact⟨a,n,r,e,z⟩
theorem FE:bH X (ij .Add) AU:=by
 intro C s p H x y v u Q I i g h;obtain⟨l,b,xs,w,rfl,rfl,f,j,B,q⟩:=h;cases i;cases g;obtain⟨c,n,r,e,_⟩:=w6 I f;obtain⟨a,z,d,o,_⟩:=w6 I j;have f:=r.length;have A:=d.length;refine PySem.P.add_list e o ?_ (by rw[cq,cq];lia);have m:c.toArray++a.toArray=(c++a).toArray:=by simp
 rw[m];exact⟨.ref _,_,I.lnew (t':=s.toks) (r.append d) (by rw[fO];lia),rfl,q _ I.fresh⟩
theorem eA:bH X (ij .Add) (tu X.K):=(Lw.or Fq).or (Lo.or FE)
theorem eo:P2 K (tu K) a9:=λF H x y v u Q pv l j e q=>by
 unfold a9 at e;split at e
 .cases e;exact .inl (.inl ⟨_,_,l,j,q _ F H (Al.refl ..) rfl⟩)
 .rename_i x y;split at e
  .rename_i c;cases e;refine .inl (.inr ⟨_,_,l.1,j.1,?_,?_⟩)
   .rw[jh,jh];rw[fO]at c;exact cK c jF
   .exact q _ F H (Al.refl ..) ⟨by rw[EW];rfl,c⟩
  .cases e
 .rename_i xs s;split at e
  .rename_i c;cases e;obtain⟨a,n,rfl,r,f⟩:=l;obtain⟨b,m,rfl,o,d⟩:=j;have h:=f.len;have g:=d.len;refine .inr (.inl ⟨a,b,n,m,rfl,rfl,cf.of r,cf.of o,λz=>c.1 (by rw[z]at h;exact uL h.symm),by rw[h,g];exact v7 c.2.2,λz=>absurd (by rw[z]at g;exact uL g.symm) c.2.1,λ_ p i=>?_⟩);exact q _ F _ (Al.new0 i) ⟨p,_,rfl,upd_same,(Al.new0 i).reps (f.app d)⟩
  .cases e
 .rename_i xs s;split at e
  .rename_i c;cases e;obtain⟨a,n,rfl,r,A,f⟩:=l;obtain⟨b,m,rfl,o,w,d⟩:=j;have h:=f.len;have g:=d.len;refine .inr (.inr ⟨a,b,n,m,rfl,rfl,r,o,by rw[h,g];exact cK c jF,λp i=>?_⟩);exact q _ _ _ (Al.new i) ⟨p,_,rfl,.inl upd_same,.inr rfl,(Al.new i).reps (f.app d)⟩
  .cases e
 .cases e
theorem wl:bH X (ij .Mult) A6:=Lk.or HL
theorem vQ:P2 K A6 jL:=λF H x y v u Q pv b a e q=>by
 unfold jL at e;split at e
 .rename_i i j;split at e
  .rename_i h;cases e;refine .inl ⟨_,_,b,a,?_,q _ F H (Al.refl ..) rfl⟩;rw[uO]at h;exact h.imp of_decide_eq_true of_decide_eq_true
  .cases e
 .rename_i x j;split at e
  .rename_i h;cases e;refine .inr ⟨x,j.toNat,b.1,?_,∅,h.2.2,q _ F H (Al.refl ..) ⟨rfl,?_⟩⟩
   .rw[show u=V.int j from a];congr 1;lia
   .rw[GX];have c:j.toNat<=100:=∅
    exact cK (ye c h.2.2) (by decide)
  .cases e
 .cases e
def fz(f:Int->Int->Bool):PV->PV->Option PV
 |.int i,.int j=>aa (.bl (f i j))
 |_,_=>ag
theorem k8{f:Int->Int->Bool}:P2 K (kP λi j=>.bl (f i j)) (fz f):=λF H x y v u Q pv b a e q=>by
 unfold fz at e;split at e
 .cases e;exact⟨_,_,b,a,q _ F H (Al.refl ..) rfl⟩
 .cases e
def cF:PV->Option V
 |.non=>aa .non
 |.bl b=>aa (.bl b)
 |.int i=>aa (.int i)
 |.str x=>aa (tV x)
 |_=>ag
theorem iR{H:Hp}{F:af->Prop}{x:PV}{v w:V}(r:aJ K H F x v)(e:cF x=aa w):v=w:=by
 cases x <;> simp[cF]at e <;> subst e
 .exact r
 .exact r
 .exact r
 .exact r.1
theorem qa{x:PV}{w:V}(e:cF x=aa w):fF w=ah:=by
 cases x <;> simp[cF]at e <;> subst e <;> rfl
mutual
def b8:PV->PV->Option Bool
 |.tup xs,y=>match y with
  |.tup a=>eB xs a
  |_=>ag
 |.lst xs,y=>match y with
  |.lst a=>eB xs a
  |_=>ag
 |.non,y=>(cF y).map (dS .non)
 |.bl b,y=>(cF y).map (dS (.bl b))
 |.int i,y=>(cF y).map (dS (.int i))
 |.str x,y=>(cF y).map (dS (tV x))
 |.raw _,_=>ag
 |.exc _,_=>ag
def eB:List PV->List PV->Option Bool
 |[],c=>aa c.isEmpty
 |x::xs,c=>match c with
  |[]=>aa aj
  |y::c=>(b8 x y).bind λa=>(eB xs c).map λb=>a&&b
end
mutual
def gb:PV->Nat
 |.tup xs=>dO xs+1
 |.lst xs=>dO xs+1
 |_=>0
def dO:List PV->Nat
 |[]=>0
 |x::xs=>max (gb x) (dO xs)
end
theorem xG{H:Hp}{d a:Nat}{x y:V}{k:Bool}(h:f8 K H d x y k)(j:d<=a):f8 K H a x y k:=λX f g b s u v A I e c i=>h X f g b s u v A I e c ∅
theorem tN{H:Hp}{F:af->Prop}{w:V}{y:PV}{u:V}{k:Bool}{d:Nat}(b:fF w=ah)(e:(cF y).map (dS w)=aa k)(a:aJ K H F y u):f8 K H d w u k:=by
 cases q:cF y with
 |none=>rw[q]at e;cases e
 |some z=>
  rw[q]at e;cases e;rw[iR a q];exact Ez b (qa q)
theorem Ec{H:Hp}{a:af}{xs b:List V}(h:Rd H a (.lst xs))(g:Rd H a (.lst b)):xs=b:=by
 rcases h with h|⟨o,h⟩ <;> rcases g with g|⟨c,g⟩ <;> rw[h]at g <;> cases g <;> rfl
theorem KA{a:Bool}{e:Nat->Bool}{n m:Nat}:eY (λj=>if j=0 then a else e (j-1)) (n+1) (m+1)=(a&&eY e n m):=by
 unfold eY;rw[show min (n+1) (m+1)=min n m+1 by lia,CI,lm,rG,if_pos rfl,Bool.and_assoc];congr 1;congr 1
 .simp
mutual
theorem vY{H:Hp}{F:af->Prop}:∀(x y:PV) {v:V}{k:Bool},b8 x y=aa k->aJ K H F x v->aJ K H F y v->k=ah
 |.tup xs,y,v,k,e,d,c=>by
  unfold b8 at e;split at e
  .obtain⟨a,m,rfl,i,f⟩:=d;obtain⟨b,l,j,g,h⟩:=c;cases j;rw[i]at g;cases g;exact wQ xs _ e f h
  .cases e
 |.lst xs,y,v,k,e,d,c=>by
  unfold b8 at e;split at e
  .obtain⟨a,m,rfl,i,_,f⟩:=d;obtain⟨b,l,j,g,_,h⟩:=c;cases j;rw[Ec i g]at f;exact wQ xs _ e f h
  .cases e
 |.non,y,v,k,e,d,c=>by
  unfold b8 at e;cases q:cF y with
  |none=>rw[q]at e;cases e
  |some z=>rw[q]at e;cases e;rw[<-iR c q,show v=V.non from d];rfl
 |.bl b,y,v,k,e,d,c=>by
  unfold b8 at e;cases q:cF y with
  |none=>rw[q]at e;cases e
  |some z=>rw[q]at e;cases e;rw[<-iR c q,show v=V.bl b from d];exact beq_self_eq_true b
 |.int b,y,v,k,e,d,c=>by
  unfold b8 at e;cases q:cF y with
  |none=>rw[q]at e;cases e
  |some z=>rw[q]at e;cases e;rw[<-iR c q,show v=V.int b from d];exact beq_self_eq_true b
 |.str b,y,v,k,e,d,c=>by
  unfold b8 at e;cases q:cF y with
  |none=>rw[q]at e;cases e
  |some z=>rw[q]at e;cases e;rw[<-iR c q,show v=tV b from d.1];exact beq_self_eq_true (tS b)
 |.raw _,_,_,_,e,_,_=>by unfold b8 at e;cases e
 |.exc _,_,_,_,e,_,_=>by unfold b8 at e;cases e
theorem wQ{H:Hp}{F:af->Prop}:∀(xs c:List PV) {d:List V}{k:Bool},eB xs c=aa k->aS K H F xs d->aS K H F c d->k=ah
 |[],c,d,k,e,h,f=>by
  unfold eB at e;rw[show d=[] from h]at f;have:=f.len;cases c with
  |nil=>cases e;rfl
  |cons=>simp at this
 |x::xs,c,d,k,e,h,f=>by
  unfold eB at e;obtain⟨v,r,rfl,l,j⟩:=h;cases c with
  |nil=>have:=f.len;simp at this
  |cons y c=>
   obtain⟨p,q,o,n,m⟩:=f;cases o;simp only at e;cases g:b8 x y with
   |none=>rw[g]at e;cases e
   |some a=>
    cases i:eB xs c with
    |none=>rw[g,i]at e;cases e
    |some b=>
     rw[g,i]at e;cases e;rw[vY x y g l n,wQ xs c i j m];rfl
end
mutual
theorem Cn{H:Hp}{F:af->Prop}:∀(x y:PV) {v u:V}{k:Bool},b8 x y=aa k->aJ K H F x v->aJ K H F y u->f8 K H (gb x) v u k
 |.tup xs,y,v,u,k,e,d,c=>by
  have o:=e;unfold b8 at e;split at e
  .rename_i h;obtain⟨a,q,rfl,n,j⟩:=id d;obtain⟨b,p,rfl,m,i⟩:=id c;by_cases g:a=b
   .subst g;rw[vY _ _ o d c];exact zv
   .obtain⟨f,l,rfl⟩:=qM xs h e j i;unfold gb;exact E9 (cf.of n) (cf.of m) g l
  .cases e
 |.lst xs,y,v,u,k,e,d,c=>by
  have o:=e;unfold b8 at e;split at e
  .rename_i h;obtain⟨a,q,rfl,n,_,j⟩:=id d;obtain⟨b,p,rfl,m,_,i⟩:=id c;by_cases g:a=b
   .subst g;rw[vY _ _ o d c];exact zv
   .obtain⟨f,l,rfl⟩:=qM xs h e j i;unfold gb;exact Dp (.inl n) (.inl m) g l
  .cases e
 |.non,y,v,u,k,e,d,c=>by unfold b8 at e;rw[show v=V.non from d];exact tN rfl e c
 |.bl b,y,v,u,k,e,d,c=>by unfold b8 at e;rw[show v=V.bl b from d];exact tN rfl e c
 |.int b,y,v,u,k,e,d,c=>by unfold b8 at e;rw[show v=V.int b from d];exact tN rfl e c
 |.str b,y,v,u,k,e,d,c=>by unfold b8 at e;rw[show v=tV b from d.1];exact tN rfl e c
 |.raw _,_,_,_,_,e,_,_=>by unfold b8 at e;cases e
 |.exc _,_,_,_,_,e,_,_=>by unfold b8 at e;cases e
theorem qM{H:Hp}{F:af->Prop}:∀(xs c:List PV) {d g:List V}{k:Bool},eB xs c=aa k->aS K H F xs d->aS K H F c g -> ∃f:Nat->Bool,(∀(j:Nat) x y,d[j]?=aa x->g[j]?=aa y->f8 K H (dO xs) x y (f j))/\k=eY f d.length g.length
 |[],c,d,g,k,e,m,i=>by
  unfold eB at e;rw[show d=[] from m];refine⟨λ_=>ah,λj x y h=>by simp at h,?_⟩;have:=i.len;cases e;unfold eY;cases c with
  |nil=>simp at this;simp[this]
  |cons=>rw[this];simp
 |x::xs,c,d,g,k,e,m,i=>by
  unfold eB at e;obtain⟨v,r,rfl,A,z⟩:=m;cases c with
  |nil=>
   cases e;rw[show g=[] from i];exact⟨λ_=>ah,λj x y _ h=>by simp at h,by simp[eY]⟩
  |cons y c=>
   obtain⟨u,D,rfl,C,B⟩:=i;simp only at e;cases l:b8 x y with
   |none=>rw[l]at e;cases e
   |some a=>
    cases n:eB xs c with
    |none=>rw[l,n]at e;cases e
    |some b=>
     rw[l,n]at e;cases e;obtain⟨f,w,rfl⟩:=qM xs c n z B;refine⟨λj=>if j=0 then a else f (j-1),λj p q s o=>?_,by rw[eP,eP,KA]⟩;cases j with
     |zero=>simp at s o;subst s o;show f8 K H _ _ _ (if(0:Nat)=0 then a else f (0-1));rw[if_pos rfl];exact xG (Cn x y l A C) (by unfold dO;exact Nat.le_max_left _ _)
     |succ j=>show f8 K H _ _ _ (if j+1=0 then a else f (j+1-1));rw[if_neg ∅];exact xG (w j p q (by simpa using s) (by simpa using o)) (show dO xs<=max (gb x) (dO xs)from Nat.le_max_right _ _)
end
def eqT(neg:Bool)(x y:PV):Option PV:=match cF x,cF y with
 |some v,aa u=>if mU v u then aa (.bl (neg^^decide (v=u)))else ag
 |none,ag=>if gb x<=8 then(b8 x y).map λk=>.bl (neg^^k)else ag
 |_,_=>ag
def BH(K:ar):R2:=λx y H Q=>AX x y H Q\/qo K aj x y H Q
def zt(K:ar):R2:=λx y H Q=>Ah x y H Q\/qo K ah x y H Q
theorem k_(a:X.A.units+64<cLine):bH X (dP .Eq) (BH X.K):=Lq.or (DQ a)
theorem ke(a:X.A.units+64<cLine):bH X (dP .NotEq) (zt X.K):=LG.or (Io a)
theorem BI{H:Hp}{F:af->Prop}{x y:PV}{v u:V}{k:Bool}{Q:VK}{neg:Bool}(g:cF x=ag)(e:b8 x y=aa k)(A:gb x<=8)(w:aJ K H F x v)(s:aJ K H F y u)(q:Q (.bl (neg^^k)) H):qo K neg v u H Q:=by
 have c:∀{d:Bool},k=d->Q (.bl (if neg=ah then !d else d)) H:=λ{d} z=>by subst z;cases neg <;> simpa using q
 cases x with
 |tup xs=>
  unfold b8 at e;split at e
  .rename_i h;obtain⟨a,j,rfl,p,m⟩:=w;obtain⟨b,i,rfl,o,l⟩:=s;obtain⟨f,n,r⟩:=qM xs h e m l;unfold gb at A;exact⟨a,b,j,i,dO xs,f,rfl,rfl,.inr ⟨cf.of p,cf.of o⟩,∅,n,c r⟩
  .cases e
 |lst xs=>
  unfold b8 at e;split at e
  .rename_i h;obtain⟨a,j,rfl,p,_,m⟩:=w;obtain⟨b,i,rfl,o,_,l⟩:=s;obtain⟨f,n,r⟩:=qM xs h e m l;unfold gb at A;exact⟨a,b,j,i,dO xs,f,rfl,rfl,.inl ⟨.inl p,.inl o⟩,∅,n,c r⟩
  .cases e
 |raw _=>unfold b8 at e;cases e
 |exc _=>unfold b8 at e;cases e
 |non=>cases g
 |bl _=>cases g
 |int _=>cases g
 |str _=>cases g
theorem kX:P2 K (BH K) (eqT aj):=λF H x y v u Q pv g f e q=>by
 unfold eqT at e;split at e
 .rename_i a b d h;split at e
  .rename_i i;cases e;rw[iR g d,iR f h];refine .inl ⟨i,?_⟩;have:=q (.bl (decide (a=b))) F H (Al.refl ..) (by simp[aJ]);exact this
  .cases e
 .rename_i d h;split at e
  .rename_i j;cases c:b8 x y with
   |none=>rw[c]at e;cases e
   |some k=>
    rw[c]at e;cases e;exact .inr (BI (neg:=aj) d c j g f (q _ F H (Al.refl ..) rfl))
  .cases e
 .cases e
theorem kq:P2 K (zt K) (eqT ah):=λF H x y v u Q pv g f e q=>by
 unfold eqT at e;split at e
 .rename_i a b d h;split at e
  .rename_i i;cases e;rw[iR g d,iR f h];refine .inl ⟨i,?_⟩;have:=q (.bl (!decide (a=b))) F H (Al.refl ..) (by simp[aJ]);exact this
  .cases e
 .rename_i d h;split at e
  .rename_i j;cases c:b8 x y with
   |none=>rw[c]at e;cases e
   |some k=>
    rw[c]at e;cases e;exact .inr (BI (neg:=ah) d c j g f (q _ F H (Al.refl ..) rfl))
  .cases e
 .cases e
end
end Pu
namespace Pu
open L2
section
variable{X:Cx}{K:ar}
def p_(i j:Tx):Bool:=!(uD (tS j) (tS i) 0 (tS j).length 1).isEmpty
def gE:List PV->Option (List V)
 |[]=>aa []
 |x::xs=>(cF x).bind λv=>(gE xs).map λr=>v::r
theorem sN{H:Hp}{F:af->Prop}:∀{xs:List PV}{c a:List V},aS K H F xs c->gE xs=aa a->c=a/\a.all fF=ah
 |[],_,_,r,e=>by cases e;exact⟨r,rfl⟩
 |x::xs,_,a,⟨v,r,rfl,f,d⟩,e=>by
  unfold gE at e;cases q:cF x with
  |none=>rw[q]at e;cases e
  |some w=>
   cases b:gE xs with
   |none=>rw[q,b]at e;cases e
   |some i=>
    rw[q,b]at e;cases e;obtain⟨h,g⟩:=sN d b;exact⟨by rw[iR f q,h],by rw[lm,qa q,g];rfl⟩
def gZ(neg:Bool):PV->PV->Option PV
 |.str x,.str y=>aa (.bl (neg^^p_ x y))
 |x,.lst a=>(cF x).bind λv=>(gE a).map λb=>.bl (neg^^ji v b)
 |x,.tup a=>(cF x).bind λv=>(gE a).map λb=>.bl (neg^^ji v b)
 |_,_=>ag
def BZ(K:ar):R2:=λx y H Q=>(∃i j,x=.str i/\y=.str j/\Q (.bl (!(uD j i 0 j.length 1).isEmpty)) H)\/qB K aj x y H Q
def Cb(K:ar):R2:=λx y H Q=>(∃i j,x=.str i/\y=.str j/\Q (.bl (!(!(uD j i 0 j.length 1).isEmpty))) H)\/qB K ah x y H Q
theorem Js:bH X (dP .In) (BZ X.K):=Ln.or JA
theorem Gj:bH X (dP .NotIn) (Cb X.K):=Lz.or DP
theorem s_{H:Hp}{F:af->Prop}{x:PV}{c:List PV}{v:V}{p:af}{b:List V}{Q:VK}{neg:Bool}{pv:PV}(g:aJ K H F x v)(i:b7 K H p b\/cf K H p b)(h:aS K H F c b)(e:((cF x).bind λv=>(gE c).map λf=>PV.bl (neg^^ji v f))=aa pv) (q:∀w,aJ K H F pv w->Q w H):qB K neg v (.ref p) H Q:=by
 cases a:cF x with
 |none=>rw[a]at e;cases e
 |some w=>
  cases d:gE c with
  |none=>rw[a,d]at e;cases e
  |some f=>
   rw[a,d]at e;cases e;obtain⟨rfl,j⟩:=sN h d;rw[iR g a];refine⟨p,b,rfl,i,qa a,j,?_⟩;have:=q _ rfl;cases neg <;> simpa using this
theorem Dv:P2 K (BZ K) (gZ aj):=λF H x y v u Q pv d c e q=>by
 unfold gZ at e;split at e
 .cases e;exact .inl ⟨_,_,d.1,c.1,by have:=q _ F H (Al.refl ..) rfl;simpa[p_]using this⟩
 .obtain⟨a,h,rfl,g,_,f⟩:=c;exact .inr (s_ (neg:=aj) d (.inl (.inl g)) f e λw b=>q w F H (Al.refl ..) b)
 .obtain⟨a,h,rfl,g,f⟩:=c;exact .inr (s_ (neg:=aj) d (.inr (cf.of g)) f e λw b=>q w F H (Al.refl ..) b)
 .cases e
theorem Kb:P2 K (Cb K) (gZ ah):=λF H x y v u Q pv d c e q=>by
 unfold gZ at e;split at e
 .cases e;exact .inl ⟨_,_,d.1,c.1,by have:=q _ F H (Al.refl ..) rfl;simpa[p_]using this⟩
 .obtain⟨a,h,rfl,g,_,f⟩:=c;exact .inr (s_ (neg:=ah) d (.inl (.inl g)) f e λw b=>q w F H (Al.refl ..) b)
 .obtain⟨a,h,rfl,g,f⟩:=c;exact .inr (s_ (neg:=ah) d (.inr (cf.of g)) f e λw b=>q w F H (Al.refl ..) b)
 .cases e
def bp:List PV->Option PV
 |[.str x]=>aa (.int x.length)
 |[.lst xs]=>aa (.int xs.length)
 |[.tup xs]=>aa (.int xs.length)
 |_=>ag
theorem gx{H:Hp}{F:af->Prop}{x:PV}{a:List V}(r:aS K H F [x] a):∃v,a=[v]/\aJ K H F x v:=by obtain⟨v,b,rfl,d,c⟩:=r;rw[show b=[] from c];exact⟨v,rfl,d⟩
theorem h_:PL K (λxs H Q=>∃x n,xs=[x]/\zP K x H n/\Q (.int n) H) bp:=λF H xs h Q pv c e q=>by
 unfold bp at e;split at e
 .cases e;obtain⟨v,rfl,g⟩:=gx c;rw[g.1];exact⟨_,_,rfl,⟨by rw[jh];exact cK g.2 jF,rfl⟩,by rw[jh];exact q _ F H (Al.refl ..) rfl⟩
 .cases e;obtain⟨v,rfl,a,b,rfl,f,_,d⟩:=gx c;exact⟨_,_,rfl,.inl ⟨b,.inl f,rfl⟩,by rw[d.len];exact q _ F H (Al.refl ..) rfl⟩
 .cases e;obtain⟨v,rfl,a,b,rfl,f,d⟩:=gx c;exact⟨_,_,rfl,.inr ⟨b,cf.of f,rfl⟩,by rw[d.len];exact q _ F H (Al.refl ..) rfl⟩
 .cases e
def ko:List PV->Option PO
 |[.lst xs]=>aa (.lst xs)
 |[.tup xs]=>aa (.lst xs)
 |_=>ag
theorem wy:kT K (λxs H Q=>∃p c,xs=[.ref p]/\(b7 K H p c\/cf K H p c)/\∀l,H l=ag->Q (.ref l) (upd H l (.lst c))) ko:=λF H xs j Q m i h e q=>by
 unfold ko at e;split at e
 .cases e;obtain⟨v,rfl,a,d,rfl,g,_,f⟩:=gx h;exact⟨a,d,rfl,.inl (.inl g),λl b=>q l F _ _ (Al.new0 b) (qu b f) (qF b i trivial)⟩
 .cases e;obtain⟨v,rfl,a,d,rfl,g,f⟩:=gx h;exact⟨a,d,rfl,.inr (cf.of g),λl b=>q l F _ _ (Al.new0 b) (qu b f) (qF b i trivial)⟩
 .cases e
def f_:List PV->Option PV
 |[.lst xs]=>aa (.tup xs)
 |[.tup xs]=>aa (.tup xs)
 |_=>ag
theorem o6:PL K (λxs H Q=>∃p d,xs=[.ref p]/\((b7 K H p d/\∀l,H l=ag->Q (.ref l) (upd H l (.tup d)))\/(cf K H p d/\Q (.ref p) H))) f_:=λF H xs i Q pv g e q=>by
 unfold f_ at e;split at e
 .cases e;obtain⟨v,rfl,a,b,rfl,c,_,f⟩:=gx g;exact⟨a,b,rfl,.inl ⟨.inl c,λl h=>q _ F _ (Al.new0 h) ⟨l,b,rfl,upd_same,(Al.new0 h).reps f⟩⟩⟩
 .cases e;obtain⟨v,rfl,a,b,rfl,c,f⟩:=gx g;exact⟨a,b,rfl,.inr ⟨cf.of c,q _ F H (Al.refl ..) ⟨a,b,rfl,c,f⟩⟩⟩
 .cases e
def fH:List PV->Option (List Tx)
 |[]=>aa []
 |.str x::xs=>(fH xs).map (x::·)
 |_=>ag
def am(ls:List Tx):List PV:=ls.map .str
theorem mD(a:List Tx):fH (am a)=aa a:=by
 induction a with
 |nil=>rfl
 |cons x a b=>show(fH (am a)).map (x::·)=_;rw[b];rfl
theorem vh:∀{xs:List PV}{a:List Tx},fH xs=aa a->xs=am a
 |[],a,e=>by cases e;rfl
 |.str x::xs,a,e=>by
  unfold fH at e;cases q:fH xs with
  |none=>rw[q]at e;cases e
  |some r=>rw[q]at e;cases e;rw[vh q];rfl
 |.non::_,_,e=>by cases e
 |.bl _::_,_,e=>by cases e
 |.int _::_,_,e=>by cases e
 |.tup _::_,_,e=>by cases e
 |.lst _::_,_,e=>by cases e
 |.raw _::_,_,e=>by cases e
 |.exc _::_,_,e=>by cases e
theorem Ll{H:Hp}{F:af->Prop}:∀{a:List Tx}{b:List V},aS K H F (am a) b↔b=cD a/\∀x∈a,x.length<=bF
 |[],b=>by simp[am,aS,cD]
 |x::a,b=>by
  show(∃v r,b=v::r/\(v=tV x/\x.length<=bF)/\aS K H F (am a) r)↔_;constructor
  .rintro⟨v,r,rfl,⟨rfl,e⟩,h2⟩;obtain⟨rfl,d⟩:=Ll.mp h2;exact⟨rfl,λy c=>by
    rcases dm.mp c with rfl|c
    .exact e
    .exact d y c⟩
  .rintro⟨rfl,h⟩;exact⟨tV x,cD a,rfl,⟨rfl,h x (by simp)⟩,Ll.mpr ⟨rfl,λy c=>h y (by simp[c])⟩⟩
def kM:List PV->Option (List Bool)
 |[]=>aa []
 |.bl b::xs=>(kM xs).map (b::·)
 |_=>ag
theorem AD{H:Hp}{F:af->Prop}:∀{xs:List PV}{a:List V}{bs:List Bool},aS K H F xs a->kM xs=aa bs->a=bs.map V.bl
 |[],_,_,r,e=>by cases e;exact r
 |.bl b::xs,_,bs,⟨v,r,rfl,d,c⟩,e=>by
  unfold kM at e;cases q:kM xs with
  |none=>rw[q]at e;cases e
  |some f=>rw[q]at e;cases e;rw[AD c q,show v=V.bl b from d];rfl
 |.non::_,_,_,_,e=>by cases e
 |.str _::_,_,_,_,e=>by cases e
 |.int _::_,_,_,_,e=>by cases e
 |.tup _::_,_,_,_,e=>by cases e
 |.lst _::_,_,_,_,e=>by cases e
 |.raw _::_,_,_,_,e=>by cases e
 |.exc _::_,_,_,_,e=>by cases e
def oV:List PV->Option PV
 |[.lst xs]=>(kM xs).map λbs=>.bl (bs.all id)
 |_=>ag
theorem Cp:PL K (λxs H Q=>∃(p:af) (bs:List Bool),xs=[.ref p]/\b7 K H p (bs.map V.bl)/\Q (.bl (bs.all id)) H) oV:=λF H xs h Q pv f e q=>by
 unfold oV at e;split at e
 .rename_i d;cases b:kM d with
  |none=>rw[b]at e;cases e
  |some bs=>
   rw[b]at e;cases e;obtain⟨v,rfl,a,i,rfl,c,_,g⟩:=gx f;rw[AD g b]at c;exact⟨a,bs,rfl,.inl c,q _ F H (Al.refl ..) rfl⟩
 .cases e
def pc:PV->Option String
 |.non=>aa "NoneType"
 |.bl _=>aa "bool"
 |.int _=>aa "int"
 |.str _=>aa "str"
 |.tup _=>aa "tuple"
 |.lst _=>aa "list"
 |_=>ag
def d8:List PV->Option PV
 |[x,.raw (.ty T)]=>(pc x).bind λt=>(dQ [] (.type t) (.type T)).map λb=>.bl b
 |_=>ag
theorem om:eI X (.builtin "isinstance") (λxs H Q=>∃x t T b,xs=[x,.ty T]/\ie X.K H x (.type t)/\dQ X.K (.type t) (.type T)=aa b/\Q (.bl b) H):=by
 intro l s g H xs i Q I r h;obtain⟨x,t,T,b,rfl,ty,e,q⟩:=h;cases r with
 |cons f d=>
  cases d with
  |cons c a=>
   cases a;cases c;exact F8 I f ty e λj=>⟨.bl b,H,I.tok _,rfl,q⟩
theorem Gz{H:Hp}{F:af->Prop}{x:PV}{v:V}{t:String}(r:aJ K H F x v)(e:pc x=aa t):ie K H v (.type t):=by
 cases x with
 |non=>cases e;rw[show v=V.non from r];exact .non
 |bl b=>cases e;rw[show v=V.bl b from r];exact .bl b
 |int b=>cases e;rw[show v=V.int b from r];exact .int b
 |str b=>cases e;rw[show v=tV b from r.1];exact .str _
 |tup xs=>cases e;obtain⟨a,d,rfl,c,_⟩:=r;exact .tup c
 |lst xs=>
  cases e;obtain⟨a,d,rfl,c,_⟩:=r;rcases c with c|⟨o,c⟩
  .exact .lst c
  .exact .frz c
 |raw _=>cases e
 |exc _=>cases e
theorem oM:PL K (λxs H Q=>∃x t T b,xs=[x,.ty T]/\ie K H x (.type t)/\dQ K (.type t) (.type T)=aa b/\Q (.bl b) H) d8:=λF H xs i Q pv d e q=>by
 unfold d8 at e;split at e
 .rename_i x T;cases a:pc x with
  |none=>rw[a]at e;cases e
  |some t=>
   cases c:dQ [] (.type t) (.type T)with
   |none=>rw[a,fm,c]at e;cases e
   |some b=>
    rw[a,fm,c]at e;cases e;obtain⟨v,j,rfl,h,g⟩:=d;obtain⟨u,rfl,f⟩:=gx g;rw[show u=V.ty T from f];exact⟨v,t,T,b,rfl,Gz h a,c,q _ F H (Al.refl ..) rfl⟩
 .cases e
theorem ox{E:XK}{x:Str}{T:String}{f:Pos}(c:X.mg x=ag)(a:eD x=aa (.type T))(d:Gl X x:=by rfl)(b:x≠"__name__":=by decide)(e:(x==("__debug__":Str))=aj:=by decide):DE X E (.Name x f) (dC (.raw (.ty T))):=λF S h g H Q r q=>bX (Gu (v:=.ty T) d c a rfl b e) (q F S H r (Grow.refl ..) _ rfl)
def aO:PV->PV->Option PV
 |.lst xs,.int i=>eK xs i
 |.tup xs,.int i=>eK xs i
 |.str x,.int i=>(eK x i).map λc=>.str [c]
 |_,_=>ag
theorem zB{H:Hp}{F:af->Prop}{xs:List PV}{a:List V}{i:Int}{x:PV}(r:aS K H F xs a)(e:eK xs i=aa x):∃v,eK a i=aa v/\aJ K H F x v:=by
 unfold eK at e ⊢;rw[r.len];cases q:fE xs.length i with
 |none=>rw[q]at e;cases e
 |some j=>rw[q]at e;exact r.get e
theorem c0:P2 K (BC K) aO:=λF H x y v u Q pv b f e q=>by
 unfold aO at e;split at e
 .rename_i xs i;obtain⟨a,d,rfl,j,_,g⟩:=b;obtain⟨w,m,l⟩:=zB g e;exact .inl ⟨a,d,i,w,rfl,f,.inl j,m,q _ F H (Al.refl ..) l⟩
 .rename_i xs i;obtain⟨a,d,rfl,j,g⟩:=b;obtain⟨w,m,l⟩:=zB g e;exact .inr (.inl ⟨a,d,i,w,rfl,f,cf.of j,m,q _ F H (Al.refl ..) l⟩)
 .rename_i x i;cases h:eK x i with
  |none=>rw[h]at e;cases e
  |some c=>
   rw[h]at e;cases e;rw[b.1];exact .inr (.inr ⟨_,i,c,rfl,f,by rw[jh];exact cK b.2 jF,by rw[jK];exact h,q _ F H (Al.refl ..) ⟨rfl,by show 1<=bF;decide⟩⟩)
 .cases e
def d7{a:Type}(xs:List a)(b c:Option Int):List a:=(xs.drop (HT.sIx xs.length 0 b)).take (HT.sIx xs.length xs.length c-HT.sIx xs.length 0 b)
theorem Hq{a:Type}(xs:List a)(b c:Option Int):(d7 xs b c).length<=xs.length:=by unfold d7;rw[l4,pA];lia
def jg:PV->Option Int->Option Int->Option PV
 |.str x,a,b=>aa (.str (d7 x a b))
 |.lst xs,a,b=>aa (.lst (d7 xs a b))
 |.tup xs,a,b=>if HT.sIx xs.length 0 a=0/\HT.sIx xs.length xs.length b=xs.length then ag else aa (.tup (d7 xs a b))
 |_,_,_=>ag
def tz(K:ar):V->Option Int->Option Int->Hp->VK->Prop:=λx a b H Q=>AG x a b H Q\/(Am K x a b H Q\/Bh K x a b H Q)
theorem uo:jE X (tz X.K):=Li.or (Lm.or FW)
theorem zM{H:Hp}{F:af->Prop}{xs:List PV}{a:List V}(r:aS K H F xs a)(b c:Option Int):aS K H F (d7 xs b c) (lI a b c):=by unfold d7 lI;rw[r.len];exact(r.drop _).take _
theorem qY:wt K (tz K) jg:=λF H x h i v Q pv b e q=>by
 unfold jg at e;split at e
 .cases e;rw[b.1];refine .inl ⟨_,rfl,by rw[jh];exact cK b.2 jF,?_⟩;refine q _ F H (Al.refl ..) ⟨?_,cK (Hq ..) b.2⟩;unfold ki d7;rw[jh,jK];rfl
 .cases e;obtain⟨a,f,rfl,g,_,d⟩:=b;exact .inr (.inl ⟨a,f,rfl,.inl g,λp c=>q _ _ _ (Al.new c) ⟨p,_,rfl,.inl upd_same,.inr rfl,(Al.new c).reps (zM d h i)⟩⟩)
 .split at e
  .cases e
  .rename_i j;cases e;obtain⟨a,f,rfl,g,d⟩:=b;exact .inr (.inr ⟨a,f,rfl,cf.of g,by rw[d.len];exact j,λp c=>q _ _ _ (Al.new0 c) ⟨p,_,rfl,upd_same,(Al.new0 c).reps (zM d h i)⟩⟩)
 .cases e
variable{E:XK}{g l a b:aA}{d:ak->R PV}{m:ak->R (List PV)}{p f:Pos}
def gc:PV->Option (List PV)
 |.lst xs=>aa xs
 |.tup xs=>aa xs
 |.str x=>aa (x.map λc=>.str [c])
 |_=>ag
def bC(d:ak->R PV):ak->R (List PV):=λε=>(d ε).bind λx ε1=>a_ (gc x) ε1
theorem vR{H:Hp}{F:af->Prop}:∀(x:Tx),aS K H F (x.map λc=>PV.str [c]) (x.map sg)
 |[]=>rfl
 |c::x=>⟨sg c,x.map sg,rfl,⟨rfl,by show 1<=bF;decide⟩,vR x⟩
theorem iu(he:DE X E l d):DI X E g l (bC d):=λF S ε Z H Rr rl h=>Bx.mk λae s I=>by
 have w:=he F S ε Z H (λv r=>∃B D u x,aG X.K B D u Z r/\aJ X.K r B x v/\Ok X.K E Z B D r (a_ (gc x) u) (λpvs _ F' S' H'=>∀J L RR,aS X.K H' F' pvs L->L.length<=bj->Walk J L RR->(∀S'' F'' Y,Grow (U S') (U S'') F' F'' H' Y->RR Y)->Rr J H')) rl
  ((Ok.bind h).imp λx u B D r G g1 q v N=>⟨B,D,u,x,G,N,q⟩)
 refine a6 (w.run ae s I) λv c ⟨x,r,y,rx,B,D,u,pv,G,N,q⟩=>?_;cases pv with
 |lst xs=>
  obtain⟨a,M,rfl,C,hF,ra⟩:=N;cases rx;obtain⟨O,rr,pp,P⟩:=y.list (.inl C);refine wpAny_pyIter_list pp.isList ?_;refine⟨c.heap.objs.size,[c.heap.objs.size],_,_,r,rfl,y.kept (t':=c.toks) λb o e=>dE _ e,Ha a _,⟨_,fL _ rfl,rfl,rfl⟩,λb T=>?_,q B D r G (Grow.refl ..) (vB X.K a) M (λH=>b7 X.K H a M) ra P Hn λS2 F2 H2 g2=>.inl (g2.lst G.fit hF C)⟩;have e:b=c.heap.objs.size:=by simpa using T
  subst e;exact y.fpOk (bB _) (y.hok.fresh (bB _))
 |tup xs=>
  obtain⟨a,M,rfl,C,ra⟩:=N;cases rx;obtain⟨O,rr,pp,P⟩:=y.tuple (cf.of C);refine wpAny_pyIter_tuple (show c.heap.IsTuple a O.toArray from pp) ?_;refine⟨c.heap.objs.size,[c.heap.objs.size],_,_,r,rfl,y.kept (t':=c.toks) λb o e=>dE _ e,Jx a _,⟨_,fL _ rfl,rfl,rfl⟩,λb T=>?_,q B D r G (Grow.refl ..) (wN X.K a) M (λH=>cf X.K H a M) ra P DZ λS2 F2 H2 g2=>cf.of (g2.imm G.fit C id)⟩;have e:b=c.heap.objs.size:=by simpa using T
  subst e;exact y.fpOk (bB _) (y.hok.fresh (bB _))
 |str z=>
  obtain⟨rfl,P⟩:=N;obtain⟨t,rfl⟩:=rx;have qq:Rr (re (tS z)) r:=q B D r G (Grow.refl ..) (re (tS z)) (z.map sg) (λ_=>True) (vR z) (by rw[cr];exact cK P jF) (by have:=Ib (z:=tS z);rw[jK]at this;exact this) λ_ _ _ _=>trivial;have W:∀(n:String) (j:Nat->aB->Prop),(∀i h,j i h->∃o n L,h.get? c.heap.objs.size=aa o/\o.cls=.type n/\o.data=.fields L /\ ["enumerate","zip","dict_itemiterator","dict_reverseitemiterator","odict_iterator","itertools.zip_longest","itertools.pairwise"].contains n=aj) ->
    (∀(A:aV) (i:Nat) (s:ao) (Q:ai->ao->Prop) (E:ai->ao->Prop),j i s.heap->Q (.ref c.heap.objs.size) s->aC (ay X.prog X.w) A (pyIter (.ref c.heap.objs.size)) Q E s) ->
    (∀A:aV,A.handled=ag->Walks X.prog X.w A c.heap.objs.size [c.heap.objs.size] [c.heap.objs.size] (tS z).cps.size (SignAt (tS z)) j) ->
    j 0 (c.heap.push {cls:=.type n,data:=.fields #[.str (tS z) t,.int 0 0]}) ->
    sP X ae Z g Rr (.ref c.heap.objs.size) {c with heap:=c.heap.push {cls:=.type n,data:=.fields #[.str (tS z) t,.int 0 0]}}:=λn j q h2 h3 h4=>by
   refine⟨c.heap.objs.size,[c.heap.objs.size],j,re (tS z),r,rfl,y.kept (t':=c.toks) λb o e=>dE _ e,Jg q h2 h3,h4,λb T=>?_,qq⟩;have e:b=c.heap.objs.size:=by simpa using T
   subst e;exact y.fpOk (bB _) (y.hok.fresh (bB _))
  cases C:(tS z).cps.all (· < 128)
  .refine wpAny_pyIter_wide C (W "str_iterator" (λi h=>h.IsStrIter c.heap.objs.size "str_iterator" (tS z) t i) (λi h ⟨o,e1,e2,e3⟩=>⟨o,_,_,e1,e2,e3,by decide⟩) (λA i s Q E st h=>wpAny_pyIter_striter_wide st h) (λA' hA=>Walks.strWide hA _ (tS z) t) ⟨_,fL _ rfl,rfl,rfl⟩)
  .refine wpAny_pyIter_ascii C (W "str_ascii_iterator" (λi h=>h.IsStrIter c.heap.objs.size "str_ascii_iterator" (tS z) t i) (λi h ⟨o,e1,e2,e3⟩=>⟨o,_,_,e1,e2,e3,by decide⟩) (λA i s Q E st h=>wpAny_pyIter_striter_ascii st h) (λA' hA=>Walks.strAscii hA _ (tS z) t) ⟨_,fL _ rfl,rfl,rfl⟩)
 |non=>exact(show False from q).elim
 |bl _=>exact(show False from q).elim
 |int _=>exact(show False from q).elim
 |raw _=>exact(show False from q).elim
 |exc _=>exact(show False from q).elim
def c9(c:Int)(n:Nat):List PV:=(cW n).map λi=>PV.int (c+(i:Nat))
theorem Ew{H:Hp}{F:af->Prop}(c:Int)(n:Nat):aS K H F (c9 c n) (oH c n):=by
 unfold c9 oH
 induction (cW n)with
 |nil=>rfl
 |cons x xs e=>exact⟨_,_,rfl,rfl,e⟩
def gA:List PV->Option (List PV)
 |[.int j]=>if j<=1000000/\-1000000<=j then aa (c9 0 j.toNat)else ag
 |_=>ag
theorem ou(w:X.mg "range"=ag)(y:DA X E [a] m)(x:Gl X "range":=by rfl)(u:aR [a] X.env=[(aj,bi a X.env)]:=by rfl):DI X E g (.Call (.Name "range" p) [a] [] f) (dL gA m):=λF S n e H I q h=>by
 refine FA (Kv x w iY u) (y F S n e H _ q ((Ok.bind h).imp λxs i B z A r G c C s=>?_));unfold gA at c;split at c
 .rename_i j;split at c
  .rename_i D;obtain⟨v,rfl,o⟩:=gx s;refine⟨j,by rw[show v=V.int j from o],∅,∅,c B z A r (Grow.refl ..) _ _ _ (Ew 0 j.toNat) (by rw[vJ,uE];lia) Ge λ_ _ _ _=>trivial⟩
  .exact c.elim
 .exact c.elim
end
section
variable{K:ar}{F:af->Prop}{S:Nat->af->Prop}{f:ak}{l:St}{H:Hp}{i:Nat}{p m:List PV}{d:List V}{a:af}
theorem aG.lstAt(r:aG K F S f l H)(e:f[i]?=aa (.own (.lst p))):∃a c,l[i]?=aa (aa (.ref a))/\H a=aa (.lst c)/\aS K H F p c/\S i a/\∀b,S i b->b=a:=by obtain⟨a,o,⟨c,n,j⟩,g⟩:=r.own i _ e;exact⟨a,c,o,n,j,(g a).mpr rfl,λb h=>(g b).mp h⟩
theorem aG.upd(r:aG K F S f l H)(e:f[i]?=aa (.own (.lst p)))(D:l[i]?=aa (aa (.ref a)))(h:aS K H F m d):aG K F S (f.set i (.own (.lst m))) l (upd H a (.lst d))/\Grow (U S) (U S) F F H (upd H a (.lst d)):=by
 obtain⟨N,J,E,M,L,y,B⟩:=r.lstAt e;rw[D]at E;cases E;have A:i<f.length:=(bY.mp e).1;have g:Grow (U S) (U S) F F H (L2.upd H a (.lst d)):=⟨λ_ z=>z,λb o q n=>by rw[bd (by rintro rfl;exact n ⟨i,y⟩)];exact q,λb o q=>by
  by_cases C:b=a
  .subst C;exact⟨_,upd_same⟩
  .exact⟨o,by rw[bd C];exact q⟩,λ_ z=>.inl z,λ_ z=>.inl z⟩
 refine⟨⟨by rw[dX];exact r.len,λb z=>let ⟨o,q⟩:=r.ex b z;g.there b o q,λj pv q=>?_,λj po q=>?_,λj b z=>?_,r.dist⟩,g⟩
 .have s:i≠j:=by rintro rfl;rw[cR A]at q;cases q
  rw[b9 s]at q;obtain⟨v,x,u⟩:=r.val j pv q;exact⟨v,x,u.grow g r.fit⟩
 .by_cases s:i=j
  .subst s;rw[cR A]at q;cases q;exact⟨a,D,⟨d,upd_same,h.grow g r.fit⟩,λb=>⟨B b,λz=>by rw[z];exact y⟩⟩
  .rw[b9 s]at q;obtain⟨c,x,u⟩:=r.own j po q;refine⟨c,x,u.mono (λ_ _ z=>z.grow g r.fit) (λ_ _ z=>z.grow g r.fit) λb o z w=>?_⟩;rw[bd (by rintro rfl;exact s (r.dist i j b y z))];exact w
 .obtain⟨⟨po,x⟩,u,o,I,G⟩:=r.foot j b z;by_cases s:i=j
  .subst s;rw[B b z];exact⟨⟨_,cR A⟩,by rw[<-B b z];exact u,_,upd_same,trivial⟩
  .exact⟨⟨po,by rw[b9 s];exact x⟩,u,o,by rw[bd (by rintro rfl;exact s (r.dist i j b y z))];exact I,G⟩
end
section
variable{X:Cx}{E:XK}{pin:List Nat}{e b:aA}{de db:ak->R PV}{d:Pos}
def cY(a:ak)(i:Nat):Option (List PV):=match a[i]? with
 |some (.own (.lst xs))=>aa xs
 |_=>ag
theorem gG{a:ak}{i:Nat}{xs:List PV}(h:cY a i=aa xs):a[i]?=aa (.own (.lst xs)):=by
 unfold cY at h;split at h
 .cases h;assumption
 .cases h
def qE(i:Nat)(de:ak->R PV):ak->R aL:=λc=>(a_ (cY c i) c).bind λ_ c=>(de c).bind λy a=>(a_ (cY a i) a).bind λxs a=>if xs.length<bF then .ok .next (a.set i (.own (.lst (xs++[y]))))else .no
theorem Hg(i:Nat){x:Str}{p f c:Pos}(N:DE X E e de)(Q:X.N[i]?=aa x:=by rfl)(K:d_ X.env.scope x:=by eq_refl)(O:(x==("__debug__":Str))=aj:=by decide)(br:(x==("__classdict__":Str))=aj:=by decide) (Z:pD (.Name x p) "append" X.env (bi (.Name x p) X.env)=bi (.Name x p) X.env:=by rfl)(Y:((cS c (aR [e] X.env)).all (λx=>!x.1)&&(pE c (pF [] X.env)).all (λx=>x.1.isSome)&&decide ([e].length+([]:List ja).length+(if([]:List ja).isEmpty then 0 else 1)<30))=ah:=by rfl)(W:(f.endLine == c.line)=ah:=by rfl) (z:aR [e] X.env=(aj,bi e X.env)::aR [] X.env:=by rfl) (T:(cS c (aR [] X.env)).any (·.1)=aj:=by rfl)(L:i8 (.Call (.Attribute (.Name x p) "append" f) [e] [] c) ag d.line X.env=pure aj:=by rfl):DS X E pin (.Expr (.Call (.Attribute (.Name x p) "append" f) [e] [] c) d) (qE i de):=λF S r o H D s h=>by
 unfold qE at h;cases n:cY r i with
 |none=>rw[n]at h;exact h.elim
 |some A=>
  rw[n]at h;simp only[cQ,R.bind_ok]at h;obtain⟨a,B,m,P,_,_,_⟩:=s.lstAt (gG n);refine gC (wz (qW yi PySem.F.slot_list_append PySem.F.type_list_append AT (fD Q K O br) (jH bI km z) Z Y W z T) L) ⟨.ref a,m,.inl ⟨rfl,_,b7.of P⟩,?_⟩;refine N F S r o H _ s (h.bindE.imp λy l F1 S1 H1 w g1 q v G=>?_);cases j:cY l i with
  |none=>rw[j]at q;exact q.elim
  |some xs=>
   rw[j]at q;simp only[cQ,R.bind_ok]at q;obtain⟨a',C,g,J,u,_,_⟩:=w.lstAt (gG j);rw[m]at g;cases g;split at q
   .rename_i M;obtain⟨I,g2⟩:=w.upd (gG j) m (u.app (.one G));exact⟨a,C,v,rfl,rfl,J,by rw[u.len];exact gJ M jF,q F1 S1 o _ I g2 (gv.refl _ _)⟩
   .exact q.elim
def G9:V->List V->Hp->VK->Prop:=λx c H Q=>∃l b xs a,x=.ref l/\c=[.ref b]/\H l=aa (.lst xs)/\Rd H b (.lst a)/\xs.length+a.length<=bj/\Q .non (L2.upd H l (.lst (xs++a)))
theorem Hy:ux X "list.extend" G9:=by
 intro M s B H x D v G Q I j m h;obtain⟨l,b,xs,C,rfl,rfl,i,w,K,q⟩:=h;cases j;obtain⟨u,rfl,o⟩:=m.one;cases o;obtain⟨z,c,n,r,L,e⟩:=I.lstM i;obtain⟨a,p,g,y,_⟩:=w6 I w;have J:=g.length;have f:c.toArray.size+a.toArray.size<=bj:=by rw[cq,cq];lia
 have A:¬(!c.toArray.isEmpty&&CF (c.toArray.size+a.toArray.size))=ah:=by rw[I_ f,yb];exact eh
 refine call_meets F.slot_list_extend ⟨_,e,rfl⟩ F.entry_list_extend (F.args_list_extend_2 _ _)
  (AutoSeq1.list_extend_list_list_0 l c.toArray n b a.toArray p A (by rw[cq];lia) ∅) ⟨e,y,?_⟩
 refine⟨.non,_,I.lset (its':=c++a) i e (by simp) (r.append g) ?_,rfl,q⟩;rw[fO];lia
def k6(i:Nat)(de:ak->R PV):ak->R aL:=λa=>(a_ (cY a i) a).bind λ_ a=>(de a).bind λy ε1=>(a_ (cY ε1 i) ε1).bind λxs ε1=>match y with
 |.lst c=>if xs.length+c.length<=bF then .ok .next (ε1.set i (.own (.lst (xs++c))))else .no
 |_=>.no
theorem v_(i:Nat){x:Str}{p g f:Pos}(Q:DE X E e de)(Z:X.N[i]?=aa x:=by rfl)(N:d_ X.env.scope x:=by eq_refl)(T:(x==("__debug__":Str))=aj:=by decide)(br:(x==("__classdict__":Str))=aj:=by decide) (h1:pD (.Name x p) "extend" X.env (bi (.Name x p) X.env)=bi (.Name x p) X.env:=by rfl)(h2:((cS f (aR [e] X.env)).all (λx=>!x.1)&&(pE f (pF [] X.env)).all (λx=>x.1.isSome)&&decide ([e].length+([]:List ja).length+(if([]:List ja).isEmpty then 0 else 1)<30))=ah:=by rfl)(h3:(g.endLine == f.line)=ah:=by rfl) (B:aR [e] X.env=(aj,bi e X.env)::aR [] X.env:=by rfl) (h5:(cS f (aR [] X.env)).any (·.1)=aj:=by rfl)(O:i8 (.Call (.Attribute (.Name x p) "extend" g) [e] [] f) ag d.line X.env=pure aj:=by rfl):DS X E pin (.Expr (.Call (.Attribute (.Name x p) "extend" g) [e] [] f) d) (k6 i de):=λF S s r H D u h=>by
 unfold k6 at h;cases o:cY s i with
 |none=>rw[o]at h;exact h.elim
 |some C=>
  rw[o]at h;simp only[cQ,R.bind_ok]at h;obtain⟨a,G,n,Y,_,_,_⟩:=u.lstAt (gG o);refine gC (wz (qW yi PySem.F.slot_list_extend PySem.F.type_list_extend Hy (fD Z N T br) (jH bI km B) h1 h2 h3 B h5) O) ⟨.ref a,n,.inl ⟨rfl,_,b7.of Y⟩,?_⟩;refine Q F S s r H _ u (h.bindE.imp λy m F1 S1 H1 A g1 q v K=>?_);cases l:cY m i with
  |none=>rw[l]at q;exact q.elim
  |some xs=>
   rw[l]at q;simp only[cQ,R.bind_ok]at q;obtain⟨a',I,j,M,z,_,_⟩:=A.lstAt (gG l);rw[n]at j;cases j;split at q
   .rename_i ys;split at q
    .rename_i P;obtain⟨c,J,rfl,W,_,w⟩:=K;obtain⟨L,g2⟩:=A.upd (gG l) n (z.app w);exact⟨a,c,I,J,rfl,rfl,M,W,by rw[z.len,w.len];exact cK P jF,q F1 S1 r _ L g2 (gv.refl _ _)⟩
    .exact q.elim
   .exact q.elim
def nc(i:Nat)(db de:ak->R PV):ak->R aL:=λc=>(de c).bind λy ε1=>(a_ (cY ε1 i) ε1).bind λ_ ε1=>(db ε1).bind λk a=>(a_ (cY a i) a).bind λxs a=>match k with
 |.int k=>match fE xs.length k with
  |some j=>.ok .next (a.set i (.own (.lst (xs.set j y))))
  |none=>.no
 |_=>.no
theorem Ba(i:Nat){x:Str}{p c:Pos}(Z:DE X E b db)(W:DE X E e de)(hN:X.N[i]?=aa x:=by rfl)(P:d_ X.env.scope x:=by eq_refl)(Y:(x==("__debug__":Str))=aj:=by decide)(br:(x==("__classdict__":Str))=aj:=by decide) (ha:∀v,li (.Subscript (.Name x p) b c) X.env v=(do
   let ov <-jQ [v] (bi (.Name x p) X.env)
   let iv <-jQ [v,ov] (bi b X.env)
   standAt c
   jQ [v,ov,iv] (setItem ov iv v)
   release [v,ov,iv] []):=by intro _;rfl) (Q:swapsWithSole [.Subscript (.Name x p) b c] e d.line X.env=pure aj:=by rfl) (O:swappedStores [.Subscript (.Name x p) b c] e X.env=pure ag:=by rfl)
  (h1:(assignEach [.Subscript (.Name x p) b c] X.env).map (·.2)=[li (.Subscript (.Name x p) b c) X.env]:=by rfl):DS X E pin (.Assign [.Subscript (.Name x p) b c] e d) (nc i db de):=λF S B n H D L h=>by
 refine gC (Ap bI (yX (fD hN P Y br) bI BX ha) Q O h1) (W F S B n H _ L (h.bindE.imp λy g F1 S1 H1 r g1 q v J=>?_));cases w:cY g i with
 |none=>rw[w]at q;exact q.elim
 |some C=>
  rw[w]at q;simp only[cQ,R.bind_ok]at q;obtain⟨a,G,s,ha0,_,_,_⟩:=r.lstAt (gG w);refine⟨.ref a,s,Z F1 S1 g n H1 _ r (q.bindE.imp λk o F2 S2 H2 A g2 f u K=>?_)⟩;cases m:cY o i with
  |none=>rw[m]at f;exact f.elim
  |some xs=>
   rw[m]at f;simp only[cQ,R.bind_ok]at f;obtain⟨a',I,l,N,z,_,_⟩:=A.lstAt (gG m);rw[s]at l;cases l;split at f
   .rename_i k;split at f
    .rename_i j T;obtain⟨M,g3⟩:=A.upd (gG m) s (z.set (J.grow g2 r.fit) j);exact⟨a,I,k,j,rfl,K,N,by rw[z.len];exact T,f F2 S2 n _ M g3 (gv.refl _ _)⟩
    .exact f.elim
   .exact f.elim
end
mutual
def imm:PV->Bool
 |.lst _=>aj
 |.tup xs=>kY xs
 |_=>ah
def kY:List PV->Bool
 |[]=>ah
 |x::xs=>imm x&&kY xs
end
mutual
theorem aJ.imm{K:ar}{H:Hp}{F g:af->Prop}:∀(x:PV) {v:V},imm x=ah->aJ K H F x v->aJ K H g x v
 |.non,_,_,h=>h
 |.bl _,_,_,h=>h
 |.int _,_,_,h=>h
 |.str _,_,_,h=>h
 |.raw _,_,_,h=>h
 |.exc _,_,_,h=>h
 |.lst _,_,e,_=>by simp[Pu.imm]at e
 |.tup xs,_,e,⟨a,b,f,d,c⟩=>⟨a,b,f,d,aS.imm xs (by simpa[Pu.imm]using e) c⟩
theorem aS.imm{K:ar}{H:Hp}{F g:af->Prop}:∀(xs:List PV) {a:List V},kY xs=ah->aS K H F xs a->aS K H g xs a
 |[],_,_,h=>h
 |x::xs,_,e,⟨v,r,f,d,c⟩=>by
  have b:imm x=ah/\kY xs=ah:=by simpa[kY]using e
  exact⟨v,r,f,aJ.imm x b.1 d,aS.imm xs b.2 c⟩
end
section
variable{K:ar}{F:af->Prop}{S:Nat->af->Prop}{d:ak}{c:St}{H:Hp}{i:Nat}{f:List PV}
theorem aG.look(r:aG K F S d c H)(e:d[i]?=aa (.own (.lst f))):∃a,c[i]?=aa (aa (.ref a))/\¬F a/\aJ K H (λb=>F b\/b=a) (.lst f) (.ref a)/\(∀b,F b\/b=a->∃o,H b=aa o) /\ (∀{h g},Al (λb=>F b\/b=a) h H g->Al F (λb=>h b/\b≠a) H g):=by
 obtain⟨a,m,q,l,p,n,s⟩:=r.lstAt e;have j:¬F a:=(r.foot i a n).2.1;refine⟨a,q,j,⟨a,m,rfl,.inl l,.inr rfl,aS.mono (λ_ z=>.inl z) (λ_ _ _ z=>z) (λ_ _ z _=>z) _ _ p⟩,λb z=>z.elim (r.ex b) λz=>by rw[z];exact⟨_,l⟩,λ{h g} al=>⟨λb z=>⟨al.fro b (.inl z),by rintro rfl;exact j z⟩,al.same,λb z=>?_⟩⟩;rcases al.fnew b z.1 with(w|w)|w
 .exact .inl w
 .exact absurd w z.2
 .exact .inr w
end
section
variable{X:Cx}{E:XK}{e b:aA}{de db:ak->R PV}{d p:Pos}{x y:Str}{l T:String}{r:List V->Hp->VK->Prop}{f:List PV->Option PV}{g:List PV->Option PO}
def jB(o:Option PV):Option PV:=o.bind λv=>if imm v then aa v else ag
theorem y9{o:Option PV}{v:PV}(h:jB o=aa v):o=aa v/\imm v=ah:=by
 cases o with
 |none=>cases h
 |some w=>
  have h:(if imm w then aa w else ag)=aa v:=h;split at h
  .cases h;exact⟨rfl,by assumption⟩
  .cases h
def t5:PO->Bool
 |.lst xs=>kY xs
 |_=>aj
def g_{c:Type}(f:List PV->Option c)(i:Nat):ak->R c:=λa=>(a_ (cY a i) a).bind λxs a=>a_ (f [.lst xs]) a
theorem Kt{F:af->Prop}{S:Nat->af->Prop}{m:ak}{j:St}{H:Hp}{Q:VK}{i:Nat}(B:PL X.K r f)(s:aG X.K F S m j H)(h:Ok X.K E j F S H (g_ (λxs=>jB (f xs)) i m) (λpv _ z _ c=>∀v,aJ X.K c z pv v->Q v c)):∃a,j[i]?=aa (aa (.ref a))/\r [.ref a] H Q:=by
 unfold g_ at h;cases q:cY m i with
 |none=>rw[q]at h;exact h.elim
 |some xs=>
  rw[q]at h;simp only[cQ,R.bind_ok]at h;obtain⟨a,D,J,A,C,u⟩:=s.look (gG q);refine⟨a,D,?_⟩;cases o:jB (f [.lst xs])with
  |none=>rw[o]at h;exact h.elim
  |some pv=>rw[o]at h;obtain⟨I,G⟩:=y9 o;exact B _ H [.lst xs] [.ref a] Q pv (.one A) I λw z c al n=>h _ S c (s.al (u al)) (u al).grow w (aJ.imm pv G n)
theorem wR(i:Nat)(A:eI X (.builtin l) r)(s:PL X.K r f)(v:X.mg x=ag)(n:eD x=aa (.builtin l))(B:X.N[i]?=aa y:=by rfl)(m:d_ X.env.scope y:=by eq_refl)(z:(y==("__debug__":Str))=aj:=by decide) (I:(y==("__classdict__":Str))=aj:=by decide) (w:Gl X x:=by rfl) (u:x≠"__name__":=by decide) (C:(x==("__debug__":Str))=aj:=by decide) {c:Pos}(h:aR [.Name y c] X.env=(aj,bi (.Name y c) X.env)::aR [] X.env:=by rfl) (G:(cS d (aR [] X.env)).any (·.1)=aj:=by rfl):DE X E (.Call (.Name x p) [.Name y c] [] d) (g_ (λxs=>jB (f xs)) i):=λF S K J H Q j q=>by obtain⟨a,D,o⟩:=Kt s j q;exact bX (o_ A w v n (jH (fD B m z I) km h) u C h G) ⟨_,D,o⟩
def lS(o:Option PO):Option PO:=o.bind λv=>if t5 v then aa v else ag
theorem Jk{F:af->Prop}{S:Nat->af->Prop}{q:ak}{n:St}{H:Hp}{Q:VK}{i:Nat}(hp:kT X.K r g)(v:aG X.K F S q n H)(h:Ok X.K E n F S H (g_ (λxs=>lS (g xs)) i q) (λA _ J S' m=>∀a s,ez X.K m J A a s->(∀b,s b->H b=ag/\¬J b/\¬U S' b/\∃o,m b=aa o/\dy o)->Q (.ref a) m)):∃a,n[i]?=aa (aa (.ref a))/\r [.ref a] H Q:=by
 unfold g_ at h;cases I:cY q i with
 |none=>rw[I]at h;exact h.elim
 |some xs=>
  rw[I]at h;simp only[cQ,R.bind_ok]at h;obtain⟨a,ea,nF,Y,D,M⟩:=v.look (gG I);refine⟨a,ea,?_⟩;cases G:g [.lst xs]with
  |none=>rw[G]at h;exact h.elim
  |some A=>
   rw[G]at h;cases A with
   |dK B=>exact h.elim
   |lls bW=>exact h.elim
   |ins C fs=>exact h.elim
   |dT B=>exact h.elim
   |inl C fs y xs=>exact h.elim
   |lst u=>
    have h:Ok X.K E n F S H (a_ (if kY u then aa (PO.lst u)else ag) q) _:=h;split at h
    .rename_i hi;refine hp _ H [.lst xs] [.ref a] Q _ D (.one Y) G λc J m s al Z fr=>h _ S m (v.al (M al)) (M al).grow c s ?_ λb z=>?_
     .obtain⟨⟨W,o1,o2⟩,o3⟩:=Z;exact⟨⟨W,o1,aS.imm u hi o2⟩,o3⟩
     .obtain⟨K,P,o,O,N⟩:=fr b z;refine⟨K,λw=>P w.1,λ⟨j,w⟩=>?_,o,O,N⟩;obtain⟨_,_,o',L,_⟩:=v.foot j b w;rw[K]at L;cases L
    .exact h.elim
theorem Bb(i:Nat)(A:eI X (.builtin l) r)(s:kT X.K r g)(v:X.mg x=ag)(n:eD x=aa (.builtin l))(B:X.N[i]?=aa y:=by rfl)(m:d_ X.env.scope y:=by eq_refl)(z:(y==("__debug__":Str))=aj:=by decide) (I:(y==("__classdict__":Str))=aj:=by decide) (w:Gl X x:=by rfl) (u:x≠"__name__":=by decide) (C:(x==("__debug__":Str))=aj:=by decide) {c:Pos}(h:aR [.Name y c] X.env=(aj,bi (.Name y c) X.env)::aR [] X.env:=by rfl) (G:(cS d (aR [] X.env)).any (·.1)=aj:=by rfl):DN X E (.Call (.Name x p) [.Name y c] [] d) (g_ (λxs=>lS (g xs)) i):=λF S K J H Q j q=>by obtain⟨a,D,o⟩:=Jk s j q;exact bX (o_ A w v n (jH (fD B m z I) km h) u C h G) ⟨_,D,o⟩
def lD(f:PV->PV->Option PV)(i:Nat)(db:ak->R PV):ak->R PV:=λa=>(a_ (cY a i) a).bind λ_ a=>(db a).bind λk ε1=>(a_ (cY ε1 i) ε1).bind λxs ε1=>a_ (jB (f (.lst xs) k)) ε1
theorem JF{F:af->Prop}{S:Nat->af->Prop}{m:ak}{c:St}{H:Hp}{Q:VK}{i:Nat}{r:R2}{f:PV->PV->Option PV}(P:P2 X.K r f)(Y:DE X E b db)(G:aG X.K F S m c H)(h:Ok X.K E c F S H (lD f i db m) (λpv _ L _ n=>∀v,aJ X.K n L pv v->Q v n)):∃a,c[i]?=aa (aa (.ref a))/\gw X b c H λu D=>r (.ref a) u D Q:=by
 unfold lD at h;cases C:cY m i with
 |none=>rw[C]at h;exact h.elim
 |some M=>
  rw[C]at h;simp only[cQ,R.bind_ok]at h;obtain⟨a,vs,J,_⟩:=G.lstAt (gG C);refine⟨a,J,Y F S m c H _ G ((Ok.bind h).imp λk o F1 S1 D I g1 q u N=>?_)⟩;cases B:cY o i with
  |none=>rw[B]at q;exact q.elim
  |some xs=>
   rw[B]at q;simp only[cQ,R.bind_ok]at q;obtain⟨a',j,nF,O,W,K⟩:=I.look (gG B);rw[J]at j;cases j;cases A:jB (f (.lst xs) k)with
   |none=>rw[A]at q;exact q.elim
   |some pv=>rw[A]at q;obtain⟨e3,Z⟩:=y9 A;exact P _ D (.lst xs) k (.ref a) u Q pv O (aJ.mono (λ_ z=>.inl z) (λ_ _ _ z=>z) (λ_ _ z _=>z) _ _ N) e3 λw L n al s=>q _ S1 n (I.al (K al)) (K al).grow w (aJ.imm pv Z s)
theorem BM(i:Nat){c:Pos}{r:R2}{f:PV->PV->Option PV}(q:ka X r)(s:P2 X.K r f)(v:DE X E b db)(w:X.N[i]?=aa y:=by rfl)(m:d_ X.env.scope y:=by eq_refl)(u:(y==("__debug__":Str))=aj:=by decide) (A:(y==("__classdict__":Str))=aj:=by decide) (o:tL b:=by exact λ_ _=>rfl):DE X E (.Subscript (.Name y c) b d) (lD f i db):=λF S C B H Q j h=>by obtain⟨a,z,n⟩:=JF s v j h;exact bX (v5 q (fD w m u A) bI o) ⟨_,z,n⟩
end
end Pu
namespace Pu
open L2
def jG(h:aB)(e T:af)(c g:ai):Prop:=∃a b f d,h.get? e=aa a/\a.cls=c/\(a.data=.fields b/\a.dict=ag)/\b[1]?=aa (.ref T)/\T≠e/\h.get? T=aa f/\f.data=.fields d/\d[3]?=aa g
def Made(h:aB)(e:af)(c:ai):Prop:=∃a b,h.get? e=aa a/\a.cls=c/\(a.data=.fields b/\a.dict=ag)/\b[1]?=aa .none
structure Kp(fs:List af)(X:af->Prop)(h h':aB):Prop where
 keep:∀b o,h.get? b=aa o->b∉fs->¬X b->h'.get? b=aa o
 slot:∀b o,h.get? b=aa o->b∈fs->¬X b->∃sl,h'.get? b=aa {o with slots:=sl}
 there:∀b o,h.get? b=aa o->∃o',h'.get? b=aa o'
theorem Kp.trans{fs:List af}{X Y:af->Prop}{h g f:aB}(a:Kp fs X h g)(b:Kp fs Y g f):Kp fs (λc=>X c\/Y c) h f where
 keep:=λc o e n x=>b.keep c o (a.keep c o e n λz=>x (.inl z)) n λz=>x (.inr z)
 slot:=λc o e n x=>by obtain⟨l,j⟩:=a.slot c o e n λz=>x (.inl z);obtain⟨d,i⟩:=b.slot c _ j n λz=>x (.inr z);exact⟨d,i⟩
 there:=λc o e=>let ⟨o',e'⟩:=a.there c o e;b.there c o' e'
theorem Kp.imp{fs d:List af}{X Y:af->Prop}{h j:aB}(a:Kp fs X h j)(f:∀b,b∈fs->b∈d)(g:∀b o,h.get? b=aa o->X b->Y b):Kp d Y h j where
 keep:=λc o e n x=>a.keep c o e (λz=>n (f c z)) λz=>x (g c o e z)
 slot:=λc o e n x=>by
  by_cases i:c∈fs
  .exact a.slot c o e i λz=>x (g c o e z)
  .exact⟨o.slots,a.keep c o e i λz=>x (g c o e z)⟩
 there:=a.there
theorem F7(f:Array ai->Array ai)(o:Obj):(jX f o).dict=o.dict:=by
 obtain⟨c,d,dt,a⟩:=o;cases dt <;> rfl
section
variable{M:Model}{A:aV}{E:ai->ao->Prop}{s:ao}
theorem z7{z:aB}{l:Env}{g:List Env}{L e:af}{w:Obj}{G:Array ai}{B:ai}{K4:Bool}{Q:Unit->ao->Prop}(kI:A.frames=aa (l::g)) (P:s.heap.FunFrames z (l::g)) (hf:l.frame=aa L) (S:s.heap.get? e=aa w) (I:w.data=.fields G) (Z:w.dict=ag) (v:1<G.size)(h:∀K T,Kp (eL (l::g)) (λb=>b=e) s.heap K->jG K e T w.cls .none->s.heap.objs.size<=T->Q () {s with heap:=K}):aC M A (do let a <-frameOf l;let r <-entryPlaceOf L K4;let b <-EntryCells.newEntry B a .none (iI L) .none r;setField (.ref e) 1 b) (λ_ X=>aC M A (uQ (.ref e) ag) Q E X) E s:=by
 have y:e∉(l::g).filterMap (·.frame):=λhm=>by obtain⟨_,o,F,Y⟩:=P.mem hm;rw[S]at F;injection F with F;subst F;exact Y G I
 refine az (wpAny_frameOf_fun kI P hf λc d=>?_);refine az (wpAny_entryPlaceOf λr W=>?_);unfold EntryCells.newEntry newFields;refine az (l5 ?_ (W.sizeOk5 _ _ _ _ _));have n:c.get? e=aa w:=(d.2.1 e y).trans S;have m:=dE (h:=c) {cls:=.type "traceback",dict:=ag,data:=.fields ([B,.ref L,.none,iI L,.none]++(if r.isEmpty then dq 6 Value.none else r)).toArray} n;refine rJ m I v ?_;have C:c.objs.size≠e:=xO (bM n);have j:=nz I (·.setIfInBounds 1 (Value.ref c.objs.size));have i:=rE (jX (·.setIfInBounds 1 (Value.ref c.objs.size))) m (uR j);have p:=(l6 (c.push {cls:=.type "traceback",dict:=ag,data:=.fields ([B,.ref L,.none,iI L,.none]++(if r.isEmpty then dq 6 Value.none else r)).toArray}) (jX (·.setIfInBounds 1 (Value.ref c.objs.size))) (cX C)).trans (fL c rfl);unfold uQ;refine az (nu i j (x:=.ref c.objs.size) (by simp[v]) ?_);rw[if_pos (show(Value.ref c.objs.size != Value.none)=ah from by simp)];refine rJ p rfl (by simp only[cq,fO,eP,List.length_nil] <;> lia) (h _ c.objs.size ?_ ?_ ?_)
 .have keep:∀b o,b≠e->c.get? b=aa o ->
    (((c.push {cls:=.type "traceback",dict:=ag,data:=.fields ([B,.ref L,.none,iI L,.none]++(if r.isEmpty then dq 6 Value.none else r)).toArray}).update e (jX (·.setIfInBounds 1 (Value.ref c.objs.size)))).update c.objs.size (jX (·.setIfInBounds 3 ((ag:Option af).elim Value.none λf=>iI f)))).get? b=aa o:=λb o D u=>by
   have J:c.objs.size≠b:=xO (bM u);rw[l6 _ _ J,l6 _ _ (cX D)];exact dE _ u
  refine⟨λb o u O H=>keep b o H ((d.2.1 b O).trans u),λb o u O H=>?_,λb o u=>?_⟩
  .obtain⟨N,q⟩:=d.2.2 b o u;exact⟨N,keep b _ H q⟩
  .by_cases D:b=e
   .subst D;exact⟨_,(l6 _ _ C).trans i⟩
   .obtain⟨N,q⟩:=d.2.2 b o u;exact⟨_,keep b _ D q⟩
 .refine⟨_,_,_,_,(l6 _ _ C).trans i,Obj.cls_mapFields _ _,⟨j,by rw[F7];exact Z⟩,by simp[v],C,rE _ p (uR (nz rfl _)),nz rfl _,by first | (simp;done) | (rcases W with rfl|⟨_,_,_,_,_,_,_,rfl⟩ <;> simp)⟩
 .exact nv d.1.symm
theorem Ii{f:aB}{d:Env}{a:List Env}{L e:af}{c:ai}{Q:Unit->ao->Prop}(o:A.frames=aa (d::a))(q:s.heap.FunFrames f (d::a))(i:d.frame=aa L)(p:Made s.heap e c)(h:∀g T,Kp (eL (d::a)) (λb=>b=e) s.heap g->jG g e T c .none->s.heap.objs.size<=T->Q () {s with heap:=g}):aC M A (leaving d (.ref e)) Q E s:=by obtain⟨v,u,j,r,⟨l,n⟩,m⟩:=p;subst r;unfold leaving noteFrame;simp only[i];refine az (az (nu j l m ?_));rw[if_neg (by decide)];exact z7 o q i j l n (ny.mp m).1 h
theorem A2{l:aB}{g:Env}{outer:List Env}{L e T:af}{c:ai}{Q:Unit->ao->Prop}(H:A.frames=aa (g::outer))(N:s.heap.FunFrames l (g::outer))(u:g.frame=aa L)(J:jG s.heap e T c .none)(h:∀j T',Kp (eL (g::outer)) (λb=>b=e\/b=T) s.heap j->jG j e T' c .none->s.heap.objs.size<=T'->Q () {s with heap:=j}):aC M A (noteFrame (.ref e) g) (λ_ C=>aC M A (uQ (.ref e) ag) Q E C) E s:=by
 obtain⟨S,r,W,B,v,G,⟨w,D⟩,y,F,n,m,x⟩:=J;subst G;unfold noteFrame;simp only[u];refine az (nu v w y ?_);rw[if_pos (show(Value.ref T != Value.none)=ah from by simp)];refine az (nu n m x ?_);rw[if_neg (show ¬((Value.none == iI L)=ah)from by simp[iI])];refine az (rJ n m (ny.mp x).1 ?_);have a:∀b,b≠T->(s.heap.update T (jX (·.setIfInBounds 3 Value.none))).get? b=s.heap.get? b:=λb d=>l6 _ _ (cX d);have f:∀b o,s.heap.get? b=aa o->(∀r,o.data≠.fields r)->b≠T:=λb o d p q=>by rw[q,n]at d;injection d with d;subst d;exact p B m
 refine z7 H (N.of_keeps λb o d p=>⟨o,(a b (f b o d p)).trans d,rfl⟩) u ((a e (cX F)).trans v) w D (ny.mp y).1 λj T' k O K=>?_;have I:Kp (eL (g::outer)) (λb=>b=T) s.heap (s.heap.update T (jX (·.setIfInBounds 3 Value.none))):=by
  refine⟨λb o d _ i=>(a b i).trans d,λb o d _ i=>⟨o.slots,(a b i).trans d⟩,λb o d=>?_⟩;by_cases i:b=T
  .subst i;exact⟨_,rE _ n (uR (nz m _))⟩
  .exact⟨o,(a b i).trans d⟩
 refine h j T' ((I.trans k).imp (λ_ z=>z) λb o _ z=>z.symm) O ?_;have P:(s.heap.update T (jX (·.setIfInBounds 3 Value.none))).objs.size<=T':=K;rwa[CJ]at P
theorem JK{f:aB}{d:Env}{a:List Env}{L e T:af}{c:ai}{Q:Unit->ao->Prop}(j:A.frames=aa (d::a))(m:s.heap.FunFrames f (d::a))(n:d.frame=aa L)(l:jG s.heap e T c .none)(h:∀g i,Kp (eL (d::a)) (λb=>b=e\/b=T) s.heap g->jG g e i c .none->s.heap.objs.size<=i->Q () {s with heap:=g}):aC M A (leaving d (.ref e)) Q E s:=by unfold leaving;exact az (A2 j m n l h)
theorem Jt{e T:af}{c D:ai}{Q:Unit->ao->Prop}(B:jG s.heap e T c D)(h:∀l,Kp [] (λb=>b=T) s.heap l->jG l e T c .none->Q () {s with heap:=l}):aC M A (uQ (.ref e) ag) Q E s:=by
 obtain⟨x,v,F,w,n,z,⟨p,y⟩,r,m,q,j,C⟩:=B;have u:3<w.size:=(ny.mp C).1;have a:∀b,b≠T->(s.heap.update T (jX (·.setIfInBounds 3 ((ag:Option af).elim Value.none λf=>iI f)))).get? b=s.heap.get? b:=λb g=>l6 _ _ (cX g);have d:=rE (jX (·.setIfInBounds 3 ((ag:Option af).elim Value.none λf=>iI f))) q (uR (nz j _));unfold uQ;refine az (nu n p r ?_);rw[if_pos (show(Value.ref T != Value.none)=ah from by simp)];refine rJ q j u (h _ ⟨λb o g _ i=>(a b i).trans g,λb o g _ i=>⟨o.slots,(a b i).trans g⟩,λb o g=>?_⟩ ⟨x,v,_,_,(a e (cX m)).trans n,z,⟨p,y⟩,r,m,d,nz j _,by simp[u]⟩);by_cases i:b=T
 .subst i;exact⟨_,d⟩
 .exact⟨o,(a b i).trans g⟩
end
def cx(P:aT)(w:aK):fY:=λb H s E e s'=>∃(a T:af) (c:ai) (d:Hp),e=.ref a/\s'.os=s.os/\lg s'.gens/\Un (eL b) [] H d s.heap s'.heap/\cG P w d s'.heap/\jG s'.heap a T c .none /\
 (s.heap.get? a=ag/\s.heap.get? T=ag/\d a=ag/\d T=ag)/\E c ag d
theorem Do{P:aT}{w:aK}{H:Hp}{h:aB}{a:af}{o:HO}(x:bZ P w H h a o):∃u,h.get? a=aa u:=by
 cases o with
 |lst xs=>obtain⟨_,_,_,_,e⟩:=x;exact⟨_,e⟩
 |tup xs=>obtain⟨_,_,_,⟨o,e,_⟩,_⟩:=x;exact⟨_,e⟩
 |dK b=>obtain⟨_,_,_,_,o,_,_,e,_⟩:=x;exact⟨_,e⟩
 |dT b=>obtain⟨_,_,_,_,o,_,_,e,_⟩:=x;exact⟨_,e⟩
 |set S n=>obtain⟨o,_,_,_,e,_⟩:=x;exact⟨_,e⟩
 |ins C l fs=>obtain⟨_,_,_,e,_⟩:=x;exact⟨_,e⟩
 |own y=>exact x
 |xd fs=>obtain⟨_,⟨_,_,_,e,_⟩,_⟩:=x;exact⟨_,e⟩
 |rng i j=>obtain⟨_,_,_,e⟩:=x;exact⟨_,e⟩
 |frz g u=>obtain⟨e,_⟩:=x;exact⟨_,e⟩
 |tbl d=>obtain⟨_,e,_⟩:=x;exact⟨_,e⟩
 |met f y=>exact⟨_,x⟩
 |ext c=>obtain⟨_,e,_⟩:=x;exact e
theorem Ff{P:aT}{w:aK}{H:Hp}{h:aB}{a:af}(x:cG P w H h)(e:h.get? a=ag):H a=ag:=by
 cases q:H a with
 |none=>rfl
 |some u=>obtain⟨o,z⟩:=Do (x a u q);rw[e]at z;cases z
theorem o8{fs:List af}{H c:Hp}{h b:aB}{a:af}(u:Un fs [] H c h b)(e:b.get? a=ag):h.get? a=ag:=by
 cases q:h.get? a with
 |none=>rfl
 |some o=>obtain⟨d,z⟩:=u.there a o q (by simp);rw[e]at z;cases z
theorem xj{fs a:List af}{H p:Hp}{h l j:aB}{X:af->Prop}(u:Un fs [] H p h l)(k:Kp a X l j)(r:∀b o,h.get? b=aa o->b∈a->b∈fs)(g:∀b o,h.get? b=aa o->¬X b):Un fs [] H p h j where
 keep:=λb o e n d c=>k.keep b o (u.keep b o e n d c) (λz=>d (r b o e z)) (g b o e)
 slot:=λb o e n d c=>by
  obtain⟨q,m⟩:=u.slot b o e n d c;by_cases i:b∈a
  .obtain⟨f,s⟩:=k.slot b _ m i (g b o e);exact⟨f,s⟩
  .exact⟨q,k.keep b _ m i (g b o e)⟩
 free:=u.free
 there:=λb o e c=>let ⟨o',e'⟩:=u.there b o e c;k.there b o' e'
 tups:=u.tups
 frzs:=u.frzs
 tbls:=u.tbls
theorem wm{P:aT}{w:aK}{fs:List af}{H:Hp}{h d:aB}{X:af->Prop}(x:cG P w H h)(k:Kp fs X h d)(f:∀b∈fs,H b=ag)(g:∀b,X b->H b=ag):cG P w H d:=λb u e=>
 (x b u e).stay (λc v a q=>k.keep c v q (λz=>by
   have:=f c z;rcases a with rfl|a
   .rw[e]at this;cases this
   .rw[a]at this;cases this) λz=>by
   have:=g c z;rcases a with rfl|a
   .rw[e]at this;cases this
   .rw[a]at this;cases this) (λ_ q=>q) λ_ _ q=>q
section
variable{P:aT}{w:aK}{K:ar}{n:Str->Option ai}{l:aB}{N:List Str}{j:Str}{g:dD}{f:af}{p:ai}{A:aV}{i:List Env}{d:ao}{m:Hp}{E:XK}
theorem cu:qJ (cx P w) (io (cx P w) P w K n l N j g f p A i d m E) E:=λae Y H s e s' I h=>by
 obtain⟨a,T,c,X,rfl,J,M,un,B,Q,⟨S,W,G,Z⟩,O⟩:=h;have r:=I.call' (s':=s') (ch:=[]) J un B M (λb z=>absurd z (by simp));refine JK (L:=d.heap.objs.size) I.ok.frames r.stack rfl Q λkJ F k C y=>?_;have mO:(io (cx P w) P w K n l N j g f p A i d m E).ex=[]:=rfl;have v:d.heap.get? a=ag:=o8 I.base S;have D:d.heap.get? T=ag:=o8 I.base W;have x:d.heap.get? F=ag:=o8 r.base (xN y);have u:∀b o,d.heap.get? b=aa o->b≠a/\b≠T:=λb o e=>⟨(by rintro rfl;rw[v]at e;cases e),(by rintro rfl;rw[D]at e;cases e)⟩
 refine⟨a,F,c,X,rfl,r.os,r.bare,xj r.base k (λb o e z=>?_) (λb o e z=>z.elim (u b o e).1 (u b o e).2),wm r.hok k r.stkFree (λb z=>by rcases z with rfl|rfl <;> assumption),C,⟨v,x,G,r.hok.fresh y⟩,O⟩;rcases dm.mp (I.stkSub b z)with q|q
 .exact absurd (bM e) (by rw[q];exact ii _)
 .exact q
end
section
variable{X:Cx}{E:XK}{pin:List Nat}{e:aA}{de:ak->R PV}{x:Str}{C:af}{i:List ai}{d f B:String}{l g j:Pos}
def yZ(X:Cx)(E:XK):Prop:=∀(n:List (af×Obj)) (m:St) (H:Hp) (s:ao) (a:af) (c:ai) (h:aB),Inv X n m H s->(∀b o,s.heap.get? b=aa o->h.get? b=aa o)->Made h a c->s.heap.get? a=ag->(E c ag H)->X.xe (.ref a) {s with heap:=h}
def qk(c:ai)(de:ak->R PV):ak->R aL:=λb=>(de b).bind λ_ a=>.er c a
theorem Ht{h c:aB}{e:af}{a:ai}{b:List ai}(m:Heap.MadeExcOf h c e a b):Made c e a:=by obtain⟨t,n,_,_⟩:=m.there;exact⟨_,_,n,rfl,⟨rfl,rfl⟩,rfl⟩
theorem AY(hx:yZ X E)(hc:X.calm=ah)(O:OwnCls x C i d X.mg X.base)(Q:ExcBaseFacts B d f i)(he:DE X.nox E0 e de)(hg:Gl X x:=by rfl)(hd:(x==("__debug__":Str))=aj:=by decide)(M:aR [e] X.env=[(aj,bi e X.env)]:=by rfl):DS X E pin (.Raise (aa (.Call (.Name x l) [e] [] g)) ag j) (qk (.ref C) (λw=>bL (de w))):=λF S w n H D Z q=>Bx.mk λP s I=>by
 obtain⟨W,N,nm,qn,bs,hdct,sn,sub,ab,col,dd,k0,k1,k2,k3,k5,mN,hC,hN,J,T⟩:=O.obj;refine wpAny_Raise_call_subT (C:=C) (nm:=nm) (q:=qn) (N:=N) (bs:=bs) (bm:=W) (hdct:=hdct) (sn:=sn) (sub:=sub) (ab:=ab) (col:=col) (dd:=dd) (k0:=k0) (k1:=k1) (k2:=k2) (k3:=k3) (k5:=k5)
  Q (mN:=mN) (T.hasType Q.hasBase) (I.ok.hd hc) (by rw[M];rfl) J (ph I hg O.bound ⟨rfl,?_⟩ hd)
 have q2:Ok X.K E0 n F S H (de w) (λ_ b r o p=>hZ X.K E pin n r o p (.er (.ref C) b) D):=by
  have q:hZ X.K E pin n F S H ((bL (de w)).bind λ_ b=>.er (.ref C) b) D:=q;cases K:de w with
  |no=>rw[K]at q;exact q.elim
  |er c A=>rw[K]at q;exact q.elim
  |ok v A=>rw[K]at q;exact λF' S' H' r' g'=>q.from g' (gv.refl _ _)
 rw[M];refine Calls.evalArgs_plain (fj (Calls.spliced_cons (fj ((he F S w n H (λv p=>∃r o b,aG X.K r o b n p/\hZ X.K E pin n r o p (.er (.ref C) b) D) Z (q2.imp λv b r o p L g1 h v' rv=>⟨r,o,b,L,h⟩)).run P s (I.wish _)) (λu Y ⟨v,p,y,L,r,o,b,G,ok⟩=>?_) λ_ _ z=>z.elim)) (λ_ _ z=>z) λ_ _ z=>z);have y:=y.unwish;refine Calls.spliced_nil ⟨rfl,(by show 1<=bj;decide),y.bk _ _ hC,hN.keeps y.bk,T.keeps y.bk,λh' a m=>?_⟩;exact hx P n p Y a (.ref C) h' y m.keeps (Ht m) m.new (ok ag r o n p G (Grow.refl ..) (gv.refl _ _))
end
section
variable{P:aT}{w:aK}{K:ar}{m:Str->Option ai}{j:aB}{N:List Str}{i:Str}{g:dD}{f:af}{n:ai}{A:aV}{h:List Env}{d:ao}{l:Hp}{E:XK}
theorem zz:yZ (io (cx P w) P w K m j N i g f n A h d l E) E:=λM D H s a c B I G F new J=>by
 have p:Inv _ M D H {s with heap:=B}:=I.kept (t':=s.toks) G;refine Ii (s:={s with heap:=B}) (L:=d.heap.objs.size) I.ok.frames p.stack rfl F λO C k x v=>?_;have r:d.heap.get? a=ag:=o8 I.base new;have u:d.heap.get? C=ag:=o8 p.base (xN v);have y:H a=ag:=Ff I.hok new;refine⟨a,C,c,H,rfl,p.os,p.bare,xj p.base k (λb o e z=>?_) (λb o e z=>by rw[show b=a from z,r]at e;cases e),wm p.hok k p.stkFree (λb z=>by rw[show b=a from z];exact y),x,⟨r,u,y,p.hok.fresh v⟩,J⟩;rcases dm.mp (I.stkSub b z)with q|q
 .exact absurd (bM e) (by rw[q];exact ii _)
 .exact q
end
section
variable{X:Cx}{f:List (af×Obj)}{a:St}{H:Hp}{s:ao}
theorem Fw{M:Model}{A:aV}{E:ai->ao->Prop}{i:Nat}{x:Str}{v:V}{Q:Unit->ao->Prop}(I:Inv X f a H s)(hN:X.N.Nodup)(T:X.N[i]?=aa x)(G:X.env.scope.names.lookup x=aa .local)(O:a[i]?=aa (aa v))(h:∀s',Inv X f (a.set i ag) H s'->Q () s'):aC M A (unbindName X.env x) Q E s:=by
 obtain⟨m,P,S⟩:=id I.loc;have lu:(X.env.scope.kind == .class||(X.env.scope.kind == .module&&X.env.locals != X.env.globals))=aj:=by rw[I.ok.kind];rfl
 have r:i<a.length:=(bY.mp O).1;obtain⟨u,_,lk⟩:=S i x v T O (.inl G);have hm:m x=aa u:=by
  rcases lk with⟨_,z⟩|⟨z,_⟩
  .exact z
  .have z:X.env.scope.names.lookup x=aa .cell\/X.env.scope.names.lookup x=aa .free:=z;rcases z with z|z <;> rw[G]at z <;> cases z
 refine wpAny_unbindName_local G P hm lu λh' u' F l=>?_;obtain⟨oL,_,_,kH,_⟩:=id P;have D:∀b o,X.s₀.heap.get? b=aa o->h'.get? b=s.heap.get? b:=λb o e=>l.2 b (gh (gJ (bM e) I.ok.above));refine h _ ⟨I.ok,I.os,I.bare,⟨λb o e n K g=>(D b o e).trans (I.base.keep b o e n K g),λb o e n K g=>?_,I.base.free,λb o e g=>?_,I.base.tups,I.base.frzs,I.base.tbls⟩,⟨_,F,λj y Y W C e3=>?_⟩,λy c e=>?_,I.free,I.freeC,λp hp=>?_,λb ob e=>?_,by rw[dX];exact I.len⟩
 .obtain⟨Z,q⟩:=I.base.slot b o e n K g;exact⟨Z,(D b o e).trans q⟩
 .obtain⟨o',q⟩:=I.base.there b o e g;exact⟨o',(D b o e).trans q⟩
 .by_cases J:j=i
  .subst J;rw[cR r]at C;cases C
  .rw[b9 (cX J)]at C;obtain⟨w,r',q⟩:=S j y Y W C e3;refine⟨w,r',?_⟩;rcases q with⟨k,e⟩|⟨k,c,e,z⟩
   .have:y≠x:=λe=>J (vx hN W (e ▸ T));exact .inl ⟨k,by simp[this,e]⟩
   .exact .inr ⟨k,c,e,z.sameBut l (I.cne y c e)⟩
 .obtain⟨L,z⟩:=I.cell y c e;exact⟨L,z.sameBut l (I.cne y c e)⟩
 .obtain⟨e,n,N,nf,d⟩:=I.pin p hp;exact⟨(l.2 p.1 N).trans e,n,N,nf,d⟩
 .refine(I.hok b ob e).stay (λc L B q=>(l.2 c ?_).trans q) (λ_ q=>q) λ_ _ q=>q;rintro rfl;rcases B with rfl|B
  .rw[I.free]at e;cases e
  .rw[I.free]at B;cases B
end
def XP(X:Cx)(g:List (af×Obj))(d:St)(h:ai->Hp->Prop)(e:ai)(f:ao):Prop:=∃a b,Inv X g d b a/\cx X.prog X.w X.stack b a (λc _ i=>h c i) e f
def DX(X:Cx)(e:aA)(d:ak->R Slot):Prop :=
 ∀F S h a H Q (i:ai->Hp->Prop),aG X.K F S h a H->Ok X.K (λc _ f=>i c f) a F S H (d h) (λs _ l m f=>∀v j,k7 X.K f l s v j->(∀b,j b->H b=ag/\¬l b/\¬U m b/\∃o,f b=aa o/\dy o)->Q v f) ->
  ∀g s,Inv X g a H s->aC (ay X.prog X.w) X.A (bi e X.env) (EP X g a Q) (XP X g a i) s
section
variable{X:Cx}{e:aA}{a:List aA}{l:ak->R (List cA)}{j:Pos}{x:Str}{k:Nat}{m:List Str}{g:ak->R Slot}{p:Pos}{d:ak->R Slot}
def tP(g:ak->R Slot)(l:ak->R (List cA)):ak->R Slot:=λf=>(bL (l f)).bind λc b=>(a_ (if(cB c).Nodup then eO b c else ag) b).bind λh b=>gX b c (g h)
theorem EK(c:c_ (cx X.prog X.w) X.prog X.w X.K X.mg X.base x k m (bS X.K g))(hr:fc k X.A)(ha:DG X.nox E0 (e::a) l)(hg:Gl X x:=by rfl)(hd:(x==("__debug__":Str))=aj:=by decide) (h1:aR (e::a) X.env=(aj,bi e X.env)::aR a X.env:=by rfl) (h2:(cS j (aR a X.env)).any (·.1)=aj:=by rfl):DX X (.Call (.Name x p) (e::a) [] j) (tP g l):=λF S ε N H Q XE rl h ae s I=>by
 obtain⟨f,fd,hm,Fn,hb,hk⟩:=c.ex;have q0:Ok X.K E0 N F S H (l ε) (λA n D E C=>Ok X.K (λc _ B=>XE c B) N D E C ((a_ (if(cB A).Nodup then eO n A else ag) n).bind λO n=>gX n A (g O)) (λs _ G Z B=>∀v L,k7 X.K B G s v L->(∀b,L b->H b=ag/\¬G b/\¬U Z b/\∃o,B b=aa o/\dy o)->Q v B)):=by
  unfold tP at h;cases e0:l ε with
  |no=>rw[e0]at h;exact h.elim
  |er c ε'=>rw[e0]at h;exact h.elim
  |ok A n=>rw[e0]at h;exact λD E C J g1=>Ok.from h g1
 refine uG (ph I hg hm ?_ hd);have wa:=(ha F S ε N H (λP C=>∃D E n A,aG X.K D E n N C/\iQ X.K N D C A P/\(∀b,C b=ag->H b=ag)/\Ok X.K (λc _ B=>XE c B) N D E C ((a_ (if(cB A).Nodup then eO n A else ag) n).bind λO n=>gX n A (g O)) (λs _ G Z B=>∀v L,k7 X.K B G s v L->(∀b,L b->H b=ag/\¬G b/\¬U Z b/\∃o,B b=aa o/\dy o)->Q v B)) rl (q0.imp λA n D E C J g1 q P Y=>⟨D,E,n,A,J,Y,λb z=>mJ g1 z,q⟩)).run j ae s (I.wish _);refine Cu (h₀:=X.base) I.ok.mod.kin hk (fj wa (λus s1 ⟨P,C,M,r,D,E,n,A,J,Y,fb,q⟩=>⟨M.unwish.kIn,?_⟩) λ_ _ z=>z.elim) h1 h2;have M:=M.unwish;have q:=Ok.bind q;by_cases T:(cB A).Nodup
 .rw[if_pos T]at q;cases a:eO n A with
  |none=>rw[a]at q;exact q.elim
  |some O=>
   rw[a]at q;have q:=q D E C J (Grow.refl ..);dsimp only at q;have gq:bS X.K g P C Q (λc _ B=>XE c B):=by
    refine⟨D,kn A E,O,J.cal Y a T,?_⟩;cases eg:g O with
    |no=>rw[eg]at q;exact q.elim
    |er cv aP=>
     rw[eg]at q;intro y G Z B r' g';unfold gX at q;dsimp only at q;by_cases K:gH A aP=ah
     .rw[if_pos K]at q;obtain⟨S2,r2,g2,_⟩:=J.called Y a T r' g' (λ_ z=>z) (lO K);exact q ag G S2 B r2 g2
     .rw[if_neg K]at q;exact q.elim
    |ok sl aP=>
     rw[eg]at q;intro v G Z B L r' g' rv lo fr;unfold gX at q;dsimp only at q;by_cases K:gH A aP=ah
     .rw[if_pos K]at q;obtain⟨S2,r2,g2,u2⟩:=J.called Y a T r' g' (λ_ z=>.inl z) (lO K);refine q G S2 B r2 g2 v L rv λb z=>⟨fb b (fr b z),(lo b z).1,λw=>?_,(lo b z).2.2⟩
      rcases u2 b w with w|⟨i,w⟩
      .exact(lo b z).2.1 w
      .obtain⟨_,_,o,y1,_⟩:=J.foot i b w;rw[fr b z]at y1;cases y1
     .rw[if_neg K]at q;exact q.elim
   have hl:us.length=m.length:=by rw[<-r.length];exact Fn.len _ _ _ _ gq
   refine wpAny_call (rz (Fn.run X.A X.stack s1 C ⟨us,[]⟩ us P Q _ hr M.env0 (by have:=hb s1 us M.kIn (by rw[i_];exact hl);rwa[i_]at this) r gq) λrr s' W=>?_);cases rr with
   |error er=>exact⟨s1,C,M,W⟩
   |ok fl=>
    cases fl with
    |ret u=>exact M.after W
    |next=>exact gj W
    |brk=>exact gj W
    |cont=>exact gj W
 .rw[if_neg T]at q;exact q.elim
end
abbrev hand(X:Cx)(a:af):Cx:={X with A:=X.A.mark (aa (.ref a)),calm:=aj,xe:=λ_ _=>False}
section
variable{X:Cx}{c:List (af×Obj)}{b:St}{H:Hp}{s:ao}{a:af}
theorem Inv.hand(I:Inv X c b H s)(d:(X.A.mark (aa (.ref a))).frames=X.A.frames:=by rfl):Inv (Pu.hand X a) c b H s :=
 ⟨⟨I.ok.mod,I.ok.kind,I.ok.glob,I.ok.blt,I.ok.above,I.ok.inj,I.ok.has,I.ok.cab,(λz=>by cases z),d.trans I.ok.frames,I.ok.stk,I.ok.exf,I.ok.bs,I.ok.bsz,I.ok.noex,I.ok.exfs,I.ok.funs,I.ok.frf,I.ok.tab⟩,I.os,I.bare,I.base,I.loc,I.cell,I.free,I.freeC,I.pin,I.hok,I.len⟩
theorem Inv.unhand(I:Inv (Pu.hand X a) c b H s)(ok:X.Ok):Inv X c b H s:=⟨ok,I.os,I.bare,I.base,I.loc,I.cell,I.free,I.freeC,I.pin,I.hok,I.len⟩
end
def Under(h:aB)(D:af)(c:ai):Prop:=∃C f N i q bs b g d r e p o n m l j a,c=.ref C/\h.get? C=aa (yj i q C N bs f b g d r e p o n m l j a)/\(Value.ref C::f).contains (.ref D)=ah
def m_(h:aB)(D:af):Prop:=∃e N g q bs b f c p d o n m l j i a,h.get? D=aa (yj g q D N bs e b f c p d o n m l j i a)/\e.contains (.type "BaseException")=ah
theorem Under.keeps{h d:aB}{D:af}{c:ai}(x:Under h D c)(k:∀b o,h.get? b=aa o->d.get? b=aa o):Under d D c:=by obtain⟨C,bm,N,nm,q,bs,hdct,sn,sub,ab,col,dd,k0,k1,k2,k3,k5,a,e,g,f⟩:=x;exact⟨C,bm,N,nm,q,bs,hdct,sn,sub,ab,col,dd,k0,k1,k2,k3,k5,a,e,k _ _ g,f⟩
theorem m_.keeps{h c:aB}{D:af}(x:m_ h D)(k:∀b o,h.get? b=aa o->c.get? b=aa o):m_ c D:=by obtain⟨bm,N,nm,q,bs,hdct,sn,sub,ab,col,dd,k0,k1,k2,k3,k5,a,e,d⟩:=x;exact⟨bm,N,nm,q,bs,hdct,sn,sub,ab,col,dd,k0,k1,k2,k3,k5,a,k _ _ e,d⟩
theorem Ej{M:Model}{A:aV}{E:ai->ao->Prop}{s:ao}{e D:af}{o:Obj}{c:ai}{Q:Bool->ao->Prop}(I:Under s.heap D c)(b:m_ s.heap D)(K:s.heap.get? e=aa o)(y:o.cls=c)(J:Q ah s):aC M A (excMatches (.ref e) (.ref D)) Q E s:=by
 obtain⟨C,bm,N,nm,q,bs,p,X,v,ab,S,dd,k0,k1,k2,k3,k5,i,rfl,r,O⟩:=I;obtain⟨m,N',x,Y,T,j,w,n,W,u,P,H,G,F,B,z,a,b,L⟩:=b;obtain⟨h,g,d,t,Z⟩:=s;have l:(Value.ref D::m).contains (.type "BaseException")=ah:=by rw[List.contains_cons,L,Bool.or_true]
 have f:=tc_notTuple;unfold excMatches
 repeat (first | (with_reducible refine CK K ?_;rw[y])|with_reducible refine CK r ?_|with_reducible refine CK b ?_ | (with_reducible refine wpAny_isSubtype_exc r ?_;rw[O]) | (with_reducible refine wpAny_isSubtype_exc b ?_;rw[l])|wp_step)
 exact J
def qL(i:Nat)(b:ai->Bool)(g:ak->R Slot)(h:ak->R aL):ak->R aL:=λe=>match g e with
 |.ok s a=>.ok (.ret s) a
 |.er c a=>if b c=ah/\i<a.length then(match h (a.set i (.val (.exc c)))with
  |.ok f d=>(match d[i]? with
   |some (.val _)=>.ok f (d.set i .none)
   |_=>.no)
  |_=>.no)else .no
 |.no=>.no
section
variable{X:Cx}{E:XK}{pin:List Nat}{e:aA}{A:ak->R Slot}{B:ak->R aL}{J L G C:Pos}{x n:Str}{D:af}{l:List bf}{m:bf}{g:ai->Bool}
theorem aG.unset{K:ar}{F:af->Prop}{S:Nat->af->Prop}{a:ak}{h:St}{H:Hp}{i:Nat}(r:aG K F S a h H):aG K F (λj b=>S j b/\j≠i) (a.set i .none) (h.set i ag) H:=by
 have c:=r.drop i;have o:∀{j:Nat}{s:Slot},(a.set i .none)[j]?=aa s->s≠.none->j≠i:=λ{j s} e q z=>by
  subst z;by_cases u:j<a.length
  .rw[cR u]at e;exact q (cp e).symm
  .rw[yg (by rw[dX];lia)]at e;cases e
 refine⟨by rw[dX,dX];exact r.len,r.ex,λj pv e=>?_,λj p e=>?_,c.foot,c.dist⟩
 .obtain⟨v,f,d⟩:=c.val j pv e;exact⟨v,by rw[b9 (cX (o e (by intro z;cases z)))];exact f,d⟩
 .obtain⟨v,f,d⟩:=c.own j p e;exact⟨v,by rw[b9 (cX (o e (by intro z;cases z)))];exact f,d⟩
theorem JM{P:aT}{w:aK}{H:Hp}{h:aB}{a T:af}{c I:ai}(ok:cG P w H h)(j:H a=ag)(f:jG h a T c I):cG P w (upd H a (im a c)) h:=λb u q=>by
 by_cases r:b=a
 .subst r;rw[upd_same]at q;cases q;obtain⟨i,v,_,_,p,F,y,_⟩:=f;exact⟨⟨i,v,p,F,y⟩,⟨i,p⟩,λQ O ⟨o,s,N,M,K⟩ k=>⟨o,s,k o N,M,K⟩⟩
 .rw[bd r]at q;exact(ok b u q).stay (λ_ _ _ z=>z) (λd z=>by rw[bd (kU z j)];exact z) λd xs z=>by rw[bd (kU z j)];exact z
def B_(X:Cx)(r:List bf)(d:ak->R Slot):Prop :=
 ∀F S i a H Q (j:ai->Hp->Prop),aG X.K F S i a H->Ok X.K (λc _ f=>j c f) a F S H (d i) (λs _ q y f=>∀v p,k7 X.K f q s v p->(∀b,p b->H b=ag/\¬q b/\¬U y b/\∃o,f b=aa o/\dy o)->Q v f) ->
  ∀h s,Inv X h a H s->aC (ay X.prog X.w) X.A (execs r X.env) (λw s'=>∃u,w=.ret u/\EP X h a Q u s') (XP X h a j) s
theorem JG(d:DX X e A):B_ X [.Return (aa e) J] A:=λF S b a H Q i c h f s I=>Cs (wpAny_Return_some (fj (d F S b a H Q i c h f s I) (λu j q=>⟨u,rfl,q⟩) λ_ _ q=>q))
theorem E7{ss:List bf}(i:Nat)(hN:X.N.Nodup)(hx:B_ X ss A)(hD:X.mg x=aa (.ref D))(hE:m_ X.base D)(hcg:∀c,g c=ah->Under X.base D c)(hh:∀a,fX (hand X a) E0 pin (m::l) B)(dr:i∉pin:=by decide) (hi:X.N[i]?=aa n:=by rfl) (hl:X.env.scope.names.lookup n=aa .local:=by rfl) (hg:Gl X x:=by rfl) (hd:(x==("__debug__":Str))=aj:=by decide) (d9:X.stack=X.env::X.outer:=by rfl) (hfm:X.env.frame=aa X.env.locals:=by rfl) (hf:X.fn n=ah\/X.env.scope.names.lookup n=aa .local:=by first|exact .inl rfl|exact .inr rfl):DS X E pin (.Try ss [.ExceptHandler (aa (.Name x L)) (aa n) (m::l) G] [] [] C) (qL i g A B):=λF S ε σ H Dn rl q=>Bx.mk λae s I=>by
 refine wpAny_Try_except ?_;have body:=hx F S ε σ H (λv r=>Dn.rt v r) (λc r=>∃K W N,aG X.K K W N σ r/\Grow (U S) (U W) F K H r/\g c=ah/\i<N.length/\hZ X.K E pin σ F S H (match B (N.set i (.val (.exc c)))with
  |.ok f ε2=>(match ε2[i]? with
   |some (.val _)=>.ok f (ε2.set i .none)
   |_=>.no)
  |_=>.no) Dn) rl (by
  unfold qL at q;cases e0:A ε with
  |no=>rw[e0]at q;exact q.elim
  |ok sl N=>rw[e0]at q;intro K W r r' O v Sr rv fr;exact q v K W σ r Sr r' ⟨O.fro,O.keep,O.there,O.fnew,λb z=>z.elim (O.onew b) λw=>.inr (fr b w).1⟩ (gv.refl _ _) rv λb z=>(fr b z).2
  |er c N=>
   rw[e0]at q;intro y K W r r' O;dsimp only at q;by_cases hc:g c=ah/\i<N.length
   .rw[if_pos hc]at q;exact⟨K,W,N,r',O,hc.1,hc.2,q⟩
   .rw[if_neg hc]at q;exact q.elim) ae s I
 refine fj body (λfl Z ⟨u,efl,v,H1,I1,r1,q1⟩=>?_) λev Z xp=>?_
 .subst efl;exact⟨v,σ,H1,I1,r1,q1⟩
 obtain⟨s0,H0,I0,a,T,c,H1,rfl,ho,r_,un,hok,fl,⟨fa,fT,na,nT⟩,F1,S1,ε1,rl1,g1,hcc,c8,h⟩:=xp;have I1:=I0.call' (s':=Z) (ch:=[]) ho un hok r_ (λb z=>absurd z (by simp));have kpI:∀{h2:aB}{Y:af->Prop}{T':af},Kp (eL X.stack) Y Z.heap h2->(∀b o,s0.heap.get? b=aa o->¬Y b)->(∀b,Y b->H1 b=ag)->jG h2 a T' c .none->∀tk,Inv X ae σ (upd H1 a (im a c)) {Z with heap:=h2,toks:=tk}:=λ{h2 Y T'} k hY1 hY2 f2 tk=>by
  refine I0.call' (s':={Z with heap:=h2,toks:=tk}) (ch:=[]) ho ?_ (JM (wm hok k (λb hb=>I1.stkFree b hb) hY2) na f2) r_ (λb z=>absurd z (by simp));have u2:=xj un k (λb o _ z=>z) hY1;have na':∀b o,H1 b=aa o->b≠a:=λb o e=>kU e na;refine⟨u2.keep,u2.slot,λb o e n hx=>?_,u2.there,λb xs e=>?_,λb o u e=>?_,λb ps e=>?_⟩
  .rw[bd (by rintro rfl;rw[fa]at e;cases e)];exact u2.free b o e n hx
  .have:=u2.tups b xs e;rw[bd (na' b _ this)];exact this
  .have:=u2.frzs b o u e;rw[bd (na' b _ this)];exact this
  .have:=u2.tbls b ps e;rw[bd (na' b _ this)];exact this
 have H1T:∀b,b=a\/b=T->H1 b=ag:=λb z=>by rcases z with rfl|rfl <;> assumption
 have old1:∀b o,s0.heap.get? b=aa o->¬(b=a\/b=T):=λb o e z=>by
  rcases z with rfl|rfl
  .rw[fa]at e;cases e
  .rw[fT]at e;cases e
 refine A2 (outer:=X.outer) (by rw[I0.ok.frames,d9]) (by rw[<-d9];exact I1.stack) hfm fl λh2 T' k fl2 fT'=>?_;rw[<-d9]at k;have I2:=kpI k old1 H1T fl2 Z.toks;refine wpAny_handleBy_cons (codeAny_handlers_test ?_) (by intro z;cases z);have I2h:Inv (hand X a) ae σ (upd H1 a (im a c)) {Z with heap:=h2}:=Inv.hand I2;refine ph (X:=hand X a) I2h hg hD ?_ hd;obtain⟨oe,vs,oT,ts,he2,K_,_⟩:=id fl2;refine Ej (s:={Z with heap:=h2}) ((hcg c hcc).keeps I2.bk) (hE.keeps I2.bk) he2 K_ ?_;show l0 _ _ _ _ _;refine codeAny_handlers_suite_as (Jt (s:={Z with heap:=h2}) fl2 λh3 k3 fl3=>?_);have k':Kp (eL X.stack) (λb=>(b=a\/b=T)\/b=T') Z.heap h3:=k.trans (k3.imp (λb z=>by simp at z) λb o _ z=>z);have I3:=kpI (T':=T') k' (λb o e z=>by
  rcases z with z|rfl
  .exact old1 b o e z
  .rw[o8 un (xN fT')]at e;cases e) (λb z=>by
  rcases z with z|rfl
  .exact H1T b z
  .exact I1.hok.fresh fT') fl3 Z.toks
 have I3h:Inv (hand X a) ae σ (upd H1 a (im a c)) {Z with heap:=h3}:=Inv.hand I3;refine tU (X:=hand X a) (v:=.ref a) I3h hN hi (.inl hl) rfl (λs4 I4=>?_) hf;have al:Al F1 F1 H1 (upd H1 a (im a c)):=Al.new0 na;have r2:=rl1.al al;have r3:=r2.set (i:=i) (pv:=.exc c) (v:=.ref a) ⟨a,rfl,upd_same⟩;have g3:Grow (U S) (U λj b=>S1 j b/\j≠i) F F1 H (upd H1 a (im a c)):=(g1.trans al.grow).trans (Grow.less i);have less:∀{W:Nat->af->Prop}{K:af->Prop}{r:Hp},Grow (U W) (U λj b=>W j b/\j≠i) K K r r:=λ{W K r}=>Grow.less i;have pn:∀{d:St},gv pin (σ.set i (aa (.ref a))) d->gv pin σ (d.set i ag):=λ{d} p=>((gv.set dr).trans p).trans (gv.set dr);have okd:hZ (hand X a).K E0 pin (σ.set i (aa (.ref a))) F1 (λj b=>S1 j b/\j≠i) (upd H1 a (im a c)) (B (ε1.set i (.val (.exc c)))) {nx:=λd r=>Dn.nx (d.set i ag) r,rt:=Dn.rt,bk:=λd r=>Dn.bk (d.set i ag) r,ct:=λd r=>Dn.ct (d.set i ag) r}:=by
  cases ed:B (ε1.set i (.val (.exc c)))with
  |no=>rw[ed]at h;exact h.elim
  |er c' ε2=>rw[ed]at h;exact h.elim
  |ok f ε2=>
   rw[ed]at h;dsimp only at h;split at h
   .cases f with
    |next=>exact λK W d r r' O p'=>h K _ _ r r'.unset ((g3.trans O).trans less) (pn p')
    |brk=>exact λK W d r r' O p'=>h K _ _ r r'.unset ((g3.trans O).trans less) (pn p')
    |cont=>exact λK W d r r' O p'=>h K _ _ r r'.unset ((g3.trans O).trans less) (pn p')
    |ret sl=>
     intro v K W d r Sr r' O p' rv lo;refine h v K _ _ r Sr r'.unset ?_ (pn p') rv λb z=>⟨(lo b z).1,λ⟨j,w⟩=>(lo b z).2.1 ⟨j,w.1⟩,(lo b z).2.2⟩
     have gg:=g3.trans O;exact⟨gg.fro,gg.keep,gg.there,gg.fnew,λb z=>gg.onew b (z.imp (λ⟨j,w⟩=>⟨j,w.1⟩) id)⟩
   .exact h.elim
 refine fj ((hh a F1 _ _ _ _ _ r3 okd).run ae s4 I4) (λf s5 sp=>?_) λ_ _ z=>z.elim;have P:∀{M:St}{H5:Hp}{Q:Unit->ao->Prop},Inv (hand X a) ae M H5 s5->(∀s6,Inv X ae (M.set i ag) H5 s6->Q () s6)->aC (ay X.prog X.w) X.A (do bindName X.env n .none;unbindBehindTheSuite X.env n G) Q X.xe s5:=λ{M H5 Q} I5 hQ=>by
  have I5':=Inv.unhand I5 I0.ok;refine az (wpAny_bindName (tU (v:=.non) I5' hN hi (.inl hl) rfl (λs6 I6=>?_) hf));unfold unbindBehindTheSuite;refine wpAny_onRaise ?_;have hiσ:i<M.length:=by rw[I5'.len];exact(bY.mp hi).1
  refine Fw I6 hN hi hl (cR hiσ) λs7 I7=>hQ s7 ?_;rw[List.set_set]at I7;exact I7
 cases f with
 |next=>obtain⟨M,H5,I5,q5⟩:=sp;exact P I5 λs6 I6=>⟨_,H5,I6,q5⟩
 |brk=>obtain⟨M,H5,I5,q5⟩:=sp;exact P I5 λs6 I6=>⟨_,H5,I6,q5⟩
 |cont=>obtain⟨M,H5,I5,q5⟩:=sp;exact P I5 λs6 I6=>⟨_,H5,I6,q5⟩
 |ret u=>obtain⟨v,M,H5,I5,rv,q5⟩:=sp;exact P I5 λs6 I6=>⟨v,_,H5,I6,rv,q5⟩
theorem FX(i:Nat)(s:X.N.Nodup)(f:DX X e A)(v:X.mg x=aa (.ref D))(u:m_ X.base D)(d:∀c,g c=ah->Under X.base D c)(o:∀a,fX (hand X a) E0 pin (m::l) B)(w:i∉pin:=by decide) (j:X.N[i]?=aa n:=by rfl) (h:X.env.scope.names.lookup n=aa .local:=by rfl) (p:Gl X x:=by rfl) (r:(x==("__debug__":Str))=aj:=by decide) (y:X.stack=X.env::X.outer:=by rfl) (b:X.env.frame=aa X.env.locals:=by rfl) (q:X.fn n=ah\/X.env.scope.names.lookup n=aa .local:=by first|exact .inl rfl|exact .inr rfl):DS X E pin (.Try [.Return (aa e) J] [.ExceptHandler (aa (.Name x L)) (aa n) (m::l) G] [] [] C) (qL i g A B):=E7 i s (JG f) v u d o w j h p r y b q
end
structure jk(k:Nat)(A:aV):Prop where
 dp:A.depth+3*k+5<recursionLimit
 un:A.units+16*k+200<cLine
theorem fc.hand{k:Nat}{A:aV}{v:Option ai}(r:fc k A):jk k (A.mark v):=⟨r.dp,r.un⟩
theorem jk.mono{j k:Nat}{A:aV}(r:jk k A)(h:j<=k):jk j A:=⟨by have:=r.dp;lia,by have:=r.un;lia⟩
theorem jk.deeper{k:Nat}{A:aV}(r:jk (k+1) A)(a:Env):jk k (A.deeper a) :=⟨by have:=r.dp;show A.depth+1+3*k+5<_;lia,by have:=r.un;show A.units+3+16*k+200<_;lia⟩
theorem jk.units{k:Nat}{A:aV}(r:jk k A):A.units+64<cLine:=by have:=r.un;lia
def q_(P:aT)(w:aK)(K:ar)(e:Str->Option ai)(d:aB)(N:List Str)(c:Str)(a:dD)(f:af)(g:ai)(A:aV)(b:List Env)(s:ao)(H:Hp):Cx :=
 {(io vV P w K e d N c a f g A b s H E0)with calm:=aj,xe:=λ_ _=>False}
structure vG(P:aT)(w:aK)(K:ar)(mg:Str->Option ai)(base:aB)(k:Nat)(f:af)(fd:gi)(ps:List Str)(sp:Sp):Prop where
 len:∀vs H Q E,sp vs H Q E->vs.length=ps.length
 run:∀(A:aV) (outer:List Env) (s:ao) (H:Hp) (args:Args) (us:List ai) (vs:List V) (Q:VK),jk k A->oE P w K mg base A outer s H->BindsTo s fd args (ps.zip us)->bv vs us->sp vs H Q E0 ->
  l0 (ay P w) A (.call (.ref f) args) (CR vV outer P w H s Q E0) s
structure tf(P:aT)(w:aK)(K:ar)(mg:Str->Option ai)(base:aB)(x:Str)(k:Nat)(ps:List Str)(sp:Sp):Prop where
 ex:∃f fd,mg x=aa (.ref f)/\vG P w K mg base k f fd ps sp/\Binds K fd ps []/\nt K (.ref f)=ah
theorem FD{P:aT}{w:aK}{K:ar}{F:Str->Option ai}{h:aB}{k:Nat}{f:af}{B g:Str}{i:Arguments}{l:List bf}{a:dD}{dV kV M pm C ct oc:ai}{an od:Option af}{Z:Array (Option ai)}{N O:List Str}{T:Sp} (lk:K.lookup f=aa ⟨oc,od,.func (ik B g i l a dV kV M pm an C ct),Z⟩) (br:rD K C g=ah) (S:ce N O a)(len:∀p H Q E,T p H Q E->p.length=O.length)(gM:∀(A:aV) (c:List Env) (s:ao) (H:Hp) (p:List V) (Q:VK),jk k (A.deeper (ix g a s.heap.objs.size f C))->T p H Q E0 -> lM (q_ P w K F h N g a f C A c s H) l {nx:=λ_ D=>Q .non D,rt:=Q} (L2.start N p) H):vG P w K F h (k+1) f (ik B g i l a dV kV M pm an C ct) O T:=by
 refine⟨len,λA c s H args us p Q hr j hb r gq=>?_⟩;have hl:=len _ _ _ _ gq;have KX:K.In s.heap:=j.mod.kin.keeps λb o e=>(j.bs b o e).1;have lim:s.heap.NoLimit:=j.mod.nolimit.keeps λb o e=>(j.bs b o e).1;have yI:∀y∈O.zip us,a.names.lookup y.1=aa .local\/(a.names.lookup y.1=aa .cell/\((eE (s.heap.objs.size+1) a.names []).lookup y.1).isSome=ah):=λ⟨n,v⟩ hy=>(S.par n (rA hy).1).imp id λq=>⟨q,Cv _ _ _ (.inl q)⟩
 refine codeAny_call_function (by have:=hr.dp;lia) (KX _ _ lk) rfl S.co S.gen rfl (PySem.W.codeRec_of KX br) (hb _ _ _ _ ?_);refine wpAny_newFunctionEnv_cells S.kind yI λenv he W x=>?_;subst he;refine⟨lim.keeps x.toInCall.keep,codeAny_func ?_⟩;have e1:oE P w K F h {A with handled:=ag} c s H:=⟨j.frames,j.mod,j.bs,j.bsz,j.funs,j.frf,j.hok,j.bare,j.tab⟩
 have d:Inv (io vV P w K F h N g a f C {A with handled:=ag} c s H E0) [] (L2.start N p) H W:=Ax S rfl e1 hl r x;have I:Inv (q_ P w K F h N g a f C A c s H) [] (L2.start N p) H W :=
  ⟨⟨d.ok.mod,d.ok.kind,d.ok.glob,d.ok.blt,d.ok.above,d.ok.inj,d.ok.has,d.ok.cab,(λz=>by cases z),Around.frames_deeper j.frames,d.ok.stk,d.ok.exf,d.ok.bs,d.ok.bsz,d.ok.noex,d.ok.exfs,d.ok.funs,d.ok.frf,d.ok.tab⟩,d.os,d.bare,d.base,d.loc,d.cell,d.free,d.freeC,d.pin,d.hok,d.len⟩
 refine fj ((gM A c s H p Q (hr.deeper _) gq).run [] W I) (λfl X G=>?_) λe X G=>G.elim;have L:∀{m:St}{D:Hp}{v:V}{u:ai},Inv (q_ P w K F h N g a f C A c s H) [] m D X->RelV v u->Q v D->CE c P w H s Q u X:=λ{m D v u} J Y q=>⟨v,D,J.os,J.bare,J.base,J.hok,Y,q⟩
 cases fl with
 |ret u=>obtain⟨v,m,D,J,Y,q⟩:=G;exact L J Y q
 |next=>obtain⟨m,D,J,q⟩:=G;exact L (v:=V.non) (u:=Value.none) J rfl q
 |brk=>obtain⟨_,_,_,q⟩:=G;exact gj q
 |cont=>obtain⟨_,_,_,q⟩:=G;exact gj q
theorem Dd{P:aT}{w:aK}{K:ar}{u:Str->Option ai}{j:aB}{x:Str}{c:bf}{N l:List Str}{k n:Nat}{g:ak->R Slot}{d:ak->R aL}{p:List Nat}(D:cM K u x c)(Y:ce N l (ba c))(J:N.length=l.length+n)(O:∀(kV q y:ai) (E:Option af) (o B:ai) (r:List ai),r.length=l.length->fk (ik x x (iU c) (fi c) (ba c) .none kV q y E o B) ⟨r,[]⟩=pure (l.zip r))(C:∀b,g b≠.no->b.length=l.length) (z:∀b,g b≠.no->∀(i:Nat) m,b[i]?=aa (.own m)->i∈p/\gz m=ah) (M:∀b,g b≠.no->bN n d b=g b)(T:∀(f:af) (o:ai) (A:aV) (a:List Env) (s:ao) (H:Hp),jk k (A.deeper (ix x (ba c) s.heap.objs.size f o))->fX (q_ P w K u j N x (ba c) f o A a s H) E0 p (fi c) d):tf P w K u j x (k+1) l (bS K g):=by obtain⟨f,W,L,v⟩:=D.ex;refine⟨f,W,L,?_,v.binds O,v.kp⟩;obtain⟨oc,od,kV,q,y,E,o,B,F,rfl,G,X⟩:=v.ex;exact FD G X Y (zw C) λA a s H Z Q I S=>B7 J C (λb h i m e=>(z b h i m e).1) (λb rs aP h=>.inr λi m e=>(z b (by rw[h];exact nofun) i m e).2) M (T f o A a s H I) S
section
variable{X:Cx}{E:XK}{e:aA}{d:List aA}{j:ak->R (List cA)}{b:Pos}{x:Str}{k:Nat}{i:List Str}{g:ak->R Slot}{p:Pos}
theorem Im{f:af}{y:gi}{v:Sp}{t:TA}(z:vG X.prog X.w X.K X.mg X.base k f y i v)(B:jk k X.A)(G:Gl X x)(C:X.mg x=aa (.ref f))(F:nt X.K (.ref f)=ah)(L:Binds X.K y i [])(M:PA X (e::d) t) (K:(x==("__debug__":Str))=aj) (J:aR (e::d) X.env=(aj,bi e X.env)::aR d X.env) (O:(cS b (aR d X.env)).any (·.1)=aj):PE X (.Call (.Name x p) (e::d) [] b) (λm H Q=>t m H λn o=>v n o Q E0):=λP s m H Q I h=>by
 refine uG (ph I G C ?_ K);refine Cu (h₀:=X.base) I.ok.mod.kin F (a6 (M b P s m H _ I h) λc w ⟨n,o,l,r,q⟩=>⟨l.kIn,?_⟩) J O;have D:c.length=i.length:=by rw[<-r.length];exact z.len _ _ _ _ q
 refine wpAny_call (rz (z.run X.A X.stack w o ⟨c,[]⟩ c n Q B l.env0 (by have:=L w c l.kIn (by rw[i_];exact D);rwa[i_]at this) r q) λA S a=>?_);cases A with
 |error er=>exact(show False from a).elim
 |ok N=>
  cases N with
  |ret u=>exact l.after a
  |next=>exact gj a
  |brk=>exact gj a
  |cont=>exact gj a
theorem Dc{n m:Type}{K:ar}{E o:XK}{c:St}{F:af->Prop}{S:Nat->af->Prop}{H:Hp}{C:m->ak->(af->Prop)->(Nat->af->Prop)->Hp->Prop}{r:R n}{f:n->ak->R m}(h:Ok K E c F S H (bL (r.bind f)) C):Ok K E c F S H r λa l F S H=>Ok K o c F S H (f a l) C:=by
 cases r with
 |ok a l=>
  intro w u v s q;have h:Ok K E c F S H (bL (f a l)) C:=h;cases e:f a l with
  |ok=>rw[e]at h;exact Ok.from (E:=o) h q
  |_=>rw[e]at h;exact h.elim
 |_=>exact h.elim
theorem Hb(c:tf X.prog X.w X.K X.mg X.base x k i (bS X.K g))(r:jk k X.A)(z:DG X E (e::d) j)(v:Gl X x:=by rfl)(w:(x==("__debug__":Str))=aj:=by decide) (B:aR (e::d) X.env=(aj,bi e X.env)::aR d X.env:=by rfl) (A:(cS b (aR d X.env)).any (·.1)=aj:=by rfl):DR X E (.Call (.Name x p) (e::d) [] b) (λa=>bL (a8 g j a)):=λF S a l H Q n h=>by obtain⟨f,J,s,G,y,u⟩:=c.ex;exact bX (Im G r v s u y iY w B A) (z F S a l H _ n ((Dc h).imp λK m N L M o C q I D=>Bn o C D q))
end
structure lR(K:ar)(C:af):Prop where
 ga:nr K (.ref C) "__getattribute__"=aa (aa (.builtin "BaseException.__getattribute__"))
 gt:nr K (.ref C) "__getattr__"=aa ag
 cl:nr K (.ref C) "__class__"=aa (aa (.builtin "object.__class__"))
 gs:Ct K (.builtin "object.__class__") "__get__"=aa (aa (.builtin "getset_descriptor.__get__"))
 tk:PySem.W.takesIn K (.builtin "object.__class__")=aa ah
 ob:uF K C (.type "object")=aa ah
 be:uF K C (.type "BaseException")=aa ah
 cs:(yk K C).isSome=ah
section
variable{b:aT}{w:aK}{A:aV}{E:ai->ao->Prop}{K:ar}{h:aB}{g:Array GenState}{d:Drawn}{t:Nat}{c:OsState}{a C:af}{o:Obj}
theorem Jo{M:Model}{e:ai}{Q:Unit->ao->Prop}(X:K.In h)(k:lR K C)(I:rq h a o C ag)(i:Q () ⟨h,g,d,t,c⟩):aC M A (checkBuiltinCall "BaseException.__getattribute__" ⟨[.ref a,e],[]⟩) Q E ⟨h,g,d,t,c⟩:=by
 have j:builtinKind "BaseException.__getattribute__"=aa .slot:=by decide +kernel
 have m:splitId "BaseException.__getattribute__"=aa ("BaseException","__getattribute__"):=by decide +kernel
 have n:=F.args_bexc_ga (.ref a) e;have l:=I.type (M:=M);have f:=PySem.W.looks_mroIn (M:=M) X k.be;simp only[checkBuiltinCall,j,m];refine az ?_
 .unfold isInstance
  repeat (first|with_reducible refine az (l.at ?_)|with_reducible refine f.at ?_|with_reducible refine az (f.at ?_)|wp_step)
  exact i
theorem Ie{f:Tok}{Q:Fin->ao->Prop}(X:K.In h)(k:lR K C)(I:rq h a o C ag)(i:Q (.done (.ret (.ref C))) ⟨h,g,d,t,c⟩):aC (ay b w) A (Builtin.«object.__getattribute__» ⟨[.ref a,.str "__class__" f],[]⟩) Q E ⟨h,g,d,t,c⟩:=by
 have p:=I.type (M:=ay b w);have j:PySem.W.findObj K C ag "__class__"=aa (.bind (.builtin "getset_descriptor.__get__") (.builtin "object.__class__")):=by obtain⟨q,l⟩:=xS.mp k.cs;unfold PySem.W.findObj;rw[l,fm,k.cl,fm];simp[k.gs,k.tk]
 have n:=PySem.W.looks_find (M:=ay b w) X I j;have m:l0 (ay b w) A (.call (.builtin "getset_descriptor.__get__") ⟨[.builtin "object.__class__",.ref a,.ref C],[]⟩) (λr e=>r=.ok (.ret (.ref C))/\e=⟨h,g,d,t,c⟩) ⟨h,g,d,t,c⟩:=PySem.W.class_get (s:=⟨h,g,d,t,c⟩) X I k.ob ⟨rfl,rfl⟩;refine az (bg (az (bg (az (p.at (az (n.at ?_)))))));show aC _ _ (do ret (<-jQ [Value.builtin "object.__class__"] (call (.builtin "getset_descriptor.__get__") [.builtin "object.__class__",.ref a,.ref C]))) _ _ _;refine az (kx (wpAny_call (rz m λr e z=>?_)));obtain⟨rfl,rfl⟩:=z;exact bg i
theorem D4{f:Tok}{Q:ai->ao->Prop}(X:K.In h)(k:lR K C)(I:rq h a o C ag)(p:Q (.ref C) ⟨h,g,d,t,c⟩):aC (ay b w) A (getAttrBy (.ref a) (.str "__class__" f) aj) Q E ⟨h,g,d,t,c⟩:=by
 have n:=I.type (M:=ay b w);have m:=PySem.W.looks_findIn (M:=ay b w) X k.ga;have e:=PySem.W.looks_findIn (M:=ay b w) X k.gt;have j:(Value.builtin "BaseException.__getattribute__" == Value.builtin "object.__getattribute__")=aj:=by decide +kernel
 have i:(onTheHeap (Value.ref C)&&Value.builtin "BaseException.__getattribute__" == Value.builtin "object.__getattribute__")=aj:=by rw[j];rfl
 unfold getAttrBy;refine kx (az (n.at (az (m.at ?_))));dsimp only;rw[i];rw[if_neg (by decide)];have f3:=F.attr_ValueError.ga.bind (.ref a);have l:(aj&&onTheHeap (Value.builtin "BaseException.__getattribute__"))=aj:=rfl
 repeat (any_goals (first|assumption|with_reducible refine e.at ?_|with_reducible refine az (e.at ?_)|wp_step))
 refine codeAny_call_builtin F.attr_ValueError.ga.plain F.entry_bexc_ga (Jo X k I (Ie X k I ?_))
 repeat (any_goals (first|assumption|wp_step))
theorem De{Q:Option ai->ao->Prop}(X:K.In h)(k:lR K C)(I:rq h a o C ag)(e:Q (aa (.ref C)) ⟨h,g,d,t+1,c⟩):aC (ay b w) A (getAttr? (.ref a) "__class__") Q E ⟨h,g,d,t,c⟩:=by
 unfold getAttr? getAttrBy?
 repeat (any_goals (first|assumption|with_reducible apply D4 X k I|wp_step))
theorem Fv(k:lR K C):PySem.W.KitX K (.ref a) (.ref C) (λh=>∃o,rq h a o C ag) where
 ty:=λ_ _ _ ⟨o,I⟩=>I.type
 it:=λ_ _ X _=>by
  obtain⟨x,f⟩:=xS.mp k.cs;unfold yk at f;split at f
  .rename_i y v l i j;intro J G H D r q;unfold isType loadHead;exact az (wpAny_loadPart (r _ _ (X _ _ j)) (bg q))
  .cases f
 ne:=λh m F u n B X p=>by
  obtain⟨x,f⟩:=xS.mp k.cs;refine Bool.eq_false_iff.mpr λq=>?_;have e:C=m:=Value.ref.inj (beq_iff_eq.mp q);subst e;unfold yk at f;split at f
  .rename_i y v l i j;have z:=(X _ _ j).symm.trans p;cases z
  .cases f
 ca:=λ{_ _ _ _ _ s} X I q=>by obtain⟨o,I⟩:=I;obtain⟨h,g,d,t,c⟩:=s;exact De X k I q
end
def tR:V->Option ai
 |.ref D=>aa (.ref D)
 |.ty T=>aa (.type T)
 |_=>ag
theorem Eh{v:V}{u a:ai}(e:tR v=aa u)(r:RelV v a):a=u:=by
 cases v <;> simp[tR]at e <;> subst e <;> exact r
section
variable{X:Cx}{K:ar}
def Cm(K:ar):List V->Hp->VK->Prop:=λxs H Q=>∃a C D u b,xs=[.ref a,D]/\H a=aa (im a (.ref C))/\lR K C/\tR D=aa u/\dQ K (.ref C) u=aa b/\Q (.bl b) H
theorem Lg:eI X (.builtin "isinstance") (Cm X.K):=by
 intro B s w H xs y Q I r h;obtain⟨a,C,D,u,b,rfl,j,k,i,e,q⟩:=h;cases r with
 |cons g f=>
  cases f with
  |cons d c=>
   cases c;cases g;have v:=Eh i d;subst v;obtain⟨⟨o,x,p,n,m,l⟩,_,_⟩:=I.hok a _ j;refine jS (Fv (a:=a) k) I.kIn ⟨o,p,n,?_,?_⟩ e (by intro z;cases z) λA=>⟨.bl b,H,I.tok _,rfl,q⟩
   .unfold PySem.W.notCls;rw[m]
   .rw[l];trivial
def iC(tab:ai->V->Option Bool):List PV->Option PV
 |[.exc c,.raw D]=>(tab c D).map .bl
 |xs=>d8 xs
def Aw(K:ar):List V->Hp->VK->Prop:=λxs H Q=>Cm K xs H Q\/∃x t T b,xs=[x,.ty T]/\ie K H x (.type t)/\dQ K (.type t) (.type T)=aa b/\Q (.bl b) H
theorem jl:eI X (.builtin "isinstance") (Aw X.K):=Lg.or om
def vS(K:ar)(tab:ai->V->Option Bool):Prop:=∀c D b,tab c D=aa b->∃C u,c=.ref C/\lR K C/\tR D=aa u/\dQ K (.ref C) u=aa b
theorem jj{tab:ai->V->Option Bool}(j:vS K tab):PL K (Aw K) (iC tab):=λF H xs g Q pv f e q=>by
 unfold iC at e;split at e
 .rename_i c D;cases d:tab c D with
  |none=>rw[d]at e;cases e
  |some b=>
   rw[d]at e;cases e;obtain⟨C,u,rfl,k,i,l⟩:=j c D b d;obtain⟨v,p,rfl,⟨a,rfl,m⟩,o⟩:=f;obtain⟨h,rfl,n⟩:=gx o;rw[show h=D from n];exact .inl ⟨a,C,D,u,b,rfl,m,k,i,l,q _ F H (Al.refl ..) rfl⟩
 .exact .inr (oM F H _ g Q pv f e q)
theorem jI{E:XK}{x:Str}{D:af}{d:Pos}(a:X.mg x=aa (.ref D))(b:Gl X x:=by rfl)(c:(x==("__debug__":Str))=aj:=by decide):DE X E (.Name x d) (dC (.raw (.ref D))):=λF S f e H Q r q=>bX (wE (v:=.ref D) b a rfl c) (q F S H r (Grow.refl ..) _ rfl)
variable{E:XK}{e:aA}{de:ak->R PV}{d:Pos}{y:Str}
def v3(xs:List PV)(y:PV):Option PV:=(cF y).bind λv=>(gE xs).map λa=>.int (a.countP λz=>dS z v)
def wS(xs:List PV)(y:PV):Option PV:=(cF y).bind λv=>(gE xs).bind λa=>(a.findIdx? λz=>dS z v).map λj=>.int j
def oN(f:List PV->PV->Option PV)(i:Nat)(de:ak->R PV):ak->R PV:=λb=>(a_ (cY b i) b).bind λ_ b=>(de b).bind λk a=>(a_ (cY a i) a).bind λxs a=>a_ (f xs k) a
theorem Fd(i:Nat){p c b:Pos}(N:DE X E e de)(T:X.N[i]?=aa y:=by rfl)(L:d_ X.env.scope y:=by eq_refl)(O:(y==("__debug__":Str))=aj:=by decide)(br:(y==("__classdict__":Str))=aj:=by decide) (h1:pD (.Name y p) "count" X.env (bi (.Name y p) X.env)=bi (.Name y p) X.env:=by rfl)(Z:((cS b (aR [e] X.env)).all (λx=>!x.1)&&(pE b (pF [] X.env)).all (λx=>x.1.isSome)&&decide ([e].length+([]:List ja).length+(if([]:List ja).isEmpty then 0 else 1)<30))=ah:=by rfl)(Y:(c.endLine == b.line)=ah:=by rfl) (u:aR [e] X.env=(aj,bi e X.env)::aR [] X.env:=by rfl) (W:(cS b (aR [] X.env)).any (·.1)=aj:=by rfl):DE X E (.Call (.Attribute (.Name y p) "count" c) [e] [] b) (oN v3 i de):=λF S o A H Q r h=>by
 unfold oN at h;cases n:cY o i with
 |none=>rw[n]at h;exact h.elim
 |some B=>
  rw[n]at h;simp only[cQ,R.bind_ok]at h;obtain⟨a,C,z,P,_,_,_⟩:=r.lstAt (gG n);refine bX (qW yi PySem.F.slot_list_count PySem.F.type_list_count Fp (fD T L O br) (jH bI km u) h1 Z Y u W) ⟨.ref a,z,.inl ⟨rfl,_,b7.of P⟩,?_⟩;refine N F S o A H _ r ((Ok.bind h).imp λk j F1 S1 H1 s g1 q v G=>?_);cases m:cY j i with
  |none=>rw[m]at q;exact q.elim
  |some xs=>
   rw[m]at q;simp only[cQ,R.bind_ok]at q;obtain⟨a',D,g,J,I,_,_⟩:=s.lstAt (gG m);rw[z]at g;cases g;unfold v3 at q;cases f:cF k with
   |none=>rw[f]at q;exact q.elim
   |some w=>
    cases l:gE xs with
    |none=>rw[f,l]at q;exact q.elim
    |some ws=>rw[f,l]at q;obtain⟨rfl,M⟩:=sN I l;rw[iR G f];exact⟨a,D,w,rfl,rfl,J,qa f,M,q F1 S1 H1 s (Grow.refl ..) _ rfl⟩
theorem Ea(i:Nat){p c b:Pos}(he:DE X E e de)(hN:X.N[i]?=aa y:=by rfl)(Y:d_ X.env.scope y:=by eq_refl)(hd:(y==("__debug__":Str))=aj:=by decide)(br:(y==("__classdict__":Str))=aj:=by decide) (h1:pD (.Name y p) "index" X.env (bi (.Name y p) X.env)=bi (.Name y p) X.env:=by rfl)(h2:((cS b (aR [e] X.env)).all (λx=>!x.1)&&(pE b (pF [] X.env)).all (λx=>x.1.isSome)&&decide ([e].length+([]:List ja).length+(if([]:List ja).isEmpty then 0 else 1)<30))=ah:=by rfl)(h3:(c.endLine == b.line)=ah:=by rfl) (G:aR [e] X.env=(aj,bi e X.env)::aR [] X.env:=by rfl) (h5:(cS b (aR [] X.env)).any (·.1)=aj:=by rfl):DE X E (.Call (.Attribute (.Name y p) "index" c) [e] [] b) (oN wS i de):=λF S A J H Q B h=>by
 unfold oN at h;cases u:cY A i with
 |none=>rw[u]at h;exact h.elim
 |some L=>
  rw[u]at h;simp only[cQ,R.bind_ok]at h;obtain⟨a,N,I,ha,_,_,_⟩:=B.lstAt (gG u);refine bX (qW yi PySem.F.slot_list_index PySem.F.type_list_index HU (fD hN Y hd br) (jH bI km G) h1 h2 h3 G h5) ⟨.ref a,I,.inl ⟨rfl,_,b7.of ha⟩,?_⟩;refine he F S A J H _ B ((Ok.bind h).imp λk r F1 S1 H1 C g1 q v P=>?_);cases s:cY r i with
  |none=>rw[s]at q;exact q.elim
  |some xs=>
   rw[s]at q;simp only[cQ,R.bind_ok]at q;obtain⟨a',O,l,W,T,_,_⟩:=C.lstAt (gG s);rw[I]at l;cases l;unfold wS at q;cases f:cF k with
   |none=>rw[f]at q;exact q.elim
   |some w=>
    cases o:gE xs with
    |none=>rw[f,o]at q;exact q.elim
    |some M=>
     cases n:M.findIdx? λz=>dS z w with
     |none=>rw[f,o]at q;simp only[fm]at q;rw[n]at q;exact q.elim
     |some j=>
      rw[f,o]at q;simp only[fm]at q;rw[n]at q;obtain⟨rfl,hf⟩:=sN T o;rw[iR P f];rw[List.findIdx?_eq_some_iff_getElem]at n;obtain⟨D,h6,h7⟩:=n;refine⟨a,O,w,j,rfl,rfl,W,qa f,hf,D,λz g=>?_,λm z Z g=>?_,q F1 S1 H1 C (Grow.refl ..) _ rfl⟩
      .rw[dY D]at g;cases g;exact h6
      .have:=h7 m Z;rw[dY ∅]at g;cases g;simpa using this
end
def fu(g:Tx):List Tx->Tx
 |[]=>[]
 |[x]=>x
 |x::y::r=>x++g++fu g (y::r)
theorem zb(a b:Tx):tS (a++b)=tS a++tS b:=by apply Str.ext';simp[tS,Str.cps_append]
theorem A0(g:Tx):∀a:List Tx,Str.join (tS g) (a.map tS)=tS (fu g a)
 |[]=>rfl
 |[x]=>rfl
 |x::y::r=>by show tS x++tS g++Str.join (tS g) ((y::r).map tS)=tS (x++g++fu g (y::r));rw[A0 g (y::r),zb,zb]
theorem Bj(g:Tx)(a:List Tx):Txt.join (tS g) (a.map tS)=tS (fu g a):=by unfold Txt.join;rw[StrLaws.glued_eq_join,A0]
theorem zc(c:Nat):∀l:List Nat,PyProof.Rows.cnt c l=(l.count c:Nat)
 |[]=>rfl
 |a::l=>by
  rw[PyProof.Rows.cnt_cons,zc c l,ym];by_cases h:a=c
  .simp[h];lia
  .simp[h]
theorem E_(c:Nat)(x:Tx):Txt.count (tS x) (tS [c])=(x.count c:Nat):=by have:=PyProof.Rows.count_cnt (tS x) c;rw[jK,zc]at this;exact this
theorem El(c:Nat)(x:Tx):p_ [c] x=x.contains c:=by unfold p_;have:=StrLaws.found_one (tS x) c;rw[jK]at this;rw[show(tS [c])=⟨#[c]⟩from rfl,this];simp[List.contains_eq_mem]
theorem xu:∀{b:List Tx}{a:List ai},bv (cD b) a->jW a (b.map tS)
 |[],_,r=>by cases r;exact .nil
 |x::b,_,r=>by
  cases r with
  |cons d c=>obtain⟨t,rfl⟩:=d;exact .cons _ t (xu c)
section
variable{X:Cx}{K:ar}
def gf(g:Tx)(ls:List Tx):Nat:=(ls.map pr).sum+ls.length*g.length
theorem AO(g:Tx):∀a,(fu g a).length<=gf g a
 |[]=>l8 _
 |[x]=>by simp[fu,gf]
 |x::y::r=>by have h:=AO g (y::r);show(x++g++fu g (y::r)).length<=_;generalize fu g (y::r)=z at h;unfold gf at *;simp only[fO,eF,rK,eP,Nat.add_mul]at *;lia
def vP(K:ar):V->List V->Hp->VK->Prop:=λx xs H Q=>∃g p a,x=tV g/\xs=[.ref p]/\(b7 K H p (cD a)\/cf K H p (cD a))/\gf g a<=bF/\Q (tV (fu g a)) H
theorem zO:uy X "str.join" (vP X.K):=by
 intro A s y H x xs v z Q I m o h;obtain⟨g,p,b,rfl,rfl,d,w,q⟩:=h;obtain⟨t,rfl⟩:=m;obtain⟨u,rfl,n⟩:=vals1 o;cases n;have c:((b.map tS).map (·.length)).sum+(b.map tS).length*(tS g).length<=16777216:=by
  have e:((b.map tS).map (·.length))=b.map pr:=by rw[gn];exact uK λa _=>jh a
  rw[e,cr,jh];unfold gf bF at w;lia
 rcases d with d|d
 .obtain⟨l,i,j,r⟩:=I.list d;exact join_list j.isList (by simpa using xu i) c λf k=>⟨tV (fu g b),H,I.tok _,(by rw[Bj];exact⟨f,rfl⟩),q⟩
 .obtain⟨l,i,j,r⟩:=I.tuple d;exact join_tuple j (by simpa using xu i) c λf k=>⟨tV (fu g b),H,I.tok _,(by rw[Bj];exact⟨f,rfl⟩),q⟩
def zS:V->List V->Hp->VK->Prop:=λx xs H Q=>∃y c,x=tV y/\xs=[tV [c]]/\Q (.int (y.count c:Nat)) H
theorem HK:uy X "str.count" zS:=by intro g s d H x xs v e Q I a b h;obtain⟨y,c,rfl,rfl,q⟩:=h;obtain⟨t,rfl⟩:=a;obtain⟨u,rfl,f,rfl⟩:=vals1 b;exact SC.count ⟨.int _,H,I.tok _,⟨_,by rw[E_]⟩,q⟩
def PM(K:ar)(r:V->List V->Hp->VK->Prop)(f:Tx->List PV->Option PV):Prop:=∀(F:af->Prop) (H:Hp) (x:Tx) (xs:List PV) (b:List V) (Q:VK) (pv:PV),x.length<=bF->aS K H F xs b->f x xs=aa pv->(∀w c a,Al F c H a->aJ K a c pv w->Q w a)->r (tV x) b H Q
def tT:PV->Option Tx
 |.str x=>aa x
 |_=>ag
def kj(f:Tx->List PV->Option PV)(d:ak->R PV)(B:ak->R (List PV)):ak->R PV:=λc=>(d c).bind λx a=>(a_ (tT x) a).bind λy a=>(B a).bind λe b=>a_ (f y e) b
variable{E:XK}{o e:aA}{A:List aA}{d:ak->R PV}{B:ak->R (List PV)}{i:Str}{m b:Pos}{C:String}{r:V->List V->Hp->VK->Prop}{f:Tx->List PV->Option PV}
theorem wc(g:PySem.Slot "str" i C)(W:typeOf (.builtin C)=pure (.type "method_descriptor"))(hm:uy X C r)(hp:PM X.K r f)(ho:DE X E o d)(ha:DA X E (e::A) B)(J:pD o i X.env (bi o X.env)=bi o X.env:=by rfl)(G:((cS b (aR (e::A) X.env)).all (λx=>!x.1)&&(pE b (pF [] X.env)).all (λx=>x.1.isSome)&&decide ((e::A).length+([]:List ja).length+(if([]:List ja).isEmpty then 0 else 1)<30))=ah:=by rfl)(I:(m.endLine == b.line)=ah:=by rfl) (hs:aR (e::A) X.env=(aj,bi e X.env)::aR A X.env:=by rfl) (L:(cS b (aR A X.env)).any (·.1)=aj:=by rfl):DE X E (.Call (.Attribute o i m) (e::A) [] b) (kj f d B):=λF S z n H Q O h=>by
 refine bX (qW PySem.F.plainAttrs_str g W hm bI iY J G I hs L) (ho F S z n H _ O ((Ok.bind h).imp λx c u q s T g1 l v N=>?_));cases x <;> first|exact(show False from l).elim|skip
 rename_i y;obtain⟨rfl,Z⟩:=N;refine⟨rfl,?_⟩;have l:Ok X.K E n u q s ((B c).bind λD a=>a_ (f y D) a) _:=l;refine ha u q c n s _ T ((Ok.bind l).imp λxs a F2 S2 H2 P g2 j M Y=>?_);cases e:f y xs with
 |none=>rw[e]at j;exact j.elim
 |some pv=>rw[e]at j;exact hp F2 H2 y xs M Q pv Z Y e λw F' H' al p=>j F' S2 H' (P.al al) al.grow w p
def kQ(g:Tx):List PV->Option PV
 |[.lst xs]=>(fH xs).bind λa=>if gf g a<=bF then aa (.str (fu g a))else ag
 |[.tup xs]=>(fH xs).bind λa=>if gf g a<=bF then aa (.str (fu g a))else ag
 |_=>ag
theorem AQ:PM K (vP K) kQ:=λF H g xs D Q pv G w e q=>by
 have l:∀(n:List PV) (p:af) (c:List V),aS K H F n c->(b7 K H p c\/cf K H p c)->((fH n).bind λj=>if gf g j<=bF then aa (PV.str (fu g j))else ag)=aa pv->vP K (tV g) [.ref p] H Q:=λn p c h z e=>by
  cases s:fH n with
  |none=>rw[s]at e;cases e
  |some j=>
   rw[s,fm]at e;split at e
   .rename_i x;cases e;have y:=(Ll.mp (vh s ▸ h)).1;subst y;exact⟨g,p,j,rfl,rfl,z,x,q _ F H (Al.refl ..) ⟨rfl,cK (AO g j) x⟩⟩
   .cases e
 unfold kQ at e;split at e
 .obtain⟨v,rfl,a,c,rfl,u,_,h⟩:=gx w;exact l _ a c h (.inl (.inl u)) e
 .obtain⟨v,rfl,a,c,rfl,u,h⟩:=gx w;exact l _ a c h (.inr (cf.of u)) e
 .cases e
def sT(y:Tx):List PV->Option PV
 |[.str [c]]=>aa (.int (y.count c:Nat))
 |_=>ag
theorem ID:PM K zS sT:=λF H y xs g Q pv h a e q=>by
 unfold sT at e;split at e
 .rename_i c;cases e;obtain⟨v,rfl,rfl,_⟩:=gx a;exact⟨y,c,rfl,rfl,q _ F H (Al.refl ..) rfl⟩
 .cases e
theorem IV(D:X.calm=ah):eI X (.type "list") (λxs H Q=>∃y:Tx,xs=[tV y]/\y.length<=bF/\∀l,H l=ag->Q (.ref l) (upd H l (.lst (y.map sg)))):=by
 intro ae s σ H xs us Q I r h;obtain⟨y,rfl,G,q⟩:=h;obtain⟨u,rfl,t,rfl⟩:=vals1 r;have J:(tS y).cps.size=y.length:=by simp[tS]
 refine PySem.call_list_str (I.ok.hd D) (tS y) t (hn:=by rw[J];exact cK G jF) λh' W a O Z hS T=>?_;refine⟨.ref s.heap.objs.size,_,I.laid (t':=W) Z (bB _) (show bZ X.prog X.w _ h' _ (.lst (y.map sg))from⟨by rw[cr];exact cK G jF,a.toList,O,?_,by simpa using hS⟩),rfl,q _ (I.hok.fresh (bB _))⟩;obtain⟨g,w⟩:=T;rw[J]at g;have N:∀j v,a.toList[j]?=aa v->SignAt (tS y) j v:=λj v e=>w j v (by simpa using e);have M:a.toList.length=y.length:=by simpa using g
 generalize a.toList=L at N M;have x:∀(p:Tx) (L:List ai) (n:Nat),L.length=p.length->(∀(j:Nat) (v:ai),L[j]?=aa v->∃t,∀c,p[j]?=aa c->v=Value.str (tS [c]) t)->bv (p.map sg) L:=by
  intro p
  induction p with
  |nil=>intro L n g _;have:L=[]:=uL g;subst this;exact .nil
  |cons c p Y=>
   intro L n g w;cases L with
   |nil=>cases g
   |cons v L=>obtain⟨t,e⟩:=w 0 v rfl;have e:=e c rfl;subst e;exact .cons ⟨t,rfl⟩ (Y L (n+1) (by simpa using g) λj v e=>by obtain⟨t,z⟩:=w (j+1) v (by simpa using e);exact⟨t,λc D=>z c (by simpa using D)⟩)
 refine x y L 0 M λj v e=>?_;obtain⟨c,u,S,P⟩:=N j v e;refine⟨u,λO F=>?_⟩;have e5:y[j]?=aa c:=by simpa[tS]using S
 rw[e5]at F;cases F;exact P
end
section
variable{K:ar}{F u:af->Prop}{S B:Nat->af->Prop}{ε A:ak}{y:St}{H H':Hp}{i:Nat}{po:PO}
theorem aG.hide(r:aG K F S ε y H)(i:Nat):aG K F (λj b=>S j b/\j≠i) (ε.set i .none) y H:=by
 have g:∀(j:Nat) (s:Slot),s≠.none->(ε.set i .none)[j]?=aa s->ε[j]?=aa s/\j≠i:=λj s m e=>by
  by_cases c:i=j
  .subst c;rw[List.getElem?_set]at e;simp only[if_true]at e;split at e
   .exact absurd (cp e).symm m
   .cases e
  .rw[b9 c]at e;exact⟨e,cX c⟩
 refine⟨by rw[dX];exact r.len,r.ex,λj pv e=>r.val j pv (g j _ (by intro z;cases z) e).1,λj po e=>?_,λj b h=>?_,λj k b f d=>r.dist j k b f.1 d.1⟩
 .obtain⟨o,c⟩:=g j _ (by intro z;cases z) e;obtain⟨a,f,d⟩:=r.own j po o;have n:(λb=>S j b/\j≠i)=S j:=by funext b;simp[c]
  exact⟨a,f,by rw[n];exact d⟩
 .obtain⟨⟨po,q⟩,l⟩:=r.foot j b h.1;exact⟨⟨po,by rw[b9 (cX h.2)];exact q⟩,l⟩
theorem _root_.Pu.Grow.wide{O P a F u:af->Prop}{H H':Hp}(g:Grow O a F u H H')(h:∀b,O b->P b):Grow P a F u H H' :=⟨g.fro,λb o q n=>g.keep b o q λz=>n (h b z),g.there,λb z=>(g.fnew b z).imp id λw=>w.imp id (h b),λb z=>(g.onew b z).imp (h b) id⟩
theorem aG.unhide(r:aG K F S ε y H)(e:ε[i]?=aa (.own po))(m:aG K u B A y H')(g:Grow (U λj b=>S j b/\j≠i) (U B) F u H H')(I:A[i]?=aa .none):∃v,v i=S i/\aG K u v (A.set i (.own po)) y H'/\Grow (U S) (U v) F u H H'/\(∀b o,S i b->H b=aa o->H' b=aa o):=by
 have G:i<A.length:=(bY.mp I).1;have D:∀b,S i b->¬U (λj b=>S j b/\j≠i) b:=λb h ⟨j,z,c⟩=>c (r.dist j i b z h);have E:∀b o,S i b->H b=aa o->H' b=aa o:=λb o h q=>g.keep b o q (D b h);have L:∀b,B i b->False:=λb h=>by
  obtain⟨⟨po,q⟩,_⟩:=m.foot i b h;rw[I]at q;cases q
 have l:Fit (U λj b=>S j b/\j≠i) F H:=λb ⟨j,z,_⟩=>(r.foot j b z).2;have s:∀b,S i b->¬u b/\¬U B b:=λb h=>by
  obtain⟨_,d,o,C,_⟩:=r.foot i b h;refine⟨λz=>?_,λz=>?_⟩
  .rcases g.fnew b z with w|w|w
   .exact d w
   .rw[C]at w;cases w
   .exact D b h w
  .rcases g.onew b z with w|w
   .exact D b h w
   .rw[C]at w;cases w
 refine⟨λj b=>if j=i then S i b else B j b,by simp,⟨by rw[dX];exact m.len,m.ex,λj pv q=>?_,λj p q=>?_,λj b h=>?_,λj k b f d=>?_⟩,⟨g.fro,λb o q n=>g.keep b o q λ⟨j,z⟩=>n ⟨j,z.1⟩,g.there,λb z=>(g.fnew b z).imp id λw=>w.imp id λ⟨j,w⟩=>⟨j,w.1⟩,λb ⟨j,z⟩=>?_⟩,E⟩
 .have c:i≠j:=by rintro rfl;rw[cR G]at q;cases q
  rw[b9 c]at q;exact m.val j pv q
 .by_cases c:i=j
  .subst c;rw[cR G]at q;cases q;obtain⟨a,f,d⟩:=r.own i _ e;refine⟨a,f,?_⟩;simp only[if_true];exact d.mono (λ_ _ z=>z.grow g l) (λ_ _ z=>z.grow g l) λb o z w=>E b o z w
  .rw[b9 c]at q;obtain⟨a,f,d⟩:=m.own j p q;exact⟨a,f,by simp only[if_neg (cX c)];exact d⟩
 .by_cases c:j=i
  .subst c;simp only[if_true]at h;obtain⟨_,d,o,C,M⟩:=r.foot j b h;exact⟨⟨po,cR G⟩,(s b h).1,o,E b o h C,M⟩
  .simp only[if_neg c]at h;obtain⟨⟨p,q⟩,J⟩:=m.foot j b h;exact⟨⟨p,by rw[b9 (cX c)];exact q⟩,J⟩
 .by_cases c:j=i
  .by_cases x:k=i
   .rw[c,x]
   .simp only[if_pos c]at f;simp only[if_neg x]at d;exact absurd ⟨k,d⟩ (s b f).2
  .by_cases x:k=i
   .simp only[if_neg c]at f;simp only[if_pos x]at d;exact absurd ⟨j,f⟩ (s b d).2
   .simp only[if_neg c]at f;simp only[if_neg x]at d;exact m.dist j k b f d
 .by_cases c:j=i
  .simp only[if_pos c]at z;exact .inl ⟨i,z⟩
  .simp only[if_neg c]at z;exact(g.onew b ⟨j,z⟩).imp (λ⟨k,w⟩=>⟨k,w.1⟩) id
variable{a b:af}{m:List (List PV)}{f:List af}{j:Nat}{C:List PV}{l:List V}
theorem fJ.len(h:fJ K H F m f):f.length=m.length:=by
 unfold fJ at h
 induction h with
 |nil=>rfl
 |cons _ _ c=>simp[c]
theorem fJ.get(h:fJ K H F m f)(e:m[j]?=aa C):∃b l,f[j]?=aa b/\H b=aa (.lst l)/\aS K H F C l:=by
 unfold fJ at h
 induction h generalizing j with
 |nil=>simp at e
 |cons r _ c=>
  cases j with
  |zero=>simp at e;subst e;obtain⟨l,g,d⟩:=r;exact⟨_,l,rfl,g,d⟩
  |succ j=>obtain⟨b,l,q⟩:=c (j:=j) (by simpa using e);exact⟨b,l,by simpa using q⟩
theorem fJ.set(h:fJ K H F m f)(z:f.Nodup)(e:f[j]?=aa b){H':Hp}(s:∀x v,aS K H F x v->aS K H' F x v)(q:∀c o,c∈f->c≠b->H c=aa o->H' c=aa o)(I:∃n,H' b=aa (.lst n)/\aS K H' F C n):fJ K H' F (m.set j C) f:=by
 unfold fJ at h ⊢
 induction h generalizing j with
 |nil=>exact .nil
 |cons r G E=>
  rename_i x c m f;have g:=lj.mp z;cases j with
  |zero=>simp at e;subst e;refine .cons I ?_;exact fJ.mono (K:=K) s (λd o p=>q d o (by simp[p]) (by rintro rfl;exact g.1 p)) G
  |succ j=>
   have w:f[j]?=aa b:=by simpa using e
   have D:b∈f:=kB w;obtain⟨l,L,J⟩:=r;exact .cons ⟨l,q c _ (by simp) (by rintro rfl;exact g.1 D) L,s _ _ J⟩ (E g.2 w λd o p=>q d o (by simp[p]))
theorem aG.updL(r:aG K F S ε y H)(e:ε[i]?=aa (.own (.lls m)))(Z:y[i]?=aa (aa (.ref a)))(Y:H a=aa (.lst (f.map .ref)))(W:fJ K H F m f)(L:f.Nodup)(M:a∉f)(P:∀b,S i b↔b=a\/b∈f)(O:f[j]?=aa b)(h:aS K H F C l):aG K F S (ε.set i (.own (.lls (m.set j C)))) y (L2.upd H b (.lst l))/\Grow (U S) (U S) F F H (L2.upd H b (.lst l)):=by
 have N:b∈f:=kB O;have E:S i b:=(P b).mpr (.inr N);have X:a≠b:=by rintro rfl;exact M N
 have G:i<ε.length:=(bY.mp e).1;have g:Grow (U S) (U S) F F H (L2.upd H b (.lst l)):=⟨λ_ z=>z,λc o q n=>by rw[bd (by rintro rfl;exact n ⟨i,E⟩)];exact q,λc o q=>by
  by_cases s:c=b
  .subst s;exact⟨_,upd_same⟩
  .exact⟨o,by rw[bd s];exact q⟩,λ_ z=>.inl z,λ_ z=>.inl z⟩
 refine⟨⟨by rw[dX];exact r.len,λb z=>let ⟨o,q⟩:=r.ex b z;g.there b o q,λk pv q=>?_,λk po q=>?_,λk c z=>?_,r.dist⟩,g⟩
 .have p:i≠k:=by rintro rfl;rw[cR G]at q;cases q
  rw[b9 p]at q;obtain⟨v,D,x⟩:=r.val k pv q;exact⟨v,D,x.grow g r.fit⟩
 .by_cases p:i=k
  .subst p;rw[cR G]at q;cases q;exact⟨a,Z,f,by rw[bd X];exact Y,W.set L O (λ_ _ z=>z.grow g r.fit) (λc o _ s w=>by rw[bd s];exact w) ⟨l,upd_same,h.grow g r.fit⟩,L,M,P⟩
  .rw[b9 p]at q;obtain⟨c,D,x⟩:=r.own k po q;refine⟨c,D,x.mono (λ_ _ z=>z.grow g r.fit) (λ_ _ z=>z.grow g r.fit) λd o z w=>?_⟩;rw[bd (by rintro rfl;exact p (r.dist i k d E z))];exact w
 .obtain⟨⟨po,D⟩,x,o,T,Q⟩:=r.foot k c z;have I:∃J,(L2.upd H b (.lst l)) c=aa J/\dy J:=by
   by_cases s:c=b
   .subst s;exact⟨_,upd_same,trivial⟩
   .exact⟨o,by rw[bd s];exact T,Q⟩
  by_cases p:i=k
  .subst p;exact⟨⟨_,cR G⟩,x,I⟩
  .exact⟨⟨po,by rw[b9 p];exact D⟩,x,I⟩
theorem fJ.frz(h:fJ K H F m f)(c:∀b∈f,F b):aS K H F (m.map .lst) (f.map .ref):=by
 unfold fJ at h
 induction h with
 |nil=>rfl
 |cons r _ d=>obtain⟨l,n,g⟩:=r;exact⟨_,_,rfl,⟨_,l,rfl,.inl n,c _ (by simp),g⟩,d λb e=>c b (by simp[e])⟩
theorem aG.frzL(r:aG K F S ε y H)(e:ε[i]?=aa (.own (.lls m))):∃a u B,aG K u B (ε.set i (.val (.lst (m.map .lst)))) y H/\Grow (U S) (U B) F u H H/\y[i]?=aa (aa (.ref a))/\aJ K H u (.lst (m.map .lst)) (.ref a):=by
 obtain⟨a,G,f,L,I,P,Q,E⟩:=r.own i _ e;have D:i<ε.length:=(bY.mp e).1;have g:∀b,F b->F b\/S i b:=λb h=>.inl h;have mono:∀x v,aJ K H F x v->aJ K H (λb=>F b\/S i b) x v:=aJ.mono g (λ_ _ _ q=>q) (λ_ _ q _=>q);have c:∀x v,aS K H F x v->aS K H (λb=>F b\/S i b) x v:=aS.mono g (λ_ _ _ q=>q) (λ_ _ q _=>q);have w:aJ K H (λb=>F b\/S i b) (.lst (m.map .lst)) (.ref a):=⟨a,_,rfl,.inl L,.inr ((E a).mpr (.inl rfl)),(I.mono c λ_ _ _ z=>z).frz λb J=>.inr ((E b).mpr (.inr J))⟩
 refine⟨a,λb=>F b\/S i b,λj b=>S j b/\j≠i,⟨by rw[dX];exact r.len,λb h=>?_,λj pv q=>?_,λj po q=>?_,λj b h=>?_,λj k b N M=>r.dist j k b N.1 M.1⟩,?_,G,w⟩
 .rcases h with h|h
  .exact r.ex b h
  .obtain⟨_,_,o,q,_⟩:=r.foot i b h;exact⟨o,q⟩
 .by_cases d:i=j
  .subst d;rw[cR D]at q;cases q;exact⟨_,G,w⟩
  .rw[b9 d]at q;obtain⟨v,p,n⟩:=r.val j pv q;exact⟨v,p,mono _ _ n⟩
 .by_cases d:i=j
  .subst d;rw[cR D]at q;cases q
  .rw[b9 d]at q;obtain⟨v,p,n⟩:=r.own j po q;refine⟨v,p,?_⟩;have s:=n.mono (H':=H) mono c λ_ _ _ z=>z;have O:(λb=>S j b/\j≠i)=S j:=by funext b;simp[cX d]
   rw[O];exact s
 .obtain⟨⟨po,p⟩,n,s⟩:=r.foot j b h.1;refine⟨⟨po,by rw[b9 (cX h.2)];exact p⟩,λz=>?_,s⟩;rcases z with z|z
  .exact n z
  .exact h.2 (r.dist j i b h.1 z)
 .refine⟨λ_ h=>.inl h,λb o h _=>h,λb o h=>⟨o,h⟩,λb h=>?_,λb ⟨j,h⟩=>.inl ⟨j,h.1⟩⟩;rcases h with h|h
  .exact .inl h
  .exact .inr (.inr ⟨i,h⟩)
end
section
variable{X:Cx}{E:XK}{pin:List Nat}{e b b1:aA}{de db d1:ak->R PV}{d:Pos}
def jm(a:ak)(i:Nat):Option (List (List PV)):=match a[i]? with
 |some (.own (.lls c))=>aa c
 |_=>ag
theorem qN{a:ak}{i:Nat}{c:List (List PV)}(h:jm a i=aa c):a[i]?=aa (.own (.lls c)):=by
 unfold jm at h;split at h
 .cases h;assumption
 .cases h
def ud(i:Nat):ak->R PV:=λa=>(a_ (jm a i) a).bind λc a=>.ok (.lst (c.map .lst)) (a.set i (.val (.lst (c.map .lst))))
theorem Dj(i:Nat){x:Str}{d:Pos}(n:X.N[i]?=aa x:=by rfl)(l:d_ X.env.scope x:=by eq_refl)(m:(x==("__debug__":Str))=aj:=by decide)(q:(x==("__classdict__":Str))=aj:=by decide):DE X E (.Name x d) (ud i):=λF S f v H Q r h=>by
 unfold ud at h;cases c:jm f i with
 |none=>rw[c]at h;exact h.elim
 |some w=>rw[c]at h;obtain⟨a,u,s,j,g,p,o⟩:=r.frzL (qN c);exact bX (fD n l m q) ⟨_,p,h u s H j g _ o⟩
def qg(i:Nat):ak->R PV:=λa=>(a_ (jm a i) a).bind λc a=>.ok (.int (c.length:Nat)) a
theorem IA(i:Nat){y:Str}{p c:Pos}(n:X.mg "len"=ag)(u:X.N[i]?=aa y:=by rfl)(m:d_ X.env.scope y:=by eq_refl)(q:(y==("__debug__":Str))=aj:=by decide) (x:(y==("__classdict__":Str))=aj:=by decide) (o:Gl X "len":=by rfl)(g:aR [.Name y c] X.env=(aj,bi (.Name y c) X.env)::aR [] X.env:=by rfl) (w:(cS d (aR [] X.env)).any (·.1)=aj:=by rfl):DE X E (.Call (.Name "len" p) [.Name y c] [] d) (qg i):=λF S j A H Q r h=>by
 unfold qg at h;cases f:jm j i with
 |none=>rw[f]at h;exact h.elim
 |some z=>rw[f]at h;obtain⟨a,v,G,s,l,B,C,D⟩:=r.own i _ (qN f);refine bX (o_ gF o n rfl (jH (fD u m q x) km g) (by decide) (by decide) g w) ⟨_,v,.ref a,z.length,rfl,.inl ⟨_,b7.of s,?_⟩,h F S H r (Grow.refl ..) _ rfl⟩;rw[cr,l.len]
def t0(i:Nat)(d1 db de:ak->R PV):ak->R aL:=λj=>(de j).bind λy f=>(a_ (jm f i) f).bind λ_ f=>(d1 f).bind λm a=>(a_ (jm a i) a).bind λg a=>(a_ ((kt m).bind (fE g.length)) a).bind λh a=>
 (db (a.set i .none)).bind λl c=>match c[i]?,g[h]? with
  |some .none,aa xs=>(a_ ((kt l).bind (fE xs.length)) c).bind λn c=>.ok .next (c.set i (.own (.lls (g.set h (xs.set n y)))))
  |_,_=>.no
theorem Cj{K:ar}{H:Hp}{F:af->Prop}{x:PV}{v:V}{k:Int}(h:aJ K H F x v)(e:kt x=aa k):v=.int k:=by
 cases x <;> simp[kt]at e;subst e;exact h
theorem KJ(i:Nat){x:Str}{p l g:Pos}(h1:DE X E b1 d1)(hb:DE X E b db)(he:DE X E e de)(hN:X.N[i]?=aa x:=by rfl)(hv:d_ X.env.scope x:=by eq_refl)(hd:(x==("__debug__":Str))=aj:=by decide)(br:(x==("__classdict__":Str))=aj:=by decide) (Z:tL b1:=by exact λ_ _=>rfl) (ha:∀v,li (.Subscript (.Subscript (.Name x p) b1 l) b g) X.env v=(do
   let ov <-jQ [v] (bi (.Subscript (.Name x p) b1 l) X.env)
   let iv <-jQ [v,ov] (bi b X.env)
   standAt g
   jQ [v,ov,iv] (setItem ov iv v)
   release [v,ov,iv] []):=by intro _;rfl) (hs:swapsWithSole [.Subscript (.Subscript (.Name x p) b1 l) b g] e d.line X.env=pure aj:=by rfl) (hw:swappedStores [.Subscript (.Subscript (.Name x p) b1 l) b g] e X.env=pure ag:=by rfl)
  (ho:(assignEach [.Subscript (.Subscript (.Name x p) b1 l) b g] X.env).map (·.2)=[li (.Subscript (.Subscript (.Name x p) b1 l) b g) X.env]:=by rfl):DS X E pin (.Assign [.Subscript (.Subscript (.Name x p) b1 l) b g] e d) (t0 i d1 db de):=λF S ε r H D rl h=>by
 refine gC (Ap bI (yX (v5 cV (fD hN hv hd br) bI Z) bI BX ha) hs hw ho) (he F S ε r H _ rl (h.bindE.imp λy A F1 S1 H1 P g1 q v rv=>?_));cases e0:jm A i with
 |none=>rw[e0]at q;exact q.elim
 |some xss0=>
  rw[e0]at q;simp only[cQ,R.bind_ok]at q;obtain⟨a,ea,_⟩:=P.own i _ (qN e0);refine⟨.ref a,ea,h1 F1 S1 A r H1 _ P (q.bindE.imp λk1 u F2 S2 H2 n g2 f u1 N=>?_)⟩;cases K:jm u i with
  |none=>rw[K]at f;exact f.elim
  |some bW=>
   rw[K]at f;simp only[cQ,R.bind_ok]at f;obtain⟨a',C,as,jw,T,nd,na,G⟩:=n.own i _ (qN K);rw[ea]at C;cases C;cases m:(kt k1).bind (fE bW.length)with
   |none=>rw[m]at f;exact f.elim
   |some j1=>
    rw[m]at f;simp only[cQ,R.bind_ok]at f;cases e3:kt k1 with
    |none=>rw[e3]at m;cases m
    |some i1=>
     rw[e3,fm]at m;have hj1:=(vK m).2.1;obtain⟨xs,B⟩:∃xs,bW[j1]?=aa xs:=⟨_,dY hj1⟩
     obtain⟨c,vs,hc,fV,hr⟩:=T.get B;refine .inl ⟨a,_,i1,.ref c,rfl,Cj N e3,b7.of jw,?_,?_⟩
     .unfold eK;rw[cr,T.len,m,fm,fN,hc];rfl
     .have O:=n.hide i;refine hb F2 _ _ r H2 _ O ?_;cases e4:db (u.set i .none)with
      |no=>rw[e4]at f;exact f.elim
      |er c ε'=>rw[e4]at f;exact λx F' S' H' r' g'=>f x F' S' r H' r' (g'.wide λb ⟨j,z⟩=>⟨j,z.1⟩) (gv.refl _ _)
      |ok k2 s=>
       rw[e4]at f;intro F3 S3 H3 r3 g3 u2 M;simp only[R.bind_ok]at f;rw[B]at f;cases J:s[i]? with
       |none=>rw[J]at f;exact f.elim
       |some sl=>
        rw[J]at f;cases sl with
        |val _=>exact f.elim
        |own _=>exact f.elim
        |none=>
         dsimp only at f;cases e6:kt k2 with
         |none=>rw[e6]at f;exact f.elim
         |some i2=>
          rw[e6,fm]at f;cases e7:fE xs.length i2 with
          |none=>rw[e7]at f;exact f.elim
          |some j2=>
           rw[e7]at f;simp only[cQ,R.bind_ok]at f;obtain⟨S4,eS,r4,I,W⟩:=n.unhide (qN K) r3 g3 J;have hi:i<s.length:=(bY.mp J).1;have hS4:∀b,S4 i b↔b=a\/b∈as:=by rw[eS];exact G
           have hcS:S2 i c:=(G c).mpr (.inr (kB hc));have Q:fJ X.K H3 F3 bW as:=T.mono (λ_ _ z=>z.grow I n.fit) λb o hb w=>W b o ((G b).mpr (.inr hb)) w;have ha4:=W a _ ((G a).mpr (.inl rfl)) jw;have Y:=hr.grow I n.fit;have L:=(rv.grow g2 P.fit).grow I n.fit;obtain⟨r5,g5⟩:=r4.updL (i:=i) (cR hi) ea ha4 Q nd na hS4 hc (Y.set L j2);rw[List.set_set]at r5;exact⟨c,vs,i2,j2,rfl,Cj M e6,W c _ hcS fV,by rw[hr.len];exact e7,f F3 S4 r _ r5 (I.trans g5) (gv.refl _ _)⟩
end
def mC(a:List Nat)(de:ak->R PO):List PV->List (List PV)->ak->R (List (List PV))
 |[],d,c=>.ok d c
 |x::xs,d,c=>(bL (cc a de x c)).bind λy b=>match y with
  |.lst e=>mC a de xs (d++[e]) b
  |_=>.no
def t3(c:List Nat)(f:ak->R (List PV))(de:ak->R PO):ak->R PO:=λd=>(f d).bind λxs b=>(mC c de xs [] b).bind λe a=>.ok (.lls e) a
theorem GD{K:ar}{E:XK}{F:af->Prop}{S:Nat->af->Prop}{u:ak}{f:St}{H:Hp}{I:Type}{e:List Nat}{d:ak->R I}{x:PV}{v:V}{C:I->ak->(af->Prop)->(Nat->af->Prop)->Hp->Prop}(r:aG K F S u f H) (P:aJ K H F x v) (h:Ok K E f F S H (bL (cc e d x u)) C):∃M l,aG K F M l (aa v::eZ f e) H/\Ok K E0 (aa v::eZ f e) F M H (d l) (λa _ s Y q=>∃j p,aG K s p j f q/\Grow (U S) (U p) F s H q/\(∀b,U p b->U Y b\/U S b)/\C a j s p q):=by
 unfold cc at h;cases D:cL u e with
 |none=>rw[D]at h;exact h.elim
 |some g=>
  rw[D]at h;simp only[cQ,R.bind_ok]at h;by_cases A:(cB g).Nodup
  .rw[if_pos A]at h;cases w:eO u (.inl x::g)with
   |none=>rw[w]at h;exact h.elim
   |some l=>
    rw[w]at h;simp only[cQ,R.bind_ok]at h;obtain⟨y,X,W⟩:=sJ r D;have o:iQ K f F H (.inl x::g) (v::y):=⟨v,y,rfl,P,X⟩
    have n:aa v::eZ f e=(v::y).map aa:=by rw[W];rfl
    have m:(cB (.inl x::g)).Nodup:=A;refine⟨kn (.inl x::g) S,l,by rw[n];exact r.cal o w m,?_⟩;rw[n];cases B:d l with
    |no=>rw[B]at h;exact h.elim
    |er c G=>
     rw[B]at h;unfold gX at h;dsimp only at h;by_cases i:gH (.inl x::g) G=ah
     .rw[if_pos i]at h;exact h.elim
     .rw[if_neg i]at h;exact h.elim
    |ok a G=>
     rw[B]at h;intro s p q Q T;unfold gX at h;dsimp only at h;by_cases i:gH (.inl x::g) G=ah
     .rw[if_pos i]at h;obtain⟨N,J,L,O⟩:=r.called o w m Q T (λ_ z=>z) (lO i);exact⟨_,N,J,L,O,h s N q J L⟩
     .rw[if_neg i]at h;exact h.elim
  .rw[if_neg A]at h;exact h.elim
theorem fJ.snoc{K:ar}{H:Hp}{F:af->Prop}{c:List (List PV)}{d:List af}{xs:List PV}{b:af}{a:List V}(h:fJ K H F c d)(f:H b=aa (.lst a))(e:aS K H F xs a):fJ K H F (c++[xs]) (d++[b]):=x0 h ⟨a,f,e⟩
section
variable{X:Cx}{E:XK}{n:dD}{x:Str}{N':List Str}{cap:List Nat}
theorem Kr{elt N:aA}{px:Pos}{di:ak->R (List PV)}{de:ak->R PO}(hi:DI X E (.Name x px) N di)(he:∀C d f M L,DN (bP X n N' C d f M L) E0 elt de){F:af->Prop}{S:Nat->af->Prop}{ε:ak}{B:St}{H:Hp}{Q:VK} (rl:aG X.K F S ε B H) (h:Ok X.K E B F S H (t3 cap di de ε) (λpo _ G T r=>∀a Sa,ez X.K r G po a Sa->(∀b,Sa b->H b=ag/\¬G b/\¬U T b/\∃o,r b=aa o/\dy o)->Q (.ref a) r)):ur (lX X (.Name x px) N) (λB H Q=>∀C d f M L,oQ (bP X n N' C d f M L) [] B H Q) (λB H Q=>∀C d f M L,gw (bP X n N' C d f M L) elt B H Q) cap B H Q:=by
 refine hi F S ε B H _ rl ((Ok.bind h).imp λxs ε1 F1 S1 H1 r1 g1 h1 J vs RR rs hz hw keep l hl=>?_);have h1:=h1.bind;have hvl:vs.length=xs.length:=rs.len;have a0:Al F1 F1 H1 (upd H1 l (.lst [])):=Al.new0 hl;have nF1:¬F1 l:=λz=>by obtain⟨o,q⟩:=r1.ex l z;rw[hl]at q;cases q
 have nS1:¬U S1 l:=λ⟨i,z⟩=>by obtain⟨_,_,o,q,_⟩:=r1.foot i l z;rw[hl]at q;cases q
 have hH:H l=ag:=mJ g1 hl;refine⟨λi m W r=>m=xs.length-i/\i<=xs.length/\∃G T ε' P u,aG X.K G T ε' B r/\Grow (U S1) (U T) F1 G H1 r/\W=u.map .ref/\r l=aa (.lst W)/\¬G l/\¬U T l/\fJ X.K r G P u/\u.Nodup/\l∉u/\(∀b∈u,H b=ag/\¬G b/\¬U T b)/\u.length<=i /\ Ok X.K E B F1 S1 H1 (mC cap de (xs.drop i) P ε') (λys' D F2 S2 Z=>Ok X.K E B F2 S2 Z (R.ok (PO.lls ys') D) (λpo _ G T r=>∀a Sa,ez X.K r G po a Sa->(∀b,Sa b->H b=ag/\¬G b/\¬U T b/\∃o,r b=aa o/\dy o)->Q (.ref a) r)),⟨_,rfl,l8 _,F1,S1,ε1,[],[],r1.al a0,a0.grow,rfl,upd_same,nF1,nS1,Paired.nil,List.nodup_nil,(by simp),(by simp),bB _,h1⟩,?_⟩;rintro i m W Z ⟨rfl,hi,F2,S2,D,P,u,r2,g2,rfl,el,nF2,nS2,p,nd,nl,A,hyl,q2⟩;have RH:=keep S2 F2 Z g2;by_cases c8:i<xs.length
 .obtain⟨v,hv⟩:∃v,vs[i]?=aa v:=⟨_,dY ∅⟩
  obtain⟨go,yl⟩:=(hw Z RH i).1 v hv;refine .inr ⟨go,λv' r y=>⟨[aa v'],rfl,rfl,?_⟩⟩;obtain⟨e1,e2⟩:=yl v' r y;subst e1 e2;obtain⟨px',hx,rx⟩:=rs.back hv;have ed:xs.drop i=px'::xs.drop (i+1):=by rw[pK c8];congr 1;exact(bY.mp hx).2
  rw[ed]at q2;have rx2:=rx.grow g2 r1.fit;intro C d f M L;have e0:=mG (X:=bP X n N' C d f M L) (E:=E0);refine Bx.mk λae s I=>?_;refine Ag ae s _ r _ I ?_;simp only[if_true];have q5:Ok X.K E B F1 S1 H1 ((bL (cc cap de px' D)).bind λy D=>match y with
   |.lst W=>mC cap de (xs.drop (i+1)) (P++[W]) D
   |_=>.no) _:=q2
  obtain⟨Sc,sc,rc,okc⟩:=GD r2 rx2 (Ok.bindB q5 g2);intro C d f M L;refine he C d f M L F2 Sc sc _ r _ rc (okc.imp λy _ F4 S4b H4 _ _ ⟨ε4,S4,r4,g4,u4,q6⟩ a Sa ow fr=>?_);obtain⟨el4,nF4,nS4⟩:=g4.stay el nS2 nF2;cases y with
  |dK _=>exact q6.elim
  |lls _=>exact q6.elim
  |ins _ _=>exact q6.elim
  |dT _=>exact q6.elim
  |inl _ _ _ _=>exact q6.elim
  |lst W=>
   obtain⟨⟨us,hA,hR⟩,mo⟩:=ow;obtain⟨f1,f2,f3,o,f4,f5⟩:=fr a ((mo a).mpr rfl);have nS4a:¬U S4 a:=λz=>(u4 a z).elim f3 λ⟨j,w⟩=>by obtain⟨_,_,o',w1,_⟩:=r2.foot j a w;rw[f1]at w1;cases w1
   have eG:a≠l:=by rintro rfl;rw[el]at f1;cases f1
   have kpA:∀b o,b∈u->r b=aa o->H4 b=aa o/\¬F4 b/\¬U S4 b:=λb o g w=>g4.stay w (A b g).2.2 (A b g).2.1;have inA:∀b∈u,∃vs,r b=aa (.lst vs):=λb g=>by
    obtain⟨j,hj⟩:=uS g;obtain⟨xs',yR⟩:∃z,P[j]?=aa z:=by have:=(bY.mp hj).1;rw[p.len]at this;exact⟨_,dY this⟩
    obtain⟨b',K,k1,k2,_⟩:=p.get yR;rw[hj]at k1;cases k1;exact⟨K,k2⟩
   have Y:fJ X.K H4 F4 P u:=p.mono (λ_ _ z=>z.grow g4 r2.fit) λb o g w=>(kpA b o g w).1;have haas:a∉u:=λz=>by obtain⟨K,w⟩:=inA a z;rw[f1]at w;cases w
   obtain⟨gl,O,r5⟩:=r4.lay (o':=.lst (u.map .ref++[.ref a])) el4 trivial nF4 nS4;have g5:=(g2.trans g4).lay (o':=.lst (u.map .ref++[.ref a])) hl;have hHa:H a=ag:=mJ g1 (mJ g2 f1);refine⟨el4,?_,_,∅,rfl,c8,F4,S4,ε4,P++[W],u++[a],r5,g5,by simp,upd_same,nF4,nS4,?_,?_,?_,?_,by simp;lia,q6⟩
   .rw[cr];lia
   .exact fJ.snoc (Y.mono (λ_ _ z=>z.grow gl O) λb o g w=>by rw[bd (by rintro rfl;exact nl g)];exact w) (by rw[bd eG];exact hA) (hR.grow gl O)
   .rw[List.nodup_append];refine⟨nd,by simp,λb g c hc=>?_⟩;simp at hc;subst hc;rintro rfl;exact haas g
   .simp only[iw,jr,not_or];exact⟨nl,cX eG⟩
   .intro b g;simp only[iw,jr]at g;rcases g with g|rfl
    .obtain⟨K,w⟩:=inA b g;exact⟨(A b g).1,(kpA b _ g w).2⟩
    .exact⟨hHa,f2,nS4a⟩
 .have e:i=xs.length:=∅
  subst e;refine .inl ⟨(hw Z RH _).2 hvl.symm,?_⟩;rw[yh]at q2;refine q2 F2 S2 Z r2 g2 F2 S2 Z r2 (Grow.refl ..) l (λb=>b=l\/b∈u) ⟨u,el,p,nd,nl,λb=>pJ⟩ λb z=>?_;rcases z with rfl|g
  .exact⟨hH,nF2,nS2,_,el,trivial⟩
  .obtain⟨j,hj⟩:=uS g;obtain⟨xs',yR⟩:∃z,P[j]?=aa z:=by have:=(bY.mp hj).1;rw[p.len]at this;exact⟨_,dY this⟩
   obtain⟨b',K,k1,k2,_⟩:=p.get yR;rw[hj]at k1;cases k1;exact⟨(A b g).1,(A b g).2.1,(A b g).2.2,_,k2,trivial⟩
variable{pin:List Nat}
theorem HY{F:af->Prop}{S:Nat->af->Prop}{g:ak}{d:St}{H:Hp}{D:iV}{i:Nat}{dn:ak->R PO}(C:i∉pin)(K:aG X.K F S g d H)(h:hZ X.K E pin d F S H (fg i dn g) D):Ok X.K E d F S H (dn g) (λu _ l s f=>∀a r,ez X.K f l u a r->(∀b,r b->H b=ag/\¬l b/\¬U s b/\∃o,f b=aa o/\dy o)->D.nx (d.set i (aa (.ref a))) f):=by
 unfold fg at h;cases q:dn g with
 |no=>rw[q]at h;exact h.elim
 |er c w=>rw[q]at h;exact λx l s f A G=>h x l s d f A G (gv.refl _ _)
 |ok u m=>
  rw[q]at h;simp only[R.bind_ok]at h;intro J L I y e a r B v;by_cases p:i<m.length
  .rw[if_pos p]at h;refine h J _ _ I (y.setOwn p B λb z=>(v b z).2) ⟨e.fro,e.keep,e.there,e.fnew,λb ⟨j,z⟩=>?_⟩ (gv.set C);rcases z with z|⟨_,z⟩
   .exact e.onew b ⟨j,z.1⟩
   .exact .inr (v b z).1
  .rw[if_neg p]at h;exact h.elim
theorem Et{F:af->Prop}{S:Nat->af->Prop}{j:ak}{e:St}{H:Hp}{D:iV}{i:Nat}{dn:ak->R PO}(O:i∉pin)(Z:aG X.K F S j e H)(h:hZ X.K E pin e F S H (bR i (dF dn) j) D):Ok X.K E e F S H (dn j) (λp _ m s g=>∀a d,ez X.K g m p a d->(∀b,d b->H b=ag/\¬m b/\¬U s b/\∃o,g b=aa o/\dy o)->D.nx (e.set i (aa (.ref a))) g):=by
 unfold bR dF at h;cases r:dn j with
 |no=>rw[r]at h;exact h.elim
 |er c G=>rw[r]at h;exact λx m s g L Y=>h x m s e g L Y (gv.refl _ _)
 |ok p B=>
  rw[r]at h;intro A v l K f a d M u;cases p with
  |dK q=>exact h.elim
  |lls bW=>exact h.elim
  |ins C fs=>exact h.elim
  |dT q=>exact h.elim
  |inl C fs y xs=>exact h.elim
  |lst xs=>
   have T:∀b,d b->¬U v b/\∃o,l b=aa o:=λb z=>let ⟨_,_,x3,o,x4,_⟩:=u b z;⟨x3,o,x4⟩
   obtain⟨⟨I,P,N⟩,Q⟩:=M;have W:Grow (U S) (U v) F (λb=>A b\/d b) H l:=⟨λb z=>.inl (f.fro b z),f.keep,f.there,λb z=>z.elim (f.fnew b) λw=>.inr (.inl (u b w).1),f.onew⟩
   have J:aJ X.K l (λb=>A b\/d b) (.lst xs) (.ref a):=⟨a,I,rfl,.inl P,.inr ((Q a).mpr rfl),aS.mono (λ_ z=>.inl z) (λ_ _ _ z=>z) (λ_ _ z _=>z) _ _ N⟩
   exact h _ _ _ l ((K.more T).set J) (W.trans (Grow.less i)) (gv.set O)
section
variable{b a:aA}{y:Str}{f g d c:Pos}{j:ak->R (List PV)}{dt:ak->R Bool}{de:ak->R PV}{l:ak->R PO}{e:List aA}
theorem DJ(i:Nat)(P:X.N.Nodup)(B:iD X n x N' cap)(O:X.calm=ah)(L:DI X E (.Name x f) a j)(G:∀C m o q p,DF (bP X n N' C m o q p) E0 e dt) (N:∀C m o q p,DE (bP X n N' C m o q p) E0 b de)(K:i∉pin:=by decide) (z:X.N[i]?=aa y:=by rfl) (A:Loc X.env.scope y:=by first|exact Or.inl rfl|exact Or.inr rfl) (w:i8 (.ListComp b [⟨.Name x f,a,e,0⟩] n d) (aa (.Name y g)) c.line X.env=pure ah:=by rfl)(M:X.fn y=ah\/X.env.scope.names.lookup y=aa .local:=by first|exact .inl rfl|exact .inr rfl) (J:∀x,kA a X.env x=pure x:=by intro _;rfl):DS X E pin (.Assign [.Name y g] (.ListComp b [⟨.Name x f,a,e,0⟩] n d) c) (bR i (dF (cm cap j dt de))):=λF S T r H D v h=>gC (BU (wi:=lX X (.Name x f) a) (ts:=λr H Q=>∀C m o q p,oQ (bP X n N' C m o q p) e r H Q) (te:=λr H Q=>∀C m o q p,gw (bP X n N' C m o q p) b r H Q) B O uw (λC m o q p u s r H Q I h=>(h C m o q p).run u s I) (λC m o q p u s r H Q I h=>(h C m o q p).run u s I) P z A w M J) (AA L G N v (Et K v h))
theorem Hi(i:Nat)(O:X.N.Nodup)(B:iD X n x N' cap)(N:X.calm=ah)(K:DI X E (.Name x f) a j)(M:∀C m o q p,DN (bP X n N' C m o q p) E0 b l)(J:i∉pin:=by decide) (z:X.N[i]?=aa y:=by rfl) (A:Loc X.env.scope y:=by first|exact Or.inl rfl|exact Or.inr rfl) (w:i8 (.ListComp b [⟨.Name x f,a,[],0⟩] n d) (aa (.Name y g)) c.line X.env=pure ah:=by rfl)(L:X.fn y=ah\/X.env.scope.names.lookup y=aa .local:=by first|exact .inl rfl|exact .inr rfl) (G:∀x,kA a X.env x=pure x:=by intro _;rfl):DS X E pin (.Assign [.Name y g] (.ListComp b [⟨.Name x f,a,[],0⟩] n d) c) (fg i (t3 cap j l)):=λF S P r H D v h=>gC (BU (wi:=lX X (.Name x f) a) (ts:=λr H Q=>∀C m o q p,oQ (bP X n N' C m o q p) [] r H Q) (te:=λr H Q=>∀C m o q p,gw (bP X n N' C m o q p) b r H Q) B N uw (λC m o q p u s r H Q I h=>(h C m o q p).run u s I) (λC m o q p u s r H Q I h=>(h C m o q p).run u s I) O z A w L G) (Kr K M v (HY J v h))
end
def ol:List PV->Option PO
 |[.str y]=>aa (.lst (y.map λc=>.str [c]))
 |_=>ag
theorem HF{K:ar}:kT K (λxs H Q=>∃y:Tx,xs=[tV y]/\y.length<=bF/\∀l,H l=ag->Q (.ref l) (upd H l (.lst (y.map sg)))) ol:=λF H xs f Q g d b e q=>by
 unfold ol at e;split at e
 .cases e;obtain⟨v,rfl,rfl,c⟩:=gx b;exact⟨_,rfl,c,λl a=>q l F _ _ (Al.new0 a) (qu a (vR _)) (qF a d trivial)⟩
 .cases e
end
def e_(a:List Nat):Nat->ak->Bool
 |_,[]=>ah
 |i,.own c::b=>a.contains i&&gz c&&e_ a (i+1) b
 |i,_::b=>e_ a (i+1) b
theorem oz{c:List Nat}:∀{b:ak}{k:Nat},e_ c k b=ah->∀(i:Nat) a,b[i]?=aa (.own a)->k+i∈c/\gz a=ah
 |[],_,_,i,a,e=>by simp at e
 |.own q::b,k,h,0,a,e=>by simp only[CL,Option.some.injEq,Slot.own.injEq]at e;subst e;simp only[e_,fP]at h;exact⟨by simpa using h.1.1,h.1.2⟩
 |.own q::b,k,h,i+1,a,e=>by simp only[e_,fP]at h;have:=oz (k:=k+1) h.2 i a (by simpa using e);rwa[CM,yn]at this
 |.val q::b,k,h,0,a,e=>by simp at e
 |.none::b,k,h,0,a,e=>by simp at e
 |.val q::b,k,h,i+1,a,e=>by have:=oz (k:=k+1) (by simpa[e_]using h) i a (by simpa using e);rwa[CM,yn]at this
 |.none::b,k,h,i+1,a,e=>by have:=oz (k:=k+1) (by simpa[e_]using h) i a (by simpa using e);rwa[CM,yn]at this
def bO(len:Nat)(b:List Nat)(g:ak->R Slot):ak->R Slot:=λa=>if a.length=len/\e_ b 0 a=ah then g a else .no
theorem dZ{q:fY}{P:aT}{w:aK}{K:ar}{o:Str->Option ai}{g:aB}{x:Str}{c:bf}{N b:List Str}{k n:Nat}{d:ak->R aL}{pin:List Nat}(D:cM K o x c)(G:ce N b (ba c))(v:N.length=b.length+n)(y:∀(kV p u:ai) (F:Option af) (l C:ai) (m:List ai),m.length=b.length->fk (ik x x (iU c) (fi c) (ba c) .none kV p u F l C) ⟨m,[]⟩=pure (b.zip m))(B:∀(f:af) (l:ai) (A:aV) (j:List Env) (s:ao) (H:Hp) (E:XK),fc k (A.deeper (ix x (ba c) s.heap.objs.size f l))->fX (io q P w K o g N x (ba c) f l A j s H E) E pin (fi c) d):c_ q P w K o g x (k+1) b (bS K (bO b.length pin (bN n d))):=by
 have no:∀{a},bO b.length pin (bN n d) a≠.no->a.length=b.length/\e_ pin 0 a=ah:=λ{a} h=>by
  unfold bO at h;by_cases z:a.length=b.length/\e_ pin 0 a=ah
  .exact z
  .rw[if_neg z]at h;exact absurd rfl h
 exact KL D G v y (λa h=>(no h).1) (λa h i r e=>by have:=oz (no h).2 i r e;rwa[Nat.zero_add]at this) (λa h=>by unfold bO;rw[if_pos (no h)]) B
theorem Gm{f:af}{r:gi}{u:fY}{P:aT}{w:aK}{K:ar}{q:Str->Option ai}{j:aB}{x a:Str}{g:bf}{N c:List Str}{k n:Nat}{d:ak->R aL}{pin:List Nat}(J:mL K x a g f r)(I:ce N c (ba g))(B:N.length=c.length+n)(C:∀(kV p y:ai) (G:Option af) (m F:ai) (o:List ai),o.length=c.length->fk (ik x a (iU g) (fi g) (ba g) .none kV p y G m F) ⟨o,[]⟩=pure (c.zip o))(D:∀(f:af) (m:ai) (A:aV) (l:List Env) (s:ao) (H:Hp) (E:XK),fc k (A.deeper (ix a (ba g) s.heap.objs.size f m))->fX (io u P w K q j N a (ba g) f m A l s H E) E pin (fi g) d):jC P w K q j u (k+1) f r c (bS K (bO c.length pin (bN n d))):=by
 have no:∀{b},bO c.length pin (bN n d) b≠.no->b.length=c.length/\e_ pin 0 b=ah:=λ{b} h=>by
  unfold bO at h;by_cases z:b.length=c.length/\e_ pin 0 b=ah
  .exact z
  .rw[if_neg z]at h;exact absurd rfl h
 exact AL J I B C (λb h=>(no h).1) (λb h i v e=>by have:=oz (no h).2 i v e;rwa[Nat.zero_add]at this) (λb h=>by unfold bO;rw[if_pos (no h)]) D
theorem ES{P:aT}{w:aK}{K:ar}{o:Str->Option ai}{g:aB}{x:Str}{c:bf}{N b:List Str}{k n:Nat}{d:ak->R aL}{pin:List Nat}(D:cM K o x c)(E:ce N b (ba c))(u:N.length=b.length+n)(v:∀(kV p r:ai) (C:Option af) (l B:ai) (m:List ai),m.length=b.length->fk (ik x x (iU c) (fi c) (ba c) .none kV p r C l B) ⟨m,[]⟩=pure (b.zip m))(y:∀(f:af) (l:ai) (A:aV) (j:List Env) (s:ao) (H:Hp),jk k (A.deeper (ix x (ba c) s.heap.objs.size f l))->fX (q_ P w K o g N x (ba c) f l A j s H) E0 pin (fi c) d):tf P w K o g x (k+1) b (bS K (bO b.length pin (bN n d))):=by
 have no:∀{a},bO b.length pin (bN n d) a≠.no->a.length=b.length/\e_ pin 0 a=ah:=λ{a} h=>by
  unfold bO at h;by_cases z:a.length=b.length/\e_ pin 0 a=ah
  .exact z
  .rw[if_neg z]at h;exact absurd rfl h
 exact Dd D E u v (λa h=>(no h).1) (λa h i q e=>by have:=oz (no h).2 i q e;rwa[Nat.zero_add]at this) (λa h=>by unfold bO;rw[if_pos (no h)]) y
theorem BQ{P:List ai->Prop}(h:∀a,P [a])(c:List ai)(d:c.length=1):P c:=by
 cases c with
 |nil=>cases d
 |cons a r=>cases r with
  |nil=>exact h a
  |cons b r=>cases d
theorem B9{P:List ai->Prop}(h:∀a b,P [a,b])(c:List ai)(d:c.length=2):P c:=by
 cases c with
 |nil=>cases d
 |cons a r=>exact BQ (P:=λr=>P (a::r)) (h a) r (Nat.succ.inj d)
theorem zT{P:List ai->Prop}(h:∀a b c,P [a,b,c])(d:List ai)(e:d.length=3):P d:=by
 cases d with
 |nil=>cases e
 |cons a r=>exact B9 (P:=λr=>P (a::r)) (h a) r (Nat.succ.inj e)
theorem JV{P:List ai->Prop}(h:∀a b c d,P [a,b,c,d])(e:List ai)(f:e.length=4):P e:=by
 cases e with
 |nil=>cases f
 |cons a r=>exact zT (P:=λr=>P (a::r)) (h a) r (Nat.succ.inj f)
theorem Ls{d:gi}{c:List Str}(h:∀a,fk d ⟨[a],[]⟩=pure (c.zip [a]))(b:List ai)(e:b.length=1):fk d ⟨b,[]⟩=pure (c.zip b):=BQ (P:=λb=>fk d ⟨b,[]⟩=pure (c.zip b)) h b e
theorem Lh{e:gi}{d:List Str}(h:∀a b,fk e ⟨[a,b],[]⟩=pure (d.zip [a,b]))(c:List ai)(f:c.length=2):fk e ⟨c,[]⟩=pure (d.zip c):=B9 (P:=λc=>fk e ⟨c,[]⟩=pure (d.zip c)) h c f
theorem Lp{f:gi}{e:List Str}(h:∀a b c,fk f ⟨[a,b,c],[]⟩=pure (e.zip [a,b,c]))(d:List ai)(g:d.length=3):fk f ⟨d,[]⟩=pure (e.zip d):=zT (P:=λd=>fk f ⟨d,[]⟩=pure (e.zip d)) h d g
theorem LF{g:gi}{f:List Str}(h:∀a b c d,fk g ⟨[a,b,c,d],[]⟩=pure (f.zip [a,b,c,d]))(e:List ai)(i:e.length=4):fk g ⟨e,[]⟩=pure (f.zip e):=JV (P:=λe=>fk g ⟨e,[]⟩=pure (f.zip e)) h e i
theorem iZ{P:aT}{w:aK}{X:Cx}:qJ (cx P w) X E0:=λ_ _ _ _ _ _ _ h=>by obtain⟨a,T,c,b,_,_,_,_,_,_,_,z⟩:=h;exact z.elim
theorem g7:eD "len"=aa (.builtin "len"):=by decide +kernel
theorem Ce:eD "all"=aa (.builtin "all"):=by decide +kernel
theorem lP:eD "sorted"=aa (.builtin "sorted"):=by decide +kernel
theorem gB:eD "isinstance"=aa (.builtin "isinstance"):=by decide +kernel
theorem HV:eD "int"=aa (.type "int"):=by decide +kernel
theorem HI:eD "bool"=aa (.type "bool"):=by decide +kernel
theorem GE:eD "str"=aa (.type "str"):=by decide +kernel
theorem sV:eD "list"=aa (.type "list"):=by decide +kernel
theorem lL:eD "tuple"=aa (.type "tuple"):=by decide +kernel
theorem Jc:eD "ValueError"=aa (.type "ValueError"):=by decide +kernel
def wA:aA->Bool
 |.Starred _ _=>ah
 |_=>aj
theorem sF{e:aA}{b:List aA}{a:Env}(h:wA e=aj):aR (e::b) a=(aj,bi e a)::aR b a:=by
 cases e <;> first|rfl|cases h
section
variable{X:Cx}{E:XK}{e:aA}{a:List aA}{d:ak->R PV}{b:ak->R (List PV)}{c:ak->R (List cA)}
theorem au(g:DE X E e d)(f:DA X E a b)(h:wA e=aj:=by rfl):DA X E (e::a) (ap d b):=GO g f (sF h)
theorem aI(g:DE X E e d)(f:DG X E a c)(h:wA e=aj:=by rfl):DG X E (e::a) (gV d c):=EH g f (sF h)
end
def qH:List ai:=[.type "ValueError",.type "Exception",.type "BaseException",.type "object"]
theorem xr{K:ar}{h:aB}{C:af}{B:List ai}{nw:String}(X:K.In h)(q:l9 K C B nw=ah):∃g N v o bs D i a F c E A z y x w f,h.get? C=aa (yj v o C N bs g D i a F c E A z y x w nw)/\h.Ns N f/\f "__init__"=ag/\OwnTail h B g:=by
 unfold l9 at q;split at q
 case h_2=>cases q
 case h_1 d0 cdata slots look=>
  split at q
  case h_2=>cases q
  case h_1 C2 tl s0 s1 s2 s3 nn s5 em es=>
   rw[fP,fP,fP,fP,fP]at q;obtain⟨⟨⟨⟨⟨u,s⟩,e⟩,r⟩,b⟩,p⟩:=q;have n:=beq_iff_eq.mp u;have m:=beq_iff_eq.mp s;have d:=beq_iff_eq.mp p;subst n m;cases cdata;dsimp only at em e b d;subst em;have l:=CN _ |>.mp e
   subst l;have j:slots=#[s0,s1,s2,s3,aa (.builtin nn),s5]:=by cases slots;exact congrArg Array.mk es
   subst j;exact⟨tl,_,_,_,_,_,_,_,_,_,d0,s0,s1,s2,s3,s5,_,X _ _ look,Heap.Ns.of_isNs (PySem.W.isNs_of_in X b),PySem.W.nsMap_none_of_in X b d,PySem.W.tail_of_in X r⟩
theorem EM{K:ar}{h:aB}{a:Str->Option ai}{x:Str}{C:af}{B:List ai}{nw:String}(X:K.In h)(e:a x=aa (.ref C))(q:l9 K C B nw=ah):OwnCls x C B nw a h:=⟨e,xr X q⟩
theorem Jz{K:ar}{h:aB}{C:af}{nw:String}(X:K.In h)(q:l9 K C qH nw=ah):m_ h C:=by obtain⟨p,N,f,d,bs,n,c,a,r,b,o,m,l,j,i,g,s,e,_,_,t⟩:=xr X q;exact⟨p,N,f,d,bs,n,c,a,r,b,o,m,l,j,i,g,nw,e,t.hasType rfl⟩
def subB(K:ar)(D C:af):Bool:=match K.lookup C with
 |some ⟨_,_,.cls a,_⟩=>a.mro.contains (.ref D)
 |_=>aj
theorem Fa{K:ar}{h:aB}{C D:af}{B:List ai}{nw:String}(X:K.In h)(q:l9 K C B nw=ah)(s:subB K D C=ah):Under h D (.ref C):=by
 obtain⟨r,N,g,f,bs,o,d,a,u,c,p,n,m,l,j,i,y,e,_⟩:=xr X q;refine⟨C,r,N,g,f,bs,o,d,a,u,c,p,n,m,l,j,i,nw,rfl,e,?_⟩;unfold subB at s;split at s
 .rename_i x w z v look;have b:=X _ _ look;rw[e]at b;unfold yj at b;cases b;exact s
 .cases s
def tF(K:ar)(C:af):Bool :=
 nr K (.ref C) "__getattribute__" == aa (aa (.builtin "BaseException.__getattribute__"))&&nr K (.ref C) "__getattr__" == aa ag&&nr K (.ref C) "__class__" == aa (aa (.builtin "object.__class__")) &&
 Ct K (.builtin "object.__class__") "__get__" == aa (aa (.builtin "getset_descriptor.__get__"))&&PySem.W.takesIn K (.builtin "object.__class__") == aa ah&&uF K C (.type "object") == aa ah&&uF K C (.type "BaseException") == aa ah&&(yk K C).isSome
theorem zV{K:ar}{C:af}(h:tF K C=ah):lR K C:=by simp only[tF,fP,beq_iff_eq]at h;obtain⟨⟨⟨⟨⟨⟨⟨i,g⟩,f⟩,e⟩,d⟩,c⟩,b⟩,a⟩:=h;exact⟨i,g,f,e,d,c,b,a⟩
def vc(K:ar):Bool:=K.all λp=>match p.2.cls with
 |.type t=>t != "list"
 |_=>ah
theorem BA{a:af}{o:Obj}:∀{K:ar},K.lookup a=aa o->(a,o)∈K
 |[],e=>by cases e
 | (b,u)::K,e=>by
  rw[jq]at e;cases q:a == b with
  |true=>rw[q]at e;cases e;rw[beq_iff_eq.mp q];exact lZ ..
  |false=>rw[q]at e;exact kw _ (BA e)
theorem AF{K:ar}{H:Hp}{F:af->Prop}:∀a:List Int,aS K H F (a.map .int) (a.map V.int)
 |[]=>rfl
 |x::a=>⟨.int x,a.map V.int,rfl,rfl,AF a⟩
theorem Jh{K:ar}{H:Hp}{a:af}{xs:List V}(h:vc K=ah)(s:b7 K H a xs):Rd H a (.lst xs):=by
 rcases s with s|⟨o,c,n,b,d,_⟩
 .exact s
 .have:=jV.mp h _ (BA b);rw[d]at this;simp at this
theorem JT{K:ar}{g:ak->R Slot}{H:Hp}{a:af}{c:List Int}{E:XK}(d:Rd H a (.lst (c.map V.int)))(h:g [.val (.lst (c.map .int))]=.ok (.val (.bl ah)) [.val (.lst (c.map .int))]):bS K g [.ref a] H (λv _=>v=.bl ah) E:=by
 refine⟨λb=>b=a,λ_ _=>False,[.val (.lst (c.map .int))],⟨rfl,λb e=>?_,λi pv e=>?_,λi l e=>?_,λi b z=>z.elim,λi j b z=>z.elim⟩,?_⟩
 .subst e;rcases d with d|⟨o,d⟩ <;> exact⟨_,d⟩
 .cases i with
  |zero=>cases e;exact⟨_,rfl,a,_,rfl,d,rfl,AF c⟩
  |succ i=>simp at e
 .cases i with
  |zero=>cases e
  |succ i=>simp at e
 .rw[h];exact λv q n p m _ _ f _ _=>f.1
theorem LA{K:ar}{x:Str}{i:Int}{t:Tok}(e:cH K bQ x=aa (aa (.int i t))):∃t,cH K bQ x=aa (aa (.int i t)):=⟨t,e⟩
theorem Lu{K:ar}{x:Str}{l:Tx}{t:Tok}(e:cH K bQ x=aa (aa (.str (tS l) t))):∃t,cH K bQ x=aa (aa (.str (tS l) t)):=⟨t,e⟩
def df(K:ar)(x:Str)(a:bf):Prop:=∃f oc e kV g d i b h c,cH K bQ x=aa (aa (.ref f))/\K.lookup f=aa ⟨oc,e,.func (ik x x (iU a) (fi a) (ba a) .none kV g d i b h),c⟩/\rD K b x=ah/\nt K (.ref f)=ah
theorem Lf{K:ar}{x:Str}{b:bf}{f:af}{oc kV i g d j:ai}{h m:Option af}{e:Array (Option ai)}(a:cH K bQ x=aa (aa (.ref f)))(l:K.lookup f=aa ⟨oc,h,.func (ik x x (iU b) (fi b) (ba b) .none kV i g m d j),e⟩)(c:rD K d x=ah) (k:nt K (.ref f)=ah):df K x b:=⟨f,oc,h,kV,i,g,m,d,j,e,a,l,c,k⟩
theorem df.at{K:ar}{h:aB}{b:Str->Option ai}{x:Str}{st:bf}(d:df K x st)(X:K.In h)(G:h.Ns bQ b):cM K b x st:=by obtain⟨f,oc,i,kV,j,g,n,m,ct,e,a,l,c,k⟩:=d;exact⟨f,_,fQ X G a,Bq l c k⟩
def EB(a:List (aQ×PV))(k:aQ):Option PV:=(a.find? λb=>decide (b.1=k)).map (·.2)
def qt:PV->Option aQ
 |.int i=>aa (.inl i)
 |.str x=>aa (.inr (tS x))
 |_=>ag
section
variable{K:ar}{F:af->Prop}{S:Nat->af->Prop}{d:ak}{f:St}{H:Hp}{i:Nat}{l:List (aQ×PV)}{m:List (aQ×V)}{a:af}
theorem Jv{x:PV}{v:V}{k:aQ}(r:aJ K H F x v)(e:qt x=aa k):v=kV k:=by
 cases x <;> simp[qt]at e
 .subst e;exact r
 .subst e;exact r.1
theorem aG.updO{s po':PO}{o':HO}(r:aG K F S d f H)(e:d[i]?=aa (.own s))(Q:gz s=ah)(I:f[i]?=aa (aa (.ref a)))(P:dy o')(h:∀B,(∀x v,aJ K H F x v->aJ K B F x v)->(∀x v,aS K H F x v->aS K B F x v)->B a=aa o'->∀L:af->Prop,(∀b,L b↔b=a)->ez K B F po' a L):aG K F S (d.set i (.own po')) f (L2.upd H a o')/\Grow (U S) (U S) F F H (L2.upd H a o'):=by
 obtain⟨T,J,O⟩:=r.own i s e;rw[I]at J;cases J;have u:=z6 O Q;have D:S i a:=(u a).mpr rfl;have G:∀b,S i b->b=a:=λb z=>(u b).mp z;have C:i<d.length:=(bY.mp e).1;have g:Grow (U S) (U S) F F H (L2.upd H a o'):=⟨λ_ z=>z,λb o q n=>by rw[bd (by rintro rfl;exact n ⟨i,D⟩)];exact q,λb o q=>by
  by_cases E:b=a
  .subst E;exact⟨_,upd_same⟩
  .exact⟨o,by rw[bd E];exact q⟩,λ_ z=>.inl z,λ_ z=>.inl z⟩
 refine⟨⟨by rw[dX];exact r.len,λb z=>let ⟨o,q⟩:=r.ex b z;g.there b o q,λj pv q=>?_,λj s q=>?_,λj b z=>?_,r.dist⟩,g⟩
 .have p:i≠j:=by rintro rfl;rw[cR C]at q;cases q
  rw[b9 p]at q;obtain⟨v,A,y⟩:=r.val j pv q;exact⟨v,A,y.grow g r.fit⟩
 .by_cases p:i=j
  .subst p;rw[cR C]at q;cases q;exact⟨a,I,h _ (λ_ _ z=>z.grow g r.fit) (λ_ _ z=>z.grow g r.fit) upd_same _ u⟩
  .rw[b9 p]at q;obtain⟨c,A,y⟩:=r.own j s q;refine⟨c,A,y.mono (λ_ _ z=>z.grow g r.fit) (λ_ _ z=>z.grow g r.fit) λb o z w=>?_⟩;rw[bd (by rintro rfl;exact p (r.dist i j b D z))];exact w
 .obtain⟨⟨s,A⟩,y,o,N,M⟩:=r.foot j b z;by_cases p:i=j
  .subst p;rw[G b z];exact⟨⟨_,cR C⟩,by rw[<-G b z];exact y,_,upd_same,P⟩
  .exact⟨⟨s,by rw[b9 p];exact A⟩,y,o,by rw[bd (by rintro rfl;exact p (r.dist i j b D z))];exact N,M⟩
end
def xn(b:ak)(i:Nat):Option (List (aQ×PV)):=match b[i]? with
 |some (.own (.dK a))=>aa a
 |_=>ag
section
variable{X:Cx}{E:XK}{f:List Nat}{e b c:aA}{de a g:ak->R PV}{d:Pos}
def BD(i:Nat)(a:ak->R PV):ak->R PV:=λj=>(a_ (xn j i) j).bind λ_ j=>(a j).bind λk h=>(a_ (xn h i) h).bind λl h=>a_ ((qt k).bind λk=>EB l k) h
end
section
variable{X:Cx}
def Be:List (aQ×PV)->Option (List Tx)
 |[]=>aa []
 | (.inr k,_)::r=>(Be r).map (k.cps.toList::·)
 |_=>ag
def Gb(b:List (aQ×PV)):Option PO:=(Be b).bind λa=>if a.length<64/\(∀x∈a,x.length<=bF)then aa (.lst (am (aZ a)))else ag
def Km(i:Nat):ak->R PO:=λa=>(a_ (xn a i) a).bind λb a=>a_ (Gb b) a
end
end Pu
namespace L2
def tG:Bool->Keyed->Array Keyed->Nat->Nat->Nat->StateT bw Sem (Option Nat):=sortPriv% PySem.Builtin.gallop
def Bi:Array Keyed->Array Keyed->StateT bw Sem (Array Keyed):=sortPriv% PySem.Builtin.mergeLo
def Bk:Array Keyed->Array Keyed->StateT bw Sem (Array Keyed):=sortPriv% PySem.Builtin.mergeHi
def kO(κ:KeyKind)(p:Keyed):κ.α:=(κ.keyOf p.1).getD κ.dflt
def fZ(b:KeyKind)(p:Keyed):Prop:=∃a,b.keyOf p.1=aa a
theorem fZ.k{κ:KeyKind}{p:Keyed}(h:fZ κ p):κ.keyOf p.1=aa (kO κ p):=by obtain⟨a,e⟩:=h;unfold kO;rw[e];rfl
def gI(κ:KeyKind)(kz:fR)(c:aT)(w:aK)(A:aV)(s:ao):Prop :=
 ∀(E:ai->ao->Prop) (x y:ai) (a b:κ.α) {Q:Bool->ao->Prop},κ.keyOf x=aa a->κ.keyOf y=aa b->Q (κ.blt a b) s->aC (ay c w) A (keyLt' kz x y) Q E s
theorem OneLt.ok{κ:KeyKind}(e:κ.OneLt){prog:aT}{w:aK}{A:aV}{s:ao}:gI κ oneType' prog w A s:=λE x y a b _ d c h=>by rw[keyLt'_oneType];exact e prog w A E s x y a b d c h
structure SB(kz:fR)(st:bw):Prop where
 kind:kindOf st=kz
 failed:failedOf st=ag
section
variable{a:aT}{w:aK}{A:aV}{E:ai->ao->Prop}{s:ao}{d:KeyKind}{f:fR}
theorem rg(i:gI d f a w A s){b:bw}{x y:Keyed}{Q:Option Bool->bw->Prop}(g:SB f b)(e:fZ d x)(c:fZ d y)(h:Q (aa (d.blt (kO d x) (kO d y))) b):wpS (ay a w) A E s (lt' x y) Q b:=by rw[lt'_eq];refine aF (jY ?_);rw[g.kind];exact aF (pL (wpAny_attempt (i _ x.1 y.1 _ _ e.k c.k ⟨rfl,aM h⟩)))
theorem ef{c:bw}{b:Array Keyed}{i:Nat}(e:i<b.size){Q:Keyed->bw->Prop}(h:Q b[i] c):wpS (ay a w) A E s (elem' b i) Q c:=by rw[elem'_eq,getElem?_pos b i e];exact aM h
def y_(c:Bool)(e:Keyed)(h:Array Keyed)(g i:Nat):StateT bw Sem (Option Bool) :=elem' h (g+i) >>= λx=>if c=ah then lt' x e else lt' e x >>= λb=>pure (b.map (!·))
def kh(d:KeyKind)(b:Bool)(c x:Keyed):Bool:=if b=ah then d.blt (kO d x) (kO d c)else !d.blt (kO d c) (kO d x)
theorem Gh(o:gI d f a w A s){j:bw}{c:Bool}{g:Keyed}{e:Array Keyed}{b i:Nat}{Q:Option Bool->bw->Prop}(n:SB f j)(m:fZ d g)(p:b+i<e.size)(l:fZ d e[b+i])(h:Q (aa (kh d c g e[b+i])) j):wpS (ay a w) A E s (y_ c g e b i) Q j:=by
 refine aF (ef p ?_);cases c
 .rw[if_neg (by simp)];exact aF (rg o n m l (aM h))
 .rw[if_pos rfl];exact rg o n l m h
theorem Bp(hO:gI d f a w A s){K:bw}(hk:SB f K){G:Bool}{L:Keyed}{z:Array Keyed}{u n b:Nat}{Q:Option Nat->bw->Prop}(nE:fZ d L)(hn:u+n<=z.size)(hA:∀i (g:i<z.size),fZ d z[i]) (B:Nat->Bool) (hB:∀i (g:i<n),B i=kh d G L (z[u+i]'∅))(mono:∀i j,i<=j->j<n->B j=ah->B i=ah) (hh:b<n)(h:∀r,r<=n->(∀i,i<r->B i=ah)->(∀i,r<=i->i<n->B i=aj)->Q (aa r) K):wpS (ay a w) A E s (tG G L z u n b) Q K:=by
 have O:∀{i:Nat}{Q:Option Bool->bw->Prop},i<n->Q (aa (B i)) K->wpS (ay a w) A E s (y_ G L z u i) Q K:=λ{i Q} g q=>Gh hO hk nE ∅ (hA _ _) (by rw[<-hB i g];exact q);have dn:∀{i j:Nat},i<=j->j<n->B i=aj->B j=aj:=λ{i j} bx hj hf=>by
  cases e:B j with
  |false=>rfl
  |true=>rw[mono i j bx hj e]at hf;cases hf
 unfold tG;refine aF (O hh ?_);cases hr:B b with
 |true=>
  dsimp only;rw[if_pos rfl];refine aF (fS (fU (I:=λx c m=>m=K/\∃l o,c=(ag,l,o)/\l<o/\x<o/\l<n-b/\B (b+l)=ah) (Q:=λc m=>m=K/\∃l o,c=(ag,l,o)/\l<o/\l<n-b/\B (b+l)=ah/\(n-b<=o\/(o<n-b/\B (b+o)=aj))) ?_ ?_ ?_) ?_)
  .rintro x c m _ P ⟨rfl,l,o,rfl,J,T,H,p⟩;dsimp only;by_cases v:o ≥ n-b
   .rw[if_pos v];exact aM ⟨rfl,l,o,rfl,J,H,p,.inl v⟩
   .rw[if_neg v];refine aF (O ∅ ?_);cases e:B (b+o)with
    |true=>exact aM ⟨rfl,o,2*o+1,rfl,∅,∅,∅,e⟩
    |false=>exact aM ⟨rfl,l,o,rfl,J,H,p,.inr ⟨∅,e⟩⟩
  .rintro c m ⟨rfl,l,o,rfl,J,T,H,p⟩;exact⟨rfl,l,o,rfl,J,H,p,.inl ∅⟩
  .exact⟨rfl,0,1,rfl,∅,∅,∅,hr⟩
  rintro c m ⟨rfl,l,o,rfl,J,H,p,M⟩;dsimp only;have Z:b+l+1<=b+min o (n-b):=∅
  have Y:b+min o (n-b)<=n:=∅
  have X:∀i,i<b+l+1->B i=ah:=λi g=>mono i (b+l) ∅ ∅ p;have W:∀i,b+min o (n-b)<=i->i<n->B i=aj:=by
   intro i g N;rcases M with M|⟨M,S⟩
   .lia
   .exact dn (i:=b+o) ∅ N S
  clear M;generalize b+l+1=lo at *;generalize b+min o (n-b)=g at *;refine aF (fS (fU (I:=λx c y=>y=m/\∃l r,c=(ag,l,r)/\l<=r/\r<=n/\r-l<=n-x/\(∀i,i<l->B i=ah)/\(∀i,r<=i->i<n->B i=aj)) (Q:=λc y=>y=m/\∃l r,c=(ag,l,r)/\r<=n/\(∀i,i<r->B i=ah)/\(∀i,r<=i->i<n->B i=aj)) ?_ ?_ ?_) ?_)
  .rintro x c y _ P ⟨rfl,l,r,rfl,a1,F,a3,D,C⟩;dsimp only;by_cases v:l ≥ r
   .rw[if_pos v];have:l=r:=∅
    subst this;exact aM ⟨rfl,l,l,rfl,F,D,C⟩
   .rw[if_neg v];refine aF (O ∅ ?_);cases e:B (l+(r-l) / 2)with
    |true=>exact aM ⟨rfl,_,r,rfl,∅,F,∅,λi g=>mono _ _ ∅ ∅ e,C⟩
    |false=>exact aM ⟨rfl,l,_,rfl,∅,∅,∅,D,λi g N=>dn (i:=l+(r-l) / 2) g N e⟩
  .rintro c y ⟨rfl,l,r,rfl,a1,F,a3,D,C⟩;have:l=r:=∅
   subst this;exact⟨rfl,l,l,rfl,F,D,C⟩
  .exact⟨rfl,lo,g,rfl,Z,Y,∅,X,W⟩
  .rintro c y ⟨rfl,l,r,rfl,F,D,C⟩;exact aM (h r F D C)
 |false=>
  dsimp only;rw[if_neg (by simp)];refine aF (fS (fU (I:=λx c m=>m=K/\∃l o,c=(ag,l,o)/\l<o/\x<o/\l<=b/\B (b-l)=aj) (Q:=λc m=>m=K/\∃l o,c=(ag,l,o)/\l<o/\l<=b/\B (b-l)=aj/\(b+1<=o\/(o<=b/\B (b-o)=ah))) ?_ ?_ ?_) ?_)
  .rintro x c m _ P ⟨rfl,l,o,rfl,J,T,H,p⟩;dsimp only;by_cases v:o ≥ b+1
   .rw[if_pos v];exact aM ⟨rfl,l,o,rfl,J,H,p,.inl v⟩
   .rw[if_neg v];refine aF (O ∅ ?_);cases e:B (b-o)with
    |false=>exact aM ⟨rfl,o,2*o+1,rfl,∅,∅,∅,e⟩
    |true=>exact aM ⟨rfl,l,o,rfl,J,H,p,.inr ⟨∅,e⟩⟩
  .rintro c m ⟨rfl,l,o,rfl,J,T,H,p⟩;exact⟨rfl,l,o,rfl,J,H,p,.inl ∅⟩
  .exact⟨rfl,0,1,rfl,∅,∅,∅,hr⟩
  rintro c m ⟨rfl,l,o,rfl,J,H,p,M⟩;dsimp only;have Z:b+1-min o (b+1)<=b-l:=∅
  have Y:b-l<=n:=∅
  have X:∀i,i<b+1-min o (b+1)->B i=ah:=by
   intro i g;rcases M with M|⟨M,S⟩
   .lia
   .exact mono i (b-o) ∅ ∅ S
  have W:∀i,b-l<=i->i<n->B i=aj:=λi g N=>dn (i:=b-l) ∅ N p;clear M p;generalize b+1-min o (b+1)=lo at *;generalize b-l=g at *;refine aF (fS (fU (I:=λx c y=>y=m/\∃l r,c=(ag,l,r)/\l<=r/\r<=n/\r-l<=n-x/\(∀i,i<l->B i=ah)/\(∀i,r<=i->i<n->B i=aj)) (Q:=λc y=>y=m/\∃l r,c=(ag,l,r)/\r<=n/\(∀i,i<r->B i=ah)/\(∀i,r<=i->i<n->B i=aj)) ?_ ?_ ?_) ?_)
  .rintro x c y _ P ⟨rfl,l,r,rfl,a1,F,a3,D,C⟩;dsimp only;by_cases v:l ≥ r
   .rw[if_pos v];have:l=r:=∅
    subst this;exact aM ⟨rfl,l,l,rfl,F,D,C⟩
   .rw[if_neg v];refine aF (O ∅ ?_);cases e:B (l+(r-l) / 2)with
    |true=>exact aM ⟨rfl,_,r,rfl,∅,F,∅,λi g=>mono _ _ ∅ ∅ e,C⟩
    |false=>exact aM ⟨rfl,l,_,rfl,∅,∅,∅,D,λi g N=>dn (i:=l+(r-l) / 2) g N e⟩
  .rintro c y ⟨rfl,l,r,rfl,a1,F,a3,D,C⟩;have:l=r:=∅
   subst this;exact⟨rfl,l,l,rfl,F,D,C⟩
  .exact⟨rfl,lo,g,rfl,Z,Y,∅,X,W⟩
  .rintro c y ⟨rfl,l,r,rfl,F,D,C⟩;exact aM (h r F D C)
end
section
variable{κ:KeyKind}{kz:fR}
def bA(κ:KeyKind)(x y:Keyed):Prop:=κ.kle (kO κ x) (kO κ y)
theorem bA.trans{x y z:Keyed}(b:bA κ x y)(a:bA κ y z):bA κ x z:=pM b a
structure MS(κ:KeyKind)(T o ra rb:List Keyed):Prop where
 perm:(o++(ra++rb)).Perm T
 so:o.Pairwise (bA κ)
 sa:ra.Pairwise (bA κ)
 sb:rb.Pairwise (bA κ)
 oa:∀x∈o,∀y∈ra,bA κ x y
 ob:∀x∈o,∀y∈rb,bA κ x y
theorem MS.stepA{T o x e d:List Keyed}(h:MS κ T o (x++e) d)(g:∀u∈x,∀v∈d,bA κ u v):MS κ T (o++x) e d:=by
 obtain⟨m,l,c,j,f,i⟩:=h;rw[CO]at c;refine⟨by simpa[nA]using m,?_,c.2.1,j,?_,?_⟩
 .rw[CO];exact⟨l,c.1,λu a v b=>f u a v (rn _ b)⟩
 .intro u a v b;rcases iw.mp a with a|a
  .exact f u a v (jR _ b)
  .exact c.2.2 u a v b
 .intro u a v b;rcases iw.mp a with a|a
  .exact i u a v b
  .exact g u a v b
theorem MS.swap{T o b a:List Keyed}(h:MS κ T o b a):MS κ T o a b :=⟨(List.Perm.append_left _ List.perm_append_comm).trans h.perm,h.so,h.sb,h.sa,h.ob,h.oa⟩
theorem MS.stepB{T o x a b:List Keyed}(h:MS κ T o a (x++b))(c:∀u∈x,∀v∈a,bA κ u v):MS κ T (o++x) a b :=(h.swap.stepA c).swap
def fK(κ:KeyKind)(T:List Keyed)(r:Array Keyed):Prop:=r.toList.Perm T/\r.toList.Pairwise (bA κ)
theorem MS.endA{T o a:List Keyed}{r:Array Keyed}(h:MS κ T o a [])(e:r.toList=o++a):fK κ T r:=by obtain⟨f,d,c,i,b,g⟩:=h;refine⟨by rw[e];simpa using f,?_⟩;rw[e,CO];exact⟨d,c,b⟩
theorem MS.last{T o b a:List Keyed}{r:Array Keyed}(h:MS κ T o b a)(c:∀u∈a,∀v∈b,bA κ u v)(e:r.toList=o++(a++b)):fK κ T r:=by
 have d:MS κ T o b (a++[]):=by simpa using h
 exact(d.stepB c).endA (by rw[e];simp)
theorem jN(a:Array Keyed)(i j:Nat):(a.extract i j).toList=(a.toList.drop i).take (j-i):=by simp[Array.toList_extract,List.extract_eq_take_drop]
theorem oR(a:Array Keyed)(i:Nat):(a.extract i a.size).toList=a.toList.drop i:=by rw[jN,rH];simp
theorem Av{a:Array Keyed}{i:Nat}(h:i<a.size):a.toList.drop i=a[i]::a.toList.drop (i+1):=by rw[pK (by simpa using h)];simp
theorem Cd(a:Array Keyed)(i k:Nat):a.toList.drop i=(a.extract i (i+k)).toList++a.toList.drop (i+k):=by rw[jN,show i+k-i=k by lia,<-List.drop_drop,uJ]
theorem n_{a:Array Keyed}{i:Nat}{x:Keyed}(h:x∈a.toList.drop i):∃j,∃d:j<a.size,i<=j/\a[j]=x:=by
 obtain⟨k,c,e⟩:=uT h;rw[CP]at e;have b:i+k<a.size:=by simp at c;lia
 exact⟨i+k,b,∅,by simpa using e⟩
theorem As{a:Array Keyed}{i k:Nat}{x:Keyed}(h:x∈(a.extract i (i+k)).toList):∃j,∃c:j<a.size,i<=j/\j<i+k/\a[j]=x:=by
 rw[jN]at h;obtain⟨m,b,e⟩:=uT h;rw[CQ,CP]at e;refine⟨i+m,?_,∅,?_,by simpa using e⟩
 all_goals simp at b;lia
def qG(κ:KeyKind)(a:Array Keyed):Prop:=∀i j (b:j<a.size) (c:i<=j),bA κ (a[i]'∅) a[j]
theorem qG.pw{a:Array Keyed}(h:qG κ a):a.toList.Pairwise (bA κ):=by rw[CS];intro i j c b d;have:=h i j (by simpa using b) ∅;simpa using this
structure eM(κ:KeyKind)(a b c:Array Keyed)(d f:Nat):Prop where
 ms:MS κ (a.toList++b.toList) c.toList (a.toList.drop d) (b.toList.drop f)
 la:d<=a.size
 lb:f<=b.size
variable{a b c:Array Keyed}{d f:Nat}
theorem eM.pushA(h:eM κ a b c d f)(g:d<a.size)(i:∀j (e:j<b.size),f<=j->bA κ a[d] b[j]):eM κ a b (c.push a[d]) (d+1) f:=by refine⟨?_,g,h.lb⟩;rw[yo];refine MS.stepA (by rw[yq,<-Av g];exact h.ms) λu m v l=>?_;obtain⟨j,e,n,rfl⟩:=n_ l;rw[jr.mp m];exact i j e n
theorem eM.pushB(h:eM κ a b c d f)(g:f<b.size)(i:∀j (e:j<a.size),d<=j->bA κ b[f] a[j]):eM κ a b (c.push b[f]) d (f+1):=by refine⟨?_,h.la,g⟩;rw[yo];refine MS.stepB (by rw[yq,<-Av g];exact h.ms) λu m v l=>?_;obtain⟨j,e,n,rfl⟩:=n_ l;rw[jr.mp m];exact i j e n
theorem eM.extA{k:Nat}(h:eM κ a b c d f)(o:d+k<=a.size)(l:∀i (g:i<a.size),d<=i->i<d+k->∀j (e:j<b.size),f<=j->bA κ a[i] b[j]):eM κ a b (c++a.extract d (d+k)) (d+k) f:=by refine⟨?_,o,h.lb⟩;rw[iy];refine MS.stepA (by rw[<-Cd];exact h.ms) λu n v m=>?_;obtain⟨j,e,r,rfl⟩:=n_ m;obtain⟨i,g,q,p,rfl⟩:=As n;exact l i g q p j e r
theorem eM.extB{k:Nat}(h:eM κ a b c d f)(o:f+k<=b.size)(l:∀i (g:i<b.size),f<=i->i<f+k->∀j (e:j<a.size),d<=j->bA κ b[i] a[j]):eM κ a b (c++b.extract f (f+k)) d (f+k):=by refine⟨?_,h.la,o⟩;rw[iy];refine MS.stepB (by rw[<-Cd];exact h.ms) λu n v m=>?_;obtain⟨j,e,r,rfl⟩:=n_ m;obtain⟨i,g,q,p,rfl⟩:=As n;exact l i g q p j e r
theorem eM.doneA(h:eM κ a b c d f)(e:f=b.size):fK κ (a.toList++b.toList) (c++a.extract d a.size++b.extract f b.size):=by have:=h.ms;rw[show b.toList.drop f=[] by rw[yr];simp[e]]at this;refine this.endA ?_;rw[iy,iy,oR,oR,show b.toList.drop f=[] by rw[yr];simp[e],i_]
theorem eM.doneB(h:eM κ a b c d f)(e:d=a.size):fK κ (a.toList++b.toList) (c++a.extract d a.size++b.extract f b.size):=by have:=h.ms;rw[show a.toList.drop d=[] by rw[yr];simp[e]]at this;refine this.swap.endA ?_;rw[iy,iy,oR,oR,show a.toList.drop d=[] by rw[yr];simp[e],i_]
theorem eM.last(h:eM κ a b c d f)(e:d+1=a.size)(n:∀j (g:j<b.size),bA κ b[j] (a[d]'∅)):fK κ (a.toList++b.toList) (c++b.extract f b.size++a.extract d a.size):=by
 refine h.ms.last (λu m v l=>?_) (by rw[iy,iy,oR,oR,nA]);obtain⟨j,g,q,rfl⟩:=n_ m;obtain⟨i,o,p,rfl⟩:=n_ l;have:i=d:=∅
 subst this;exact n j g
end
section
variable{b:aT}{w:aK}{A:aV}{E:ai->ao->Prop}{s:ao}{a:KeyKind}{c:fR}
theorem wX(z:gI a c b w A s){l:bw}(v:SB c l){f:Keyed}{d:Array Keyed}{base n hint:Nat}{Q:Option Nat->bw->Prop}(o:fZ a f)(u:base+n<=d.size)(B:∀i (g:i<d.size),fZ a d[i]) (p:∀i j (G:i<=j) (m:j<base+n),base<=i->bA a (d[i]'∅) (d[j]'∅)) (x:hint<n)(h:∀r,r<=n->(∀i (g:i<d.size),base<=i->i<base+r->bA a d[i] f)->(∀i (g:i<d.size),base+r<=i->i<base+n->a.klt (kO a f) (kO a d[i]))->Q (aa r) l):wpS (ay b w) A E s (tG aj f d base n hint) Q l:=by
 refine Bp z v o u B (λi=>if g:i<n then kh a aj f (d[base+i]'∅)else aj) (λi g=>by rw[dif_pos g]) ?_ x ?_
 .intro i j G m e;rw[dif_pos m]at e;rw[dif_pos ∅];simp only[kh,kC,if_false,CN]at e ⊢;exact pM (p (base+i) (base+j) ∅ ∅ ∅) e
 .intro r q D C;refine h r q (λi g y F=>?_) (λi g y F=>?_)
  .have:=D (i-base) ∅;rw[dif_pos ∅]at this;simp only[kh,kC,if_false,CN,show base+(i-base)=i by lia]at this;exact this
  .have:=C (i-base) ∅ ∅;rw[dif_pos ∅]at this;simp only[kh,kC,if_false,Bool.not_eq_false',show base+(i-base)=i by lia]at this;exact this
theorem wv(z:gI a c b w A s){l:bw}(v:SB c l){f:Keyed}{d:Array Keyed}{base n hint:Nat}{Q:Option Nat->bw->Prop}(o:fZ a f)(u:base+n<=d.size)(B:∀i (g:i<d.size),fZ a d[i]) (p:∀i j (G:i<=j) (m:j<base+n),base<=i->bA a (d[i]'∅) (d[j]'∅)) (x:hint<n)(h:∀r,r<=n->(∀i (g:i<d.size),base<=i->i<base+r->a.klt (kO a d[i]) (kO a f))->(∀i (g:i<d.size),base+r<=i->i<base+n->bA a f d[i])->Q (aa r) l):wpS (ay b w) A E s (tG ah f d base n hint) Q l:=by
 refine Bp z v o u B (λi=>if g:i<n then kh a ah f (d[base+i]'∅)else aj) (λi g=>by rw[dif_pos g]) ?_ x ?_
 .intro i j G m e;rw[dif_pos m]at e;rw[dif_pos ∅];simp only[kh,if_true]at e ⊢;exact KeyOrd.klt_of_kle_of_klt (p (base+i) (base+j) ∅ ∅ ∅) e
 .intro r q D C;refine h r q (λi g y F=>?_) (λi g y F=>?_)
  .have:=D (i-base) ∅;rw[dif_pos ∅]at this;simp only[kh,if_true,show base+(i-base)=i by lia]at this;exact this
  .have:=C (i-base) ∅ ∅;rw[dif_pos ∅]at this;simp only[kh,if_true,show base+(i-base)=i by lia]at this;exact this
end
structure fI(st aw:bw):Prop where
 kind:kindOf aw=kindOf st
 arr:arrOf aw=arrOf st
 pend:bn aw=bn st
 failed:failedOf aw=failedOf st
theorem fI.rfl{st:bw}:fI st st:=⟨_root_.rfl,_root_.rfl,_root_.rfl,_root_.rfl⟩
theorem fI.sb{b:fR}{a c:bw}(h:fI a c)(k:SB b a):SB b c:=⟨h.kind.trans k.kind,h.failed.trans k.failed⟩
section
variable{d:aT}{w:aK}{A:aV}{E:ai->ao->Prop}{s:ao}{κ:KeyKind}{kz:fR}
theorem b_{a f:Type}{M:Model}{c:Prop}[Decidable c]{t e:StateT a Sem f}{Q:f->a->Prop}{b:a}(h:c->wpS M A E s t Q b)(g:¬c->wpS M A E s e Q b):wpS M A E s (if c then t else e) Q b:=by
 split
 .exact h ‹_›
 .exact g ‹_›
def Hs:Nat->StateT bw Sem Unit:=sortPriv% PySem.Builtin.setMinGallop
theorem fI.trans{a b c:bw}(f:fI a b)(e:fI b c):fI a c:=⟨e.kind.trans f.kind,e.arr.trans f.arr,e.pend.trans f.pend,e.failed.trans f.failed⟩
theorem vT{a b:bw}{g:Nat}{Q:Unit->bw->Prop}(e:fI b a)(h:∀c,fI b c->Q () c):wpS (ay d w) A E s (Hs g) Q a :=lp (h _ (e.trans ⟨rfl,rfl,rfl,rfl⟩))
theorem IG(hO:gI κ kz d w A s){N:bw}(hk:SB kz N){a b:Array Keyed}{Q:Array Keyed->bw->Prop}(ha:0<a.size)(hb:0<b.size)(hA:∀i (S:i<a.size),fZ κ a[i]) (hB:∀i (S:i<b.size),fZ κ b[i]) (sa:qG κ a) (sb:qG κ b)(h0:bA κ b[0] a[0]) (hl:∀j (q:j<b.size),bA κ b[j] a[a.size-1])(h:∀r G,fI N G->fK κ (a.toList++b.toList) r->Q r G):wpS (ay d w) A E s (Bi a b) Q N:=by
 have L:∀{i:Nat} (S:i<a.size),i+1=a.size->∀j (q:j<b.size),bA κ b[j] a[i]:=λ{i} S e j q=>by
  have:i=a.size-1:=∅
  subst this;exact hl j q
 have I0:eM κ a b #[b[0]] 0 1:=by
  have B:eM κ a b #[] 0 0:=⟨⟨by simp,by simp,by simpa using sa.pw,by simpa using sb.pw,by simp,by simp⟩,∅,∅⟩
  exact B.pushB hb λj q _=>h0.trans (sa 0 j q ∅)
 unfold Bi;refine aF (pL (pN ⟨rfl,?_⟩));refine aF (ef hb ?_);by_cases e1:1=b.size
 .rw[if_pos (by simp[<-e1])];exact aM (h _ _ .rfl (I0.doneA e1))
 rw[if_neg (by simpa using e1)];by_cases e2:0+1=a.size
 .rw[if_pos (by simp[<-e2])];exact aM (h _ _ .rfl (I0.last e2 (L ∅ ∅)))
 rw[if_neg (by simpa using e2)];refine aF (jY ?_);refine aF (fS (fU (I:=λx c G=>fI N G/\∃f l p K,c=(ag,f,l,p,K)/\eM κ a b f l p/\l+1<a.size/\p<b.size/\x+1<=l+p) (Q:=λc G=>fI N G/\∃r,c.1=aa r/\fK κ (a.toList++b.toList) r) ?_ ?_ ?_) ?_);rotate_left
 .rintro c G ⟨_,f,l,p,K,rfl,z,B,u,O⟩;lia
 .exact⟨.rfl,_,0,1,_,rfl,I0,∅,∅,∅⟩
 .rintro⟨c1,c⟩ G ⟨v,r,rfl,Z⟩;exact aM (h r G v Z)
 rintro x c G _ hx ⟨v,f,l,p,K,rfl,z,B,u,O⟩;refine aF (fS (fU (I:=λy c D=>D=G/\∃f l p F C,c=(ag,f,l,p,F,C)/\eM κ a b f l p/\l+1<a.size/\p<b.size/\x+1+y<=l+p) (Q:=λc D=>D=G/\((∃r c',c=(aa r,c')/\fK κ (a.toList++b.toList) r)\/∃f l p F C,c=(ag,f,l,p,F,C)/\eM κ a b f l p/\l+1<a.size/\p<b.size/\x+1+1<=l+p)) ?_ ?_ ?_) ?_)
 .rintro y c D _ hy ⟨rfl,f,l,p,F,C,rfl,z,B,u,O⟩;dsimp only;refine aF (ef u (aF (ef ∅ (aF (rg hO (v.sb hk) (hB p u) (hA l ∅) ?_)))));cases e:κ.blt (kO κ b[p]) (kO κ (a[l]'∅))with
  |true=>
   dsimp only;rw[if_pos rfl];refine aF (ef u ?_);have P:=z.pushB u λj q eT=>bA.trans (jZ e) (sa l j q eT);by_cases J:p+1=b.size
   .rw[if_pos (by simp[J])];exact aM ⟨rfl,.inl ⟨_,_,rfl,P.doneA J⟩⟩
   rw[if_neg (by simpa using J)];split
   .exact aM ⟨rfl,.inr ⟨_,_,_,_,_,rfl,P,∅,∅,∅⟩⟩
   .exact aM ⟨rfl,_,_,_,_,_,rfl,P,∅,∅,∅⟩
  |false=>
   dsimp only;rw[if_neg (by simp)];refine aF (ef ∅ ?_);have P:=z.pushA ∅ λj q eT=>bA.trans (show bA κ (a[l]'∅) b[p] from e) (sb p j q eT);by_cases J:l+1+1=a.size
   .rw[if_pos (by simp[J])];exact aM ⟨rfl,.inl ⟨_,_,rfl,P.last J (L ∅ ∅)⟩⟩
   rw[if_neg (by simpa using J)];split
   .exact aM ⟨rfl,.inr ⟨_,_,_,_,_,rfl,P,∅,∅,∅⟩⟩
   .exact aM ⟨rfl,_,_,_,_,_,rfl,P,∅,∅,∅⟩
 .rintro c D ⟨rfl,f,l,p,F,C,rfl,z,B,u,O⟩;lia
 .exact⟨rfl,_,_,_,_,_,rfl,z,B,u,∅⟩
 rintro c D ⟨rfl,⟨r,c',rfl,Z⟩|⟨f,l,p,F,C,rfl,z,B,u,O⟩⟩
 .exact aM ⟨v,r,rfl,Z⟩
 refine aF (pL (pN ⟨rfl,?_⟩));refine aF (fS (fU (I:=λy c D=>fI N D/\∃f l p K F C,c=(ag,f,l,p,K,F,C)/\eM κ a b f l p/\l+1<a.size/\p<b.size/\x+2+y<=l+p) (Q:=λc D=>fI N D/\((∃r c',c=(aa r,c')/\fK κ (a.toList++b.toList) r)\/∃f l p K F C,c=(ag,f,l,p,K,F,C)/\eM κ a b f l p/\l+1<a.size/\p<b.size/\x+1+1<=l+p)) ?_ ?_ ?_) ?_);rotate_left
 .rintro c D ⟨_,f,l,p,K,F,C,rfl,z,B,u,O⟩;lia
 .exact⟨v,_,_,_,_,_,_,rfl,z,B,u,∅⟩
 .rintro c D ⟨v,⟨r,c',rfl,Z⟩|⟨f,l,p,K,F,C,rfl,z,B,u,O⟩⟩
  .exact aM ⟨v,r,rfl,Z⟩
  .dsimp only;refine aF (lp (aM ⟨⟨v.kind,v.arr,v.pend,v.failed⟩,_,_,_,_,rfl,z,B,u,∅⟩))
 clear B u O z v I0 e1 e2;rintro y c D _ hy ⟨v,f,l,p,K,F,C,rfl,z,B,u,O⟩;clear hx hy;have pW:∀{i j:Nat} (M:i<=j) (q:j<b.size),bA κ (b[i]'∅) b[j]:=λ{i j} M q=>sb i j q M;have nR:∀{i j:Nat} (M:i<=j) (q:j<a.size),bA κ (a[i]'∅) a[j]:=λ{i j} M q=>sa i j q M;refine(?_:wpS (ay d w) A E s _ ?Q _);extract_lets -merge x1 x2 x3 x4 x5 x6 x7 x8 x9 xa xb xc jp;have q:∀g X,fI N X->wpS (ay d w) A E s (jp () g) ?Q X:=by
  intro g X H;dsimp -zeta only[jp,x1,x2,x3,x4,x5,x6,x7,x8,x9,xa,xb,xc];refine aF (vT H λX H=>?_);refine aF (ef u ?_);refine aF (wX hO (H.sb hk) (base:=l) (n:=a.size-l) (hint:=0) (hB p u) ∅ hA (λi j M q _=>nR M ∅) ∅ λk iL dv ej=>?_);dsimp -zeta only;extract_lets -merge y1 jp2;have se:∀o n,eM κ a b o n p->l+k<=n->n+1<a.size->wpS (ay d w) A E s (jp2 () o n) ?Q X:=by
   intro o n Y mq e4;dsimp -zeta only[jp2,y1];refine aF (ef u ?_);have T:=Y.pushB u λj q g=>jZ (ej j q ∅ ∅);refine b_ (λe5=>?_) λe5=>?_
   .exact aM ⟨H,.inl ⟨_,_,rfl,T.doneA (by simpa using e5)⟩⟩
   have e5':p+1≠b.size:=by simpa using e5
   refine aF (ef ∅ ?_);refine aF (wv hO (H.sb hk) (base:=p+1) (n:=b.size-(p+1)) (hint:=0) (hA _ _) ∅ hB (λi j M q _=>pW M ∅) ∅ λk' m1 m2 m3=>?_);dsimp -zeta only;extract_lets -merge z1 z2 jp3;have si:∀o m,eM κ a b o n m->p+1+k'<=m->m<b.size->wpS (ay d w) A E s (jp3 () o m) ?Q X:=by
    intro o m sj e6 e7;dsimp -zeta only[jp3,z1,z2];refine aF (ef ∅ ?_);have sk:=sj.pushA ∅ (λj q g=>m3 j q ∅ ∅);refine b_ (λe7=>?_) λe7=>?_
    .have W:n+1+1=a.size:=by simpa using e7
     exact aM ⟨H,.inl ⟨_,_,rfl,sk.last W (L ∅ W)⟩⟩
    have W:n+1+1≠a.size:=by simpa using e7
    refine b_ (λe8=>?_) λe8=>?_
    .exact aM ⟨H,.inr ⟨_,_,_,_,_,_,rfl,sk,∅,∅,∅⟩⟩
    .exact aM ⟨H,_,_,_,_,_,_,rfl,sk,∅,∅,∅⟩
   clear_value jp3;refine b_ (λyS=>?_) (λyS=>?_)
   .have sj:=T.extB (k:=k') ∅ (λi S g1 g2 j q g3=>bA.trans (jZ (m2 i S g1 g2)) (nR g3 q));refine b_ (λe6=>?_) λe6=>?_
    .exact aM ⟨H,.inl ⟨_,_,rfl,sj.doneA (by simpa using e6)⟩⟩
    have e6':p+1+k'≠b.size:=by simpa using e6
    exact si _ _ sj ∅ ∅
   .exact si _ _ T ∅ ∅
  clear_value jp2;refine b_ (λhk0=>?_) (λhk0=>?_)
  .have Y:eM κ a b (f++a.extract l (l+k)) (l+k) p:=z.extA ∅ λi S g1 g2 j q g3=>(dv i S g1 g2).trans (pW g3 q);refine b_ (λJ=>?_) λJ=>?_
   .have mq:l+k+1=a.size:=by simpa using J
    exact aM ⟨H,.inl ⟨_,_,rfl,Y.last mq (L ∅ mq)⟩⟩
   have mq:l+k+1≠a.size:=by simpa using J
   refine b_ (λe4=>?_) λe4=>?_
   .exact aM ⟨H,.inl ⟨_,_,rfl,Y.doneB (by simpa using e4)⟩⟩
   have e4':l+k≠a.size:=by simpa using e4
   exact se _ _ Y ∅ ∅
  .exact se _ _ z ∅ ∅
 exact b_ (λ_=>q _ _ v) λ_=>q _ _ v
end
def wT(d:KeyKind):KeyKind where
 α:=d.α
 blt:=λa b=>d.blt b a
 irrefl:=d.irrefl
 trans:=λa b c f e=>d.trans c b a e f
 negTrans:=λa b c h=>(d.negTrans c b a h).symm
 total:=λa b f e=>d.total a b e f
 keyOf:=d.keyOf
 dflt:=d.dflt
section
variable{κ:KeyKind}{g:fR}
theorem qd{x y:Keyed}(h:bA κ y x):bA (wT κ) x y:=h
theorem za{a:Array Keyed}{n:Nat}(h:0<n)(b:n<=a.size):(a.toList.take n).reverse=(a[n-1]'∅)::(a.toList.take (n-1)).reverse:=by
 obtain⟨m,rfl⟩:∃m,n=m+1:=⟨n-1,∅⟩
 rw[List.take_succ_eq_append_getElem (by simp;lia),CT];simp
theorem BE(a:Array Keyed)(p n:Nat)(b:p<=n):a.toList.take n=a.toList.take p++(a.extract p n).toList:=by
 rw[jN]
 conv=>lhs;rw[show n=p+(n-p) by lia]
 rw[List.take_add]
theorem oD{a:Array Keyed}{n:Nat}(d:n<=a.size){x:Keyed}(h:x∈a.toList.take n):∃j,∃f:j<a.size,j<n/\a[j]=x:=by
 obtain⟨m,b,e⟩:=uT h;rw[CQ]at e;have c:m<n:=by simp at b;lia
 exact⟨m,∅,c,by simpa using e⟩
theorem wx{a:Array Keyed}{p n:Nat}(d:n<=a.size){x:Keyed}(h:x∈(a.extract p n).toList):∃j,∃f:j<a.size,p<=j/\j<n/\a[j]=x:=by
 rw[jN]at h;obtain⟨m,b,e⟩:=uT h;rw[CQ,CP]at e;have c:p+m<n:=by simp at b;lia
 exact⟨p+m,∅,∅,c,by simpa using e⟩
theorem mO(a:Array Keyed)(n:Nat):(a.extract 0 n).toList=a.toList.take n:=by rw[jN];simp
structure eN(κ:KeyKind)(a b c:Array Keyed)(f d:Nat):Prop where
 ms:MS (wT κ) (a.toList++b.toList) c.toList (a.toList.take f).reverse (b.toList.take d).reverse
 la:f<=a.size
 lb:d<=b.size
variable{a b c:Array Keyed}{f d:Nat}
theorem eN.pushA(h:eN κ a b c f d)(n:0<f)(o:f-1<a.size)(i:∀j (e:j<b.size),j<d->bA κ b[j] a[f-1]):eN κ a b (c.push a[f-1]) (f-1) d:=by refine⟨?_,∅,h.lb⟩;rw[yo];refine MS.stepA (by rw[yq,<-za n h.la];exact h.ms) λu m v l=>?_;obtain⟨j,e,p,rfl⟩:=oD h.lb (nB.mp l);rw[jr.mp m];exact qd (i j e p)
theorem eN.pushB(h:eN κ a b c f d)(n:0<d)(o:d-1<b.size)(i:∀j (e:j<a.size),j<f->bA κ a[j] b[d-1]):eN κ a b (c.push b[d-1]) f (d-1):=by refine⟨?_,h.la,∅⟩;rw[yo];refine MS.stepB (by rw[yq,<-za n h.lb];exact h.ms) λu m v l=>?_;obtain⟨j,e,p,rfl⟩:=oD h.la (nB.mp l);rw[jr.mp m];exact qd (i j e p)
theorem eN.extA{p:Nat}(h:eN κ a b c f d)(e:p<=f)(n:∀i (m:i<a.size),p<=i->i<f->∀j (l:j<b.size),j<d->bA κ b[j] a[i]):eN κ a b (c++(a.extract p f).reverse) p d:=by refine⟨?_,cK e h.la,h.lb⟩;rw[iy,Array.toList_reverse];refine MS.stepA (by rw[<-CT,<-BE _ _ _ e];exact h.ms) λu q v o=>?_;obtain⟨j,l,w,rfl⟩:=oD h.lb (nB.mp o);obtain⟨i,m,s,r,rfl⟩:=wx h.la (nB.mp q);exact qd (n i m s r j l w)
theorem eN.extB{p:Nat}(h:eN κ a b c f d)(e:p<=d)(n:∀i (m:i<b.size),p<=i->i<d->∀j (l:j<a.size),j<f->bA κ a[j] b[i]):eN κ a b (c++(b.extract p d).reverse) f p:=by refine⟨?_,h.la,cK e h.lb⟩;rw[iy,Array.toList_reverse];refine MS.stepB (by rw[<-CT,<-BE _ _ _ e];exact h.ms) λu q v o=>?_;obtain⟨j,l,w,rfl⟩:=oD h.la (nB.mp o);obtain⟨i,m,s,r,rfl⟩:=wx h.lb (nB.mp q);exact qd (n i m s r j l w)
theorem vn{T:List Keyed}{r q:Array Keyed}(h:fK (wT κ) T q)(e:r.toList=q.toList.reverse):fK κ T r:=by refine⟨by rw[e];exact(CU _).trans h.1,?_⟩;rw[e,CV];exact h.2
theorem eN.doneA(h:eN κ a b c f d)(e:f=0):fK κ (a.toList++b.toList) (a.extract 0 f++b.extract 0 d++c.reverse):=by have:=h.ms;rw[e,yf,List.reverse_nil]at this;refine vn (q:=(c.toList++(b.toList.take d).reverse).toArray) (this.swap.endA (by simp)) ?_;rw[iy,iy,mO,mO,e];simp
theorem eN.doneB(h:eN κ a b c f d)(e:d=0):fK κ (a.toList++b.toList) (a.extract 0 f++b.extract 0 d++c.reverse):=by have:=h.ms;rw[e,yf,List.reverse_nil]at this;refine vn (q:=(c.toList++(a.toList.take f).reverse).toArray) (this.endA (by simp)) ?_;rw[iy,iy,mO,mO,e];simp
theorem eN.first(h:eN κ a b c f d)(e:d=1)(p:∀j (n:j<a.size),bA κ (b[0]'(by have:=h.lb;lia)) a[j]):fK κ (a.toList++b.toList) (b.extract 0 d++a.extract 0 f++c.reverse):=by
 refine vn (q:=(c.toList++((a.toList.take f).reverse++(b.toList.take d).reverse)).toArray) (h.ms.swap.last (λu m v l=>?_) (by simp)) ?_
 .obtain⟨i,o,s,rfl⟩:=oD h.la (nB.mp m);obtain⟨j,n,r,rfl⟩:=oD h.lb (nB.mp l);have:j=0:=∅
  subst this;exact qd (p i o)
 .rw[iy,iy,mO,mO];simp
end
section
variable{f:aT}{w:aK}{A:aV}{E:ai->ao->Prop}{s:ao}{d:KeyKind}{l:fR}
theorem FK(hO:gI d l f w A s){T:bw}(hk:SB l T){a b:Array Keyed}{Q:Array Keyed->bw->Prop}(ha:0<a.size)(hb:0<b.size)(hA:∀i (hi:i<a.size),fZ d a[i]) (hB:∀i (hi:i<b.size),fZ d b[i]) (sa:qG d a) (sb:qG d b)(h0:bA d b[0] a[0]) (hl:∀j (z:j<b.size),bA d b[j] a[a.size-1])(h:∀r K,fI T K->fK d (a.toList++b.toList) r->Q r K):wpS (ay f w) A E s (Bk a b) Q T:=by
 have pW:∀{i j:Nat} (S:i<=j) (z:j<b.size),bA d (b[i]'∅) b[j]:=λ{i j} S z=>sb i j z S;have nR:∀{i j:Nat} (S:i<=j) (z:j<a.size),bA d (a[i]'∅) a[j]:=λ{i j} S z=>sa i j z S;have hf:∀j (z:j<a.size),bA d b[0] a[j]:=λj z=>h0.trans (nR ∅ z);have I0:eN d a b #[a[a.size-1]] (a.size-1) b.size:=by
  have C:eN d a b #[] a.size b.size:=by
   refine⟨⟨?_,by simp,?_,?_,by simp,by simp⟩,∅,∅⟩
   .simp only[<-i7,CW,jb];exact List.Perm.append (CU _) (CU _)
   .simp only[<-i7,CW,CV];exact sa.pw
   .simp only[<-i7,CW,CV];exact sb.pw
  exact C.pushA ha ∅ λj z _=>hl j z
 unfold Bk;refine aF (pL (pN ⟨rfl,?_⟩));refine aF (ef ∅ ?_);refine b_ (λe1=>aM (h _ _ .rfl (I0.doneA (by simpa using e1)))) λe1=>?_;have pX:a.size-1≠0:=by simpa using e1
 refine b_ (λe2=>?_) λe2=>?_
 .have j4:b.size=1:=by simpa using e2
  exact aM (h _ _ .rfl (I0.first j4 hf))
 have j4:b.size≠1:=by simpa using e2
 refine aF (jY ?_);refine aF (fS (fU (I:=λx c K=>fI T K/\∃u v q P,c=(ag,v,q,u,P)/\eN d a b u v q/\0<v/\v<=a.size/\1<q/\q<=b.size/\x+1+v+q<=a.size+b.size) (Q:=λc K=>fI T K/\∃r,c.1=aa r/\fK d (a.toList++b.toList) r) ?_ ?_ ?_) ?_);rotate_left
 .rintro c K ⟨_,u,v,q,P,rfl,B,C,N,L,M,W⟩;lia
 .exact⟨.rfl,_,_,_,_,rfl,I0,∅,∅,∅,∅,∅⟩
 .rintro⟨c1,c⟩ K ⟨J,r,rfl,hD⟩;exact aM (h r K J hD)
 rintro x c K _ hx ⟨J,u,v,q,P,rfl,B,C,N,L,M,W⟩;refine aF (fS (fU (I:=λy c G=>G=K/\∃u v q H F,c=(ag,v,q,u,H,F)/\eN d a b u v q/\0<v/\v<=a.size/\1<q/\q<=b.size/\x+1+y+v+q<=a.size+b.size) (Q:=λc G=>G=K/\((∃r c',c=(aa r,c')/\fK d (a.toList++b.toList) r)\/∃u v q H F,c=(ag,v,q,u,H,F)/\eN d a b u v q/\0<v/\v<=a.size/\1<q/\q<=b.size/\x+1+1+v+q<=a.size+b.size)) ?_ ?_ ?_) ?_)
 .rintro y c G _ hy ⟨rfl,u,v,q,H,F,rfl,B,C,N,L,M,W⟩;dsimp only;refine aF (ef ∅ (aF (ef ∅ (aF (rg hO (J.sb hk) (hB (q-1) ∅) (hA (v-1) ∅) ?_)))));cases e:d.blt (kO d (b[q-1]'∅)) (kO d (a[v-1]'∅))with
  |true=>
   dsimp only;rw[if_pos rfl];refine aF (ef ∅ ?_);have X:=B.pushA C ∅ λj z eT=>bA.trans (pW (show j<=q-1 by lia) ∅) (jZ e);refine b_ (λO=>?_) λO=>?_
   .exact aM ⟨rfl,.inl ⟨_,_,rfl,X.doneA (by simpa using O)⟩⟩
   have mq:v-1≠0:=by simpa using O
   refine b_ (λe4=>?_) λe4=>?_
   .exact aM ⟨rfl,.inr ⟨_,_,_,_,_,rfl,X,∅,∅,∅,∅,∅⟩⟩
   .exact aM ⟨rfl,_,_,_,_,_,rfl,X,∅,∅,∅,∅,∅⟩
  |false=>
   dsimp only;rw[if_neg (by simp)];refine aF (ef ∅ ?_);have X:=B.pushB ∅ ∅ λj z eT=>bA.trans (nR (show j<=v-1 by lia) ∅) (show bA d (a[v-1]'∅) (b[q-1]'∅)from e);refine b_ (λO=>?_) λO=>?_
   .exact aM ⟨rfl,.inl ⟨_,_,rfl,X.first (by simpa using O) hf⟩⟩
   have mq:q-1≠1:=by simpa using O
   refine b_ (λe4=>?_) λe4=>?_
   .exact aM ⟨rfl,.inr ⟨_,_,_,_,_,rfl,X,∅,∅,∅,∅,∅⟩⟩
   .exact aM ⟨rfl,_,_,_,_,_,rfl,X,∅,∅,∅,∅,∅⟩
 .rintro c G ⟨rfl,u,v,q,H,F,rfl,B,C,N,L,M,W⟩;lia
 .exact⟨rfl,_,_,_,_,_,rfl,B,C,N,L,M,∅⟩
 rintro c G ⟨rfl,⟨r,c',rfl,hD⟩|⟨u,v,q,H,F,rfl,B,C,N,L,M,W⟩⟩
 .exact aM ⟨J,r,rfl,hD⟩
 refine aF (pL (pN ⟨rfl,?_⟩));refine aF (fS (fU (I:=λy c G=>fI T G/\∃u v q P H F,c=(ag,v,q,u,P,H,F)/\eN d a b u v q/\0<v/\v<=a.size/\1<q/\q<=b.size/\x+2+y+v+q<=a.size+b.size) (Q:=λc G=>fI T G/\((∃r c',c=(aa r,c')/\fK d (a.toList++b.toList) r)\/∃u v q P H F,c=(ag,v,q,u,P,H,F)/\eN d a b u v q/\0<v/\v<=a.size/\1<q/\q<=b.size/\x+1+1+v+q<=a.size+b.size)) ?_ ?_ ?_) ?_);rotate_left
 .rintro c G ⟨_,u,v,q,P,H,F,rfl,B,C,N,L,M,W⟩;lia
 .exact⟨J,_,_,_,_,_,_,rfl,B,C,N,L,M,∅⟩
 .rintro c G ⟨J,⟨r,c',rfl,hD⟩|⟨u,v,q,P,H,F,rfl,B,C,N,L,M,W⟩⟩
  .exact aM ⟨J,r,rfl,hD⟩
  .dsimp only;exact aF (vT J λZ D=>aM ⟨D,_,_,_,_,rfl,B,C,N,L,M,∅⟩)
 clear C N L M W B J I0 e1 e2;rintro y c G _ hy ⟨J,u,v,q,P,H,F,rfl,B,C,N,L,M,W⟩;clear hx hy;refine(?_:wpS (ay f w) A E s _ ?Q _);extract_lets -merge x1 x2 x3 x4 x5 x6 x7 x8 x9 xa xb xc jp;have z:∀g Z,fI T Z->wpS (ay f w) A E s (jp () g) ?Q Z:=by
  intro g Z D;dsimp -zeta only[jp,x1,x2,x3,x4,x5,x6,x7,x8,x9,xa,xb,xc];refine aF (vT D λZ D=>?_);refine aF (ef ∅ ?_);refine aF (wX hO (D.sb hk) (base:=0) (n:=v) (hint:=v-1) (hB (q-1) ∅) ∅ hA (λi j S z _=>nR S ∅) ∅ λp iL dv ej=>?_);dsimp -zeta only;extract_lets -merge y1 y2 jp2;have se:∀n o,eN d a b o n q->0<n->n<=p->wpS (ay f w) A E s (jp2 () n o) ?Q Z:=by
   intro n o sh mq e4;dsimp -zeta only[jp2,y1,y2];refine aF (ef ∅ ?_);have Y:=sh.pushB ∅ ∅ λj z g=>dv j z ∅ ∅;refine b_ (λe5=>?_) λe5=>?_
   .exact aM ⟨D,.inl ⟨_,_,rfl,Y.first (by simpa using e5) hf⟩⟩
   have e5':q-1≠1:=by simpa using e5
   refine aF (ef ∅ ?_);refine aF (wv hO (D.sb hk) (base:=0) (n:=q-1) (hint:=q-1-1) (hA _ _) ∅ hB (λi j S z _=>pW S ∅) ∅ λp' m1 m2 m3=>?_);dsimp -zeta only;extract_lets -merge z1 z2 z3 jp3;have si:∀m o,eN d a b o n m->1<m->m<=p'->wpS (ay f w) A E s (jp3 () m o) ?Q Z:=by
    intro m o sj e6 e7;dsimp -zeta only[jp3,z1,z2,z3];refine aF (ef ∅ ?_);have sk:=sj.pushA ∅ ∅ (λj z g=>jZ (m2 j z ∅ ∅));refine b_ (λe7=>?_) λe7=>?_
    .exact aM ⟨D,.inl ⟨_,_,rfl,sk.doneA (by simpa using e7)⟩⟩
    have e7':n-1≠0:=by simpa using e7
    refine b_ (λe8=>?_) λe8=>?_
    .exact aM ⟨D,.inr ⟨_,_,_,_,_,_,rfl,sk,∅,∅,∅,∅,∅⟩⟩
    .exact aM ⟨D,_,_,_,_,_,_,rfl,sk,∅,∅,∅,∅,∅⟩
   clear_value jp3;refine b_ (λyS=>?_) (λyS=>?_)
   .have sj:=Y.extB (p:=p') ∅ (λi hi g1 g2 j z g3=>bA.trans (nR (show j<=n-1 by lia) ∅) (m3 i hi ∅ ∅));refine b_ (λe6=>?_) λe6=>?_
    .exact aM ⟨D,.inl ⟨_,_,rfl,sj.first (by simpa using e6) hf⟩⟩
    refine b_ (λe9=>?_) λe9=>?_
    .exact aM ⟨D,.inl ⟨_,_,rfl,sj.doneB (by simpa using e9)⟩⟩
    have e6':p'≠1:=by simpa using e6
    have e9':p'≠0:=by simpa using e9
    exact si _ _ sj ∅ ∅
   .exact si _ _ Y ∅ ∅
  clear_value jp2;refine b_ (λhk0=>?_) (λhk0=>?_)
  .have sh:eN d a b (u++(a.extract p v).reverse) p q:=B.extA ∅ λi hi g1 g2 j z g3=>bA.trans (pW (show j<=q-1 by lia) ∅) (jZ (ej i hi ∅ ∅));refine b_ (λO=>?_) λO=>?_
   .exact aM ⟨D,.inl ⟨_,_,rfl,sh.doneA (by simpa using O)⟩⟩
   have mq:p≠0:=by simpa using O
   exact se _ _ sh ∅ ∅
  .exact se _ _ B ∅ ∅
 exact b_ (λ_=>z _ _ J) λ_=>z _ _ J
end
def putL(a:Array Keyed)(c:Nat)(l:List Keyed):Array Keyed:=l.zipIdx.foldl (λa (b:Keyed×Nat)=>a.setIfInBounds (c+b.2) b.1) a
theorem vC:∀(l:List Keyed) (n b:Nat) (a:Array Keyed),b+n+l.length<=a.size -> ((l.zipIdx n).foldl (λa (c:Keyed×Nat)=>a.setIfInBounds (b+c.2) c.1) a).size=a.size /\ ∀k,((l.zipIdx n).foldl (λa (c:Keyed×Nat)=>a.setIfInBounds (b+c.2) c.1) a)[k]?=if b+n<=k/\k<b+n+l.length then l[k-(b+n)]? else a[k]?
 |[],n,b,a,_=>⟨rfl,λk=>by rw[if_neg (by simp)];rfl⟩
 |x::l,n,b,a,h=>by
  have f:b+(n+1)+l.length<=(a.setIfInBounds (b+n) x).size:=by simp at h ⊢;lia
  obtain⟨i,g⟩:=vC l (n+1) b (a.setIfInBounds (b+n) x) f;rw[List.zipIdx_cons,ln];refine⟨by rw[i];simp,λk=>?_⟩;rw[g];by_cases e:b+n=k
  .subst e;rw[if_neg ∅,if_pos (by simp)];rw[Array.getElem?_setIfInBounds_self_of_lt (by simp at h;lia)];simp
  .by_cases d:b+(n+1)<=k/\k<b+(n+1)+l.length
   .rw[if_pos d,if_pos (by simp;lia)];rw[show k-(b+n)=k-(b+(n+1))+1 by lia,CY]
   .rw[if_neg d,if_neg (by simp;lia),Array.getElem?_setIfInBounds_ne e]
theorem ER{a:Array Keyed}{b:Nat}{l:List Keyed}(h:b+l.length<=a.size):(putL a b l).size=a.size:=(vC l 0 b a ∅).1
theorem wD{a:Array Keyed}{b:Nat}{l:List Keyed}(h:b+l.length<=a.size)(k:Nat):(putL a b l)[k]?=if b<=k/\k<b+l.length then l[k-b]? else a[k]? :=(vC l 0 b a ∅).2 k
theorem IH{a:Array Keyed}{b n:Nat}{l:List Keyed}(h:b+n<=a.size)(d:l.Perm ((a.toList.drop b).take n)):(putL a b l).toList.Perm a.toList:=by
 have f:l.length=n:=by rw[d.length_eq,l4,pA];simp;lia
 have e:(putL a b l).toList=a.toList.take b++(l++a.toList.drop (b+n)):=by
  apply yt;intro k;rw[pO,wD ∅,List.getElem?_append,List.getElem?_append,l4,List.getElem?_take,List.getElem?_drop,f];simp only[i7,pO];rw[show min b a.size=b by lia];by_cases c:k<b
  .rw[if_neg ∅,if_pos c,if_pos c]
  .rw[if_neg c];by_cases i:k<b+n
   .rw[if_pos ∅,if_pos ∅]
   .rw[if_neg ∅,if_neg ∅];congr 1;lia
 rw[e];have g:a.toList=a.toList.take b++((a.toList.drop b).take n++a.toList.drop (b+n)):=by rw[<-List.drop_drop,uJ,uJ]
 conv=>rhs;rw[g]
 exact List.Perm.append_left _ (List.Perm.append_right _ d)
section
variable{κ:KeyKind}{kz:fR}
def Run(κ:KeyKind)(a:Array Keyed)(b n:Nat):Prop:=∀i j x y,b<=i->i<=j->j<b+n->a[i]?=aa x->a[j]?=aa y->bA κ x y
theorem bA.refl(x:Keyed):bA κ x x:=kD _
structure Wr(a a':Array Keyed)(lo n:Nat):Prop where
 perm:a'.toList.Perm a.toList
 size:a'.size=a.size
 out:∀k,k<lo\/lo+n<=k->a'[k]?=a[k]?
theorem Run.keep{a l:Array Keyed}{c n b e:Nat}(h:Run κ a c n)(w:Wr a l b e)(d:c+n<=b\/b+e<=c):Run κ l c n:=by intro i j x y p o m g f;rw[w.out i ∅]at g;rw[w.out j ∅]at f;exact h i j x y p o m g f
end
section
variable{b:aT}{w:aK}{A:aV}{E:ai->ao->Prop}{s:ao}{κ:KeyKind}{kz:fR}
theorem Ju{a:Type}{M:Model}{Q:PUnit->a->Prop}{d c:a}(h:Q ⟨⟩ c):wpS M A E s (set c:StateT a Sem PUnit) Q d:=by unfold wpS;rw[StateT.run_set];exact bg ⟨rfl,h⟩
theorem K0(a:Array Keyed){p q t:Nat}(d:p<=q)(c:q<=t):(a.extract p q).toList++(a.extract q t).toList=(a.extract p t).toList:=by rw[jN,jN,jN,show t-p=(q-p)+(t-q) by lia,List.take_add,List.drop_drop,show p+(q-p)=q by lia]
theorem Kd{a:Array Keyed}{c d l k e:Nat}(Y:c+d+l<=a.size)(hk:k<d)(h0:0<e)(Z:e<=l)(X:Run κ a c d)(W:Run κ a (c+d) l)(a1:∀i (h:i<a.size),c<=i->i<c+k->bA κ a[i] (a[c+d]'∅)) (b2:∀i (h:i<a.size),c+d+e<=i->i<c+d+l->bA κ (a[c+d-1]'∅) a[i]){r:Array Keyed} (p:fK κ ((a.extract (c+k) (c+d)).toList++(a.extract (c+d) (c+d+e)).toList) r):Wr a (putL a (c+k) r.toList) c (d+l)/\Run κ (putL a (c+k) r.toList) c (d+l):=by
 rw[K0 _ ∅ ∅]at p;have bq:r.toList.length=d-k+e:=by rw[p.1.length_eq,jN,l4,pA,i7];lia
 have C:c+k+r.toList.length<=a.size:=∅
 have z:∀m∈r.toList,∃t,∃B:t<a.size,c+k<=t/\t<c+d+e/\a[t]=m:=λm z=>wx ∅ (p.1.mem_iff.mp z);have F:∀{i j:Nat} (v:i<=j) (g:j<c+d),c<=i->bA κ (a[i]'∅) (a[j]'∅):=λ{i j} v g h=>X i j _ _ h v g (getElem?_pos _ _ _) (getElem?_pos _ _ _);have D:∀{i j:Nat} (v:i<=j) (g:j<c+d+l),c+d<=i->bA κ (a[i]'∅) (a[j]'∅):=λ{i j} v g h=>W i j _ _ h v g (getElem?_pos _ _ _) (getElem?_pos _ _ _);have I:∀i (h:i<a.size) j (g:j<a.size),c<=i->i<c+k->c+d<=j->j<c+d+l->bA κ a[i] a[j]:=λi h j g c1 H M c4=>(a1 i h c1 H).trans (D M c4 (bB _));refine⟨⟨?_,ER C,λq hq=>?_⟩,?_⟩
 .refine IH (n:=d-k+e) ∅ ?_;have:=p.1;rwa[jN,show c+d+e-(c+k)=d-k+e by lia]at this
 .rw[wD C,if_neg ∅]
 .intro i j x y h1 J h3 o f;rw[wD C]at o f;by_cases L:c+k<=i/\i<c+k+r.toList.length
  .rw[if_pos L]at o;obtain⟨t,B,T,S,rfl⟩:=z x (kB o);by_cases u:c+k<=j/\j<c+k+r.toList.length
   .rw[if_pos u]at f;by_cases G:i=j
    .subst G;rw[o]at f;cases f;exact bA.refl _
    .obtain⟨Q,P⟩:=bY.mp o;obtain⟨O,N⟩:=bY.mp f;have:=CS.mp p.2 (i-(c+k)) (j-(c+k)) Q O ∅;rw[P,N]at this;exact this
   .rw[if_neg u]at f;obtain⟨g,rfl⟩:=ny.mp f;by_cases K:t<c+d
    .exact(F (show t<=c+d-1 by lia) ∅ ∅).trans (b2 j g ∅ ∅)
    .exact D ∅ ∅ ∅
  .rw[if_neg L]at o;obtain⟨h,rfl⟩:=ny.mp o;by_cases u:c+k<=j/\j<c+k+r.toList.length
   .rw[if_pos u]at f;obtain⟨t,B,T,S,rfl⟩:=z y (kB f);by_cases K:t<c+d
    .exact F ∅ K ∅
    .exact I i h t B ∅ ∅ ∅ ∅
   .rw[if_neg u]at f;obtain⟨g,rfl⟩:=ny.mp f;by_cases H:i<c+k
    .by_cases M:j<c+k
     .exact F J ∅ h1
     .exact I i h j g ∅ H ∅ ∅
    .exact D J ∅ ∅
theorem zp{a:Array Keyed}{d c e:Nat}(o:d+c+e<=a.size)(u:0<c)(p:0<e)(l:Run κ a d c)(h:Run κ a (d+c) e)(q:bA κ (a[d+c-1]'∅) (a[d+c]'∅)):Run κ a d (c+e):=by
 intro i j x y n m v g f;by_cases r:j<d+c
 .exact l i j x y n m r g f
 .by_cases z:i<d+c
  .exact((l i (d+c-1) x _ n ∅ ∅ g (getElem?_pos _ _ _)).trans q).trans (h (d+c) j _ y ∅ ∅ ∅ (getElem?_pos _ _ _) f)
  .exact h i j x y ∅ m ∅ g f
theorem Wr.same{a:Array Keyed}{lo n:Nat}:Wr a a lo n:=⟨uP _,rfl,λ_ _=>rfl⟩
theorem IE(I:gI κ kz b w A s){m:bw}(hk:SB kz m)(v:∀i (l:i<(arrOf m).size),fZ κ (arrOf m)[i]){i c a pw f C:Nat}(L:(bn m)[i]?=aa (c,a,pw)) (K:(bn m)[i+1]?=aa (c+a,f,C)) (N:0<a) (D:0<f) (o:c+a+f<=(arrOf m).size)(y:Run κ (arrOf m) c a) (x:Run κ (arrOf m) (c+a) f) {Q:Bool->bw->Prop}(h:∀q,SB kz q->bn q=((bn m).setIfInBounds i (c,a+f,pw)).eraseIdxIfInBounds (i+1)->Wr (arrOf m) (arrOf q) c (a+f)->Run κ (arrOf q) c (a+f)->Q ah q):wpS (ay b w) A E s (mergeAt' i) Q m:=by
 obtain⟨kd,d,H,mg,fl⟩:=m;have P:kz=kd:=hk.kind.symm;have nK:fl=ag:=hk.failed;subst nK;subst P;replace v:∀i (l:i<d.size),fZ κ d[i]:=v;replace o:c+a+f<=d.size:=o;replace y:Run κ d c a:=y;replace x:Run κ d (c+a) f:=x;replace L:H[i]?=aa (c,a,pw):=L;replace K:H[i+1]?=aa (c+a,f,C):=K;replace h:∀q,SB kz q->bn q=(H.setIfInBounds i (c,a+f,pw)).eraseIdxIfInBounds (i+1)->Wr d (arrOf q) c (a+f)->Run κ (arrOf q) c (a+f)->Q ah q:=h;have g1:∀{i j:Nat} (p:i<=j) (g:j<c+a),c<=i->bA κ (d[i]'∅) (d[j]'∅):=λ{i j} p g l=>y i j _ _ l p g (getElem?_pos _ _ _) (getElem?_pos _ _ _);have g2:∀{i j:Nat} (p:i<=j) (g:j<c+a+f),c+a<=i->bA κ (d[i]'∅) (d[j]'∅):=λ{i j} p g l=>x i j _ _ l p g (getElem?_pos _ _ _) (getElem?_pos _ _ _);unfold mergeAt';refine aF (jY ?_);dsimp only;rw[L,K];dsimp only;refine aF (Ju ?_);generalize (H.setIfInBounds i (c,a+f,pw)).eraseIdxIfInBounds (i+1)=pend at *;refine aF (ef ∅ ?_);refine aF (wX I ⟨rfl,rfl⟩ (base:=c) (n:=a) (hint:=0) (v _ _) ∅ v (λi j p g l=>g1 p g l) N λk m1 Z m3=>?_);dsimp only;refine b_ (λW=>?_) λW=>?_
 .have X:a<=k:=by have:a-k=0:=(by simpa using W);lia
  refine aM (h _ ⟨rfl,rfl⟩ rfl Wr.same (zp o N D y x (Z _ _ ∅ ∅)))
 have X:k<a:=by have:a-k≠0:=(by simpa using W);lia
 refine aF (ef ∅ ?_);refine aF (wv I ⟨rfl,rfl⟩ (base:=c+a) (n:=f) (hint:=f-1) (v _ _) ∅ v (λi j p g l=>g2 p g l) ∅ λu n1 Y M=>?_);dsimp only;have F:c+k+(a-k)-1=c+a-1:=∅
 simp only[F]at Y M;refine b_ (λT=>?_) λT=>?_
 .have j4:u=0:=by simpa using T
  refine aM (h _ ⟨rfl,rfl⟩ rfl Wr.same (zp o N D y x (M _ _ ∅ ∅)))
 have j4:u≠0:=by simpa using T
 have xs:(d.extract (c+k) (c+a)).size=a-k:=by simp;lia
 have ys:(d.extract (c+a) (c+a+u)).size=u:=by simp;lia
 refine b_ (λ_=>?_) λ_=>?_
 all_goals
  first
   |refine aF (IG I ⟨rfl,rfl⟩ ∅ ∅ ?_ ?_ ?_ ?_ ?_ ?_ ?_)
   |refine aF (FK I ⟨rfl,rfl⟩ ∅ ∅ ?_ ?_ ?_ ?_ ?_ ?_ ?_)
  .intro j g;rw[lq];exact v _ _
  .intro j g;rw[lq];exact v _ _
  .intro i j g p;rw[lq,lq];exact g1 ∅ ∅ ∅
  .intro i j g p;rw[lq,lq];exact g2 ∅ ∅ ∅
  .rw[lq,lq];exact jZ (m3 _ _ ∅ ∅)
  .intro j g;rw[lq,lq];have:=Y (c+a+j) ∅ ∅ ∅;have e:c+k+((d.extract (c+k) (c+a)).size-1)=c+a-1:=∅
   simp only[e];exact jZ this
  .rintro r ⟨O,G,J,mg',S⟩ ⟨B,z,c3,c4⟩ hD;change O=kz at B;change G=d at z;change J=pend at c3;change S=ag at c4;subst B z c3 c4;refine aF (lp ?_);refine aF (jY ?_);obtain⟨w1,w2⟩:=Kd o X ∅ n1 y x (λi l B z=>Z i l B z) (λi l B z=>M i l B z) hD;exact aM (h _ ⟨rfl,rfl⟩ rfl w1 w2)
end
section
variable{κ:KeyKind}{kz:fR}
theorem vO{a:Array Keyed}{i:Nat}{x:Keyed}(h:a[i]?=aa x):KK κ a i=kO κ x:=by unfold KK kO;rw[h]
theorem oY{a:Array Keyed}{i:Nat}(h:i<a.size):KK κ a i=kO κ a[i]:=vO (getElem?_pos _ _ _)
def gu(κ:KeyKind)(a:Array Keyed)(lo n:Nat):Prop:=∀i j,lo<=i->i<=j->j<lo+n->κ.kle (KK κ a i) (KK κ a j)
def lF(κ:KeyKind)(a:Array Keyed)(lo n:Nat):Prop:=∀i j,lo<=i->i<=j->j<lo+n->κ.kle (KK κ a j) (KK κ a i)
theorem gu.run{a:Array Keyed}{b n:Nat}(h:gu κ a b n):Run κ a b n:=by intro i j x y g f e d c;have:=h i j g f e;rw[vO d,vO c]at this;exact this
theorem Wr.trans{a b c:Array Keyed}{d n:Nat}(f:Wr a b d n)(e:Wr b c d n):Wr a c d n :=⟨e.perm.trans f.perm,e.size.trans f.size,λk g=>(e.out k g).trans (f.out k g)⟩
theorem Wr.mono{a b:Array Keyed}{d n c e:Nat}(h:Wr a b d n)(i:c<=d)(g:d+n<=c+e):Wr a b c e :=⟨h.perm,h.size,λk f=>h.out k ∅⟩
theorem Dm{a:Array Keyed}{i j:Nat}(b:j<=a.size)(d:i<=j):Wr a (mirror a i j ((j-i) / 2)) i (j-i) :=⟨yu.mp (mirror_perm _ _ _ _),mirror_size _ _ _ _,λk c=>by rw[getElem?_mirror_all b,if_neg ∅]⟩
theorem GS{a:Array Keyed}{b d:Nat}(c:b<a.size)(e:d<=b):Wr a (bubble a b d) (b-d) (d+1) :=⟨yu.mp (bubble_perm _ _ _),bubble_size _ _ _,λk f=>by rw[getElem?_bubble c d e,if_neg ∅,if_neg ∅]⟩
def AllK(κ:KeyKind)(a:Array Keyed):Prop:=∀i (b:i<a.size),fZ κ a[i]
theorem AllK.of{a b:Array Keyed}(h:AllK κ a)(p:b.toList.Perm a.toList):AllK κ b:=by intro i f;have c:b[i]∈a.toList:=p.mem_iff.mp (by simp);obtain⟨j,d,e⟩:=uT c;rw[<-e];simpa using h j (by simpa using d)
end
section
variable{d:aT}{w:aK}{A:aV}{E:ai->ao->Prop}{s:ao}{κ:KeyKind}{f:fR}
theorem mK(l:gI κ f d w A s){a:bw}(g:SB f a)(e:AllK κ (arrOf a)){i j:Nat}{Q:Option Bool->bw->Prop}(c:i<(arrOf a).size)(b:j<(arrOf a).size)(h:Q (aa (κ.blt (KK κ (arrOf a) i) (KK κ (arrOf a) j))) a):wpS (ay d w) A E s (ltAt' i j) Q a:=by rw[oY c,oY b]at h;rw[ltAt'_eq];refine aF (jY ?_);exact aF (ef c (aF (ef b (rg l g (e i c) (e j b) h))))
theorem qI{b a:bw}{lo n i j:Nat}{Q:Unit->bw->Prop}(l:SB f a)(m:bn a=bn b)(g:Wr (arrOf b) (arrOf a) lo n)(q:i<=j)(o:j<=(arrOf b).size)(p:lo<=i)(r:j<=lo+n)(h:∀c,SB f c->bn c=bn b->Wr (arrOf b) (arrOf c) lo n->(∀k,KK κ (arrOf c) k=if i<=k/\k<j then KK κ (arrOf a) (i+j-1-k)else KK κ (arrOf a) k)->Q () c):wpS (ay d w) A E s (reverseSlice' i j) Q a:=by
 have e:j<=(arrOf a).size:=by rw[g.size];exact o
 exact wpS_reverse (h _ ⟨l.kind,l.failed⟩ m (g.trans ((Dm e q).mono p ∅)) λk=>KK_mirror e k)
theorem KO{i:Type}{c:Prop}[Decidable c]{j h:StateT bw Sem i}{Q:i->bw->Prop}{g:bw}{J:bw->Prop}(l:¬c->J g)(a:∀b,J b->wpS (ay d w) A E s h Q b)(m:c->(∀b,J b->wpS (ay d w) A E s h Q b)->wpS (ay d w) A E s j Q g):wpS (ay d w) A E s (if c then j else h) Q g :=b_ (λe=>m e a) λe=>a g (l e)
theorem ww{a:Array Keyed}{lo x:Nat}(b:gu κ a lo x)(h:1<=x)(e:κ.kle (KK κ a (lo+x-1)) (KK κ a (lo+x))):gu κ a lo (x+1):=λi j c n o=>by
 by_cases l:j<lo+x
 .exact b i j c n l
 .have g:j=lo+x:=∅
  subst g;by_cases m:i=lo+x
  .subst m;exact kD _
  .exact pM (b i (lo+x-1) c ∅ ∅) e
theorem zg{a:Array Keyed}{lo x:Nat}(b:lF κ a lo x)(h:1<=x)(e:κ.kle (KK κ a (lo+x)) (KK κ a (lo+x-1))):lF κ a lo (x+1):=λi j c n o=>by
 by_cases l:j<lo+x
 .exact b i j c n l
 .have g:j=lo+x:=∅
  subst g;by_cases m:i=lo+x
  .subst m;exact kD _
  .exact pM e (b i (lo+x-1) c ∅ ∅)
theorem Go{a:Array Keyed}{lo x b:Nat}(e:∀i,lo+x-(b+1)<=i->i<lo+x->KK κ a i=KK κ a (lo+x-1))(g:KK κ a (lo+x)=KK κ a (lo+x-1)):∀i,lo+(x+1)-(b+1+1)<=i->i<lo+(x+1)->KK κ a i=KK κ a (lo+(x+1)-1):=λi j h=>by
 rw[show lo+(x+1)-1=lo+x by lia];by_cases c:i=lo+x
 .rw[c]
 .rw[e i ∅ ∅,g]
theorem zI{a b:Array Keyed}{i j n:Nat}(e:∀k,KK κ b k=if i<=k/\k<j then KK κ a (i+j-1-k)else KK κ a k)(c:∀k,i<=k->k<j->KK κ a k=KK κ a n):∀k,KK κ b k=KK κ a k:=λk=>by
 rw[e];split
 .rw[c _ ∅ ∅,c k ∅ ∅]
 .rfl
theorem Em(S:gI κ f d w A s){v:bw}(P:SB f v)(T:AllK κ (arrOf v)){lo a:Nat}(h1:1<=a)(hsz:lo+a<=(arrOf v).size){Q:Option Nat->bw->Prop}(h:∀n p,SB f p->bn p=bn v->Wr (arrOf v) (arrOf p) lo a->1<=n->n<=a->gu κ (arrOf p) lo n->Q (aa n) p):wpS (ay d w) A E s (countRun' lo a) Q v:=by
 have one:gu κ (arrOf v) lo 1:=λi j r y D=>by
  have:i=j:=∅
  subst this;exact kD _
 have go:∀{u:bw},Wr (arrOf v) (arrOf u) lo a->(arrOf u).size=(arrOf v).size:=λw=>w.size;unfold countRun';refine aF (fS (fU (I:=λx c g=>g=v/\c=(ag,x)/\gu κ (arrOf v) lo x) (Q:=λc g=>g=v/\∃n,c=(ag,n)/\1<=n/\n<=a/\gu κ (arrOf v) lo n/\(n=a\/κ.klt (KK κ (arrOf v) (lo+n)) (KK κ (arrOf v) (lo+n-1)))) ?_ ?_ ?_) ?_)
 .rintro x c g sd nP ⟨rfl,rfl,o⟩;dsimp only;refine aF (mK S P T ∅ ∅ ?_);cases e:κ.blt (KK κ (arrOf g) (lo+x)) (KK κ (arrOf g) (lo+x-1))with
  |true=>exact aM ⟨rfl,x,rfl,∅,∅,o,.inr e⟩
  |false=>exact aM ⟨rfl,rfl,ww o ∅ e⟩
 .rintro c g ⟨rfl,rfl,o⟩;rw[show max 1 a=a by lia]at o ⊢;exact⟨rfl,a,rfl,∅,∅,o,.inl rfl⟩
 .exact⟨rfl,rfl,one⟩
 rintro c p ⟨rfl,n,rfl,n1,n2,o,hn⟩;dsimp only;refine b_ (λe1=>aM (h n p P rfl Wr.same n1 n2 o)) λe1=>?_;have pX:n≠a:=by simpa using e1
 replace hn:κ.klt (KK κ (arrOf p) (lo+n)) (KK κ (arrOf p) (lo+n-1)):=hn.resolve_left pX;refine KO (J:=λC=>SB f C/\bn C=bn p/\Wr (arrOf p) (arrOf C) lo a/\lF κ (arrOf C) lo (n+1)) (λen=>⟨P,rfl,Wr.same,λi j r y D=>?_⟩) (λC ⟨dv,jx,pY,hD⟩=>?_) λen key=>?_
 .have en':n=1:=∅
  by_cases hi:i=j
  .subst hi;exact kD _
  .have e1:i=lo+n-1:=∅
   have e2:j=lo+n:=∅
   rw[e1,e2];exact jZ hn
 .refine aF (pL (pN ⟨rfl,?_⟩));refine aF (fS (fU (I:=λx c l=>∃b,c=(ag,x,b)/\SB f l/\bn l=bn p/\Wr (arrOf p) (arrOf l) lo a/\lF κ (arrOf l) lo x/\b+1<=x/\(∀i,lo+x-(b+1)<=i->i<lo+x->KK κ (arrOf l) i=KK κ (arrOf l) (lo+x-1))) (Q:=λc l=>∃m b,c=(ag,m,b)/\SB f l/\bn l=bn p/\Wr (arrOf p) (arrOf l) lo a/\1<=m/\m<=a/\lF κ (arrOf l) lo m/\b+1<=m/\(∀i,lo+m-(b+1)<=i->i<lo+m->KK κ (arrOf l) i=KK κ (arrOf l) (lo+m-1))) ?_ ?_ ?_) ?_)
  .rintro x c l sd nP ⟨b,rfl,B,G,z,F,hq,H⟩;have sz3:=z.size;dsimp only;refine aF (mK S B (T.of z.perm) ∅ ∅ ?_);cases e3:κ.blt (KK κ (arrOf l) (lo+x)) (KK κ (arrOf l) (lo+x-1))with
   |true=>
    have pT:lF κ (arrOf l) lo (x+1):=zg F ∅ (jZ e3);dsimp only;rw[if_pos rfl];refine b_ (λyT=>?_) λyT=>?_
    .refine aF (qI (κ:=κ) (lo:=lo) (n:=a) B G z ∅ ∅ ∅ ∅ λbK iB gU Y yU=>?_);have X:=zI yU H;exact aM ⟨0,rfl,iB,gU,Y,λi j r y D=>by rw[X,X];exact pT i j r y D,∅,λi r y=>by congr 1;lia⟩
    .exact aM ⟨0,rfl,B,G,z,pT,∅,λi r y=>by congr 1;lia⟩
   |false=>
    dsimp only;rw[if_neg (by simp)];refine aF (mK S B (T.of z.perm) ∅ ∅ ?_);cases e4:κ.blt (KK κ (arrOf l) (lo+x-1)) (KK κ (arrOf l) (lo+x))with
    |true=>exact aM ⟨x,b,rfl,B,G,z,∅,∅,F,hq,H⟩
    |false=>have ex:KK κ (arrOf l) (lo+x)=KK κ (arrOf l) (lo+x-1):=KeyOrd.kle_antisymm e4 e3;exact aM ⟨b+1,rfl,B,G,z,zg F ∅ (by rw[ex];exact kD _),∅,Go H ex⟩
  .rintro c l ⟨b,rfl,B,G,z,F,hq,H⟩;rw[show max (n+1) a=a by lia]at F hq H ⊢;exact⟨a,b,rfl,B,G,z,∅,∅,F,hq,H⟩
  .exact⟨0,rfl,dv,jx,pY,hD,∅,λi r y=>by congr 1;lia⟩
  rintro c l ⟨m,b,rfl,B,G,z,m1,m2,F,hq,H⟩;dsimp only;refine b_ (λyT=>?_) λyT=>?_
  .refine aF (qI (κ:=κ) (lo:=lo) (n:=a) B G z ∅ ∅ ∅ ∅ λbK iB gU Y yU=>?_);have X:=zI yU H;have O:lF κ (arrOf bK) lo m:=λi j r y D=>by rw[X,X];exact F i j r y D
   refine aF (qI (κ:=κ) (lo:=lo) (n:=a) iB gU Y ∅ ∅ ∅ ∅ λu Z N K W=>?_);have M:gu κ (arrOf u) lo m:=λi j r y D=>by rw[W,W,if_pos ⟨r,∅⟩,if_pos ⟨∅,D⟩];exact O _ _ ∅ ∅ ∅
   have sz5:=K.size;refine aF (fS (fU (I:=λx c g=>g=u/\c=(ag,x)/\gu κ (arrOf u) lo x) (Q:=λc g=>g=u/\∃n,c=(ag,n)/\1<=n/\n<=a/\gu κ (arrOf u) lo n/\(n=a\/κ.klt (KK κ (arrOf u) (lo+n)) (KK κ (arrOf u) (lo+n-1)))) ?_ ?_ ?_) ?_)
   .rintro x c g sd nP ⟨rfl,rfl,o⟩;dsimp only;refine aF (mK S Z (T.of K.perm) ∅ ∅ ?_);cases e:κ.blt (KK κ (arrOf g) (lo+x)) (KK κ (arrOf g) (lo+x-1))with
    |true=>exact aM ⟨rfl,x,rfl,∅,∅,o,.inr e⟩
    |false=>exact aM ⟨rfl,rfl,ww o ∅ e⟩
   .rintro c g ⟨rfl,rfl,o⟩;rw[show max m a=a by lia]at o ⊢;exact⟨rfl,a,rfl,∅,∅,o,.inl rfl⟩
   .exact⟨rfl,rfl,M⟩
   rintro c g ⟨rfl,q,rfl,q1,q2,L,_⟩;exact aM (h q g Z N K q1 q2 L)
  .have iB:=B;have gU:=G;have Y:=z;have O:=F;refine aF (qI (κ:=κ) (lo:=lo) (n:=a) iB gU Y ∅ ∅ ∅ ∅ λu Z N K W=>?_);have M:gu κ (arrOf u) lo m:=λi j r y D=>by rw[W,W,if_pos ⟨r,∅⟩,if_pos ⟨∅,D⟩];exact O _ _ ∅ ∅ ∅
   have sz5:=K.size;refine aF (fS (fU (I:=λx c g=>g=u/\c=(ag,x)/\gu κ (arrOf u) lo x) (Q:=λc g=>g=u/\∃n,c=(ag,n)/\1<=n/\n<=a/\gu κ (arrOf u) lo n/\(n=a\/κ.klt (KK κ (arrOf u) (lo+n)) (KK κ (arrOf u) (lo+n-1)))) ?_ ?_ ?_) ?_)
   .rintro x c g sd nP ⟨rfl,rfl,o⟩;dsimp only;refine aF (mK S Z (T.of K.perm) ∅ ∅ ?_);cases e:κ.blt (KK κ (arrOf g) (lo+x)) (KK κ (arrOf g) (lo+x-1))with
    |true=>exact aM ⟨rfl,x,rfl,∅,∅,o,.inr e⟩
    |false=>exact aM ⟨rfl,rfl,ww o ∅ e⟩
   .rintro c g ⟨rfl,rfl,o⟩;rw[show max m a=a by lia]at o ⊢;exact⟨rfl,a,rfl,∅,∅,o,.inl rfl⟩
   .exact⟨rfl,rfl,M⟩
   rintro c g ⟨rfl,q,rfl,q1,q2,L,_⟩;exact aM (h q g Z N K q1 q2 L)
 .refine aF (mK S P T ∅ ∅ ?_);cases e2:κ.blt (KK κ (arrOf p) lo) (KK κ (arrOf p) (lo+n-1))with
  |true=>exact aM (h n p P rfl Wr.same n1 n2 o)
  |false=>
   dsimp only;rw[if_neg (by simp)];have hall:∀i,lo<=i->i<lo+n->KK κ (arrOf p) i=KK κ (arrOf p) lo:=λi r y=>KeyOrd.kle_antisymm (pM (o i (lo+n-1) r ∅ ∅) e2) (o lo i (bB _) r y);refine aF (qI (κ:=κ) (lo:=lo) (n:=a) P rfl Wr.same ∅ ∅ ∅ ∅ λC dv jx pY j7=>?_);have hD:lF κ (arrOf C) lo (n+1):=by
    have hv:∀i,lo<=i->i<lo+n->KK κ (arrOf C) i=KK κ (arrOf p) lo:=λi r y=>by rw[j7,if_pos ⟨r,y⟩];exact hall _ ∅ ∅
    have hl:κ.klt (KK κ (arrOf C) (lo+n)) (KK κ (arrOf p) lo):=by rw[j7,if_neg ∅,<-hall (lo+n-1) ∅ ∅];exact hn
    intro i j r y D;by_cases hj:j<lo+n
    .rw[hv i r ∅,hv j ∅ hj];exact kD _
    .have je:j=lo+n:=∅
     subst je;by_cases hi:i=lo+n
     .subst hi;exact kD _
     .rw[hv i r ∅];exact jZ hl
   exact key C ⟨dv,jx,pY,hD⟩
theorem HX{e c:bw}{lo n a b:Nat}{Q:Unit->bw->Prop}(l:SB f c)(m:bn c=bn e)(j:Wr (arrOf e) (arrOf c) lo n)(r:b<=a)(o:a<(arrOf e).size)(q:lo<=b)(p:a<lo+n)(h:∀g,SB f g->bn g=bn e->Wr (arrOf e) (arrOf g) lo n->(∀k,KK κ (arrOf g) k=if k=b then KK κ (arrOf c) a else if b<k/\k<=a then KK κ (arrOf c) (k-1)else KK κ (arrOf c) k)->Q () g):wpS (ay d w) A E s (moveDown' a b) Q c:=by
 have i:a<(arrOf c).size:=by rw[j.size];exact o
 rw[moveDown'_eq];refine lp (h _ ⟨l.kind,l.failed⟩ m (j.trans ((GS i (show a-b<=a by lia)).mono ∅ ∅)) λk=>?_);have:=KK_bubble (κ:=κ) i (show a-b<=a by lia) k;rw[show a-(a-b)=b by lia]at this;exact this
theorem Dx(O:gI κ f d w A s){b:bw}(N:SB f b)(P:AllK κ (arrOf b)){lo n ok:Nat}(M:ok<=n)(K:lo+n<=(arrOf b).size)(L:gu κ (arrOf b) lo ok){Q:Bool->bw->Prop}(h:∀y,SB f y->bn y=bn b->Wr (arrOf b) (arrOf y) lo n->gu κ (arrOf y) lo n->Q ah y):wpS (ay d w) A E s (binarySort' lo n ok) Q b:=by
 unfold binarySort';refine aF (fS (fU (I:=λk c a=>c=(ag,())/\SB f a/\bn a=bn b/\Wr (arrOf b) (arrOf a) lo n/\gu κ (arrOf a) lo (min k n)) (Q:=λc a=>c=(ag,())/\SB f a/\bn a=bn b/\Wr (arrOf b) (arrOf a) lo n/\gu κ (arrOf a) lo n) ?_ ?_ ?_) ?_)
 .rintro k c a Z dv ⟨rfl,p,v,o,g⟩;have sz:=o.size;rw[show min k n=k by lia]at g;refine aF (fS (fU (I:=λx c m=>m=a/\∃l r,c=(ag,l,r)/\l<=r/\r<=k/\r-l<=k-x /\ (∀i,i<l->κ.kle (KK κ (arrOf a) (lo+i)) (KK κ (arrOf a) (lo+k)))/\(∀i,r<=i->i<k->κ.klt (KK κ (arrOf a) (lo+k)) (KK κ (arrOf a) (lo+i)))) (Q:=λc m=>m=a/\∃l r,c=(ag,l,r)/\l<=k /\ (∀i,i<l->κ.kle (KK κ (arrOf a) (lo+i)) (KK κ (arrOf a) (lo+k)))/\(∀i,l<=i->i<k->κ.klt (KK κ (arrOf a) (lo+k)) (KK κ (arrOf a) (lo+i)))) ?_ ?_ ?_) ?_)
  .rintro x c m _ hx ⟨rfl,l,r,rfl,Y,z,X,u,q⟩;dsimp only;refine b_ (λJ=>?_) λJ=>?_
   .have:l=r:=∅
    subst this;exact aM ⟨rfl,l,l,rfl,z,u,q⟩
   .refine aF (mK O p (P.of o.perm) ∅ ∅ ?_);cases e:κ.blt (KK κ (arrOf m) (lo+k)) (KK κ (arrOf m) (lo+(l+r) / 2))with
    |true=>exact aM ⟨rfl,l,(l+r) / 2,rfl,∅,∅,∅,u,λi C S=>KeyOrd.klt_of_klt_of_kle e (g _ _ ∅ ∅ ∅)⟩
    |false=>exact aM ⟨rfl,(l+r) / 2+1,r,rfl,∅,∅,∅,λi C=>pM (g (lo+i) (lo+(l+r) / 2) ∅ ∅ ∅) e,q⟩
  .rintro c m ⟨rfl,l,r,rfl,Y,z,X,u,q⟩;have:l=r:=∅
   subst this;exact⟨rfl,l,l,rfl,z,u,q⟩
  .exact⟨rfl,0,k,rfl,∅,∅,∅,λi hi=>∅,λi C S=>∅⟩
  .rintro c m ⟨rfl,l,r,rfl,z,u,q⟩;dsimp only;refine aF (HX (κ:=κ) (lo:=lo) (n:=n) p v o ∅ ∅ ∅ ∅ λbt B T H D=>aM ⟨rfl,B,T,H,?_⟩);rw[show min (k+1) n=k+1 by lia];intro i j G F W;rw[D,D]
   repeat' split
   all_goals first
    | (exfalso;lia)
    |exact kD _
    | (have:=u (i-lo) ∅;rw[show lo+(i-lo)=i by lia]at this;exact this)
    | (have:=q (j-1-lo) ∅ ∅;rw[show lo+(j-1-lo)=j-1 by lia]at this;exact jZ this)
    |exact g _ _ ∅ ∅ ∅
 .rintro c a ⟨rfl,p,v,o,g⟩;rw[show min (max (max ok 1) n) n=n by lia]at g;exact⟨rfl,p,v,o,g⟩
 .refine⟨rfl,N,rfl,Wr.same,λi j G F W=>?_⟩;by_cases C:ok=0
  .have:i=j:=∅
   subst this;exact kD _
  .exact L i j G F ∅
 .rintro c a ⟨rfl,p,v,o,g⟩;exact aM (h a p v o g)
end
theorem HQ{c:Prop}[Decidable c]{a b n:Nat}(e:a+1<n)(d:b+1<n):(if c then a else b)+1<n:=by split <;> assumption
def jn:Nat->List (Nat×Nat)->Nat->Prop
 |f,[],t=>f=t
 |f,(a,n)::l,t=>a=f/\0<n/\jn (f+n) l t
theorem jn.app:∀{l1:List (Nat×Nat)}{f t:Nat}{b:List (Nat×Nat)},jn f (l1++b) t↔∃m,jn f l1 m/\jn m b t
 |[],f,t,b=>by simp[jn]
 | (a,n)::l1,f,t,b=>by
  simp only[uU,jn,jn.app (l1:=l1)];constructor
  .rintro⟨g,e,m,d,c⟩;exact⟨m,⟨g,e,d⟩,c⟩
  .rintro⟨m,⟨g,e,d⟩,c⟩;exact⟨g,e,m,d,c⟩
theorem jn.le:∀{l:List (Nat×Nat)}{f t:Nat},jn f l t->f+l.length<=t/\∀e∈l,f<=e.1/\e.1+e.2<=t
 |[],f,t,h=>⟨by cases h;simp,by simp⟩
 | (a,n)::l,f,t,⟨g,j,d⟩=>by
  obtain⟨i,c⟩:=jn.le d;refine⟨by simp;lia,λe b=>?_⟩;rcases dm.mp b with rfl|b
  .subst g;exact⟨bB _,by simp;lia⟩
  .have:=c e b;exact⟨∅,this.2⟩
def PL(a:Array (Nat×Nat×Nat)):List (Nat×Nat):=a.toList.map λe=>(e.1,e.2.1)
structure hU(κ:KeyKind)(arr:Array Keyed)(pd:Array (Nat×Nat×Nat))(lo:Nat):Prop where
 ch:jn 0 (PL pd) lo
 run:∀e∈PL pd,Run κ arr e.1 e.2
theorem tQ(a:Array (Nat×Nat×Nat)):(PL a).length=a.size:=by simp[PL]
theorem lG(a:Array (Nat×Nat×Nat))(e:Nat×Nat×Nat):PL (a.push e)=PL a++[(e.1,e.2.1)]:=by simp[PL]
theorem tx(a:Array (Nat×Nat×Nat))(k pw:Nat):PL (a.modify k λx=>(x.1,x.2.1,pw))=PL a:=by
 apply yt;intro i;simp only[PL,fN,pO,Array.getElem?_modify];split
 .cases a[i]? <;> rfl
 .rfl
theorem GW{j:Array (Nat×Nat×Nat)}{i:Nat}(h:i+1<j.size):∃a f b d g sb c m,j[i]?=aa (b,d,g)/\j[i+1]?=aa (sb,c,m)/\PL j=a++(b,d)::(sb,c)::f /\ PL ((j.setIfInBounds i (b,d+c,g)).eraseIdxIfInBounds (i+1))=a++(b,d+c)::f:=by
 obtain⟨l⟩:=j;simp only[cq]at h;have e:l=l.take i++l[i]::l[i+1]::l.drop (i+2):=by rw[<-pK,<-pK,uJ]
 obtain⟨a,x,y,f,n,p⟩:∃a x y f,a.length=i/\l=a++x::y::f:=⟨l.take i,l[i],l[i+1],l.drop (i+2),by simp;lia,e⟩
 subst n p;obtain⟨b,d,g⟩:=x;obtain⟨sb,c,m⟩:=y;refine⟨a.map λe=>(e.1,e.2.1),f.map λe=>(e.1,e.2.1),b,d,g,sb,c,m,by simp,by simp[Cw],by simp[PL],?_⟩;have o:((a++(b,d,g)::(sb,c,m)::f).toArray.setIfInBounds a.length (b,d+c,g)).eraseIdxIfInBounds (a.length+1)=(a++(b,d+c,g)::f).toArray:=by rw[List.setIfInBounds_toArray,List.set_append_right _ _ (bB _),List.eraseIdxIfInBounds_toArray];congr 1;rw[List.eraseIdx_append_of_length_le ∅];simp
 rw[o];simp[PL]
section
variable{prog:aT}{w:aK}{A:aV}{E:ai->ao->Prop}{s:ao}{κ:KeyKind}{kz:fR}
theorem hU.keep{a f:Array Keyed}{c:Array (Nat×Nat×Nat)}{b n:Nat}(h:hU κ a c b)(w:Wr a f b n):hU κ f c b :=⟨h.ch,λe d=>(h.run e d).keep w (.inl (h.ch.le.2 e d).2)⟩
theorem wG(I:gI κ kz prog w A s){a:bw}(G:SB kz a)(J:AllK κ (arrOf a)){i l:Nat}(g:hU κ (arrOf a) (bn a) l)(F:l<=(arrOf a).size)(H:i+1<(bn a).size){Q:Bool->bw->Prop}(h:∀c,SB kz c->Wr (arrOf a) (arrOf c) 0 l->hU κ (arrOf c) (bn c) l->(bn c).size+1=(bn a).size->Q ah c):wpS (ay prog w) A E s (mergeAt' i) Q a:=by
 obtain⟨X,W,f,j,T,sb,u,S,L,K,d,p⟩:=GW H;have v:=g.ch;rw[d]at v;obtain⟨m,y,P,O,N,M,x⟩:=jn.app.mp v;subst P N;have b1:=y.le;have b2:=x.le;have B:Run κ (arrOf a) f j:=g.run (f,j) (by rw[d];simp);have z:Run κ (arrOf a) (f+j) u:=g.run (f+j,u) (by rw[d];simp);refine IE I G J L K O M ∅ B z λc C n o D=>h c C (o.mono ∅ ∅) ⟨?_,?_⟩ ?_
 .rw[n,p];exact jn.app.mpr ⟨f,y,rfl,∅,by rw[<-yn];exact x⟩
 .rw[n,p];intro e b;rcases iw.mp b with b|b
  .exact(g.run e (by rw[d];exact rn _ b)).keep o (.inl (b1.2 e b).2)
  .rcases dm.mp b with rfl|b
   .exact D
   .exact(g.run e (by rw[d];simp[b])).keep o (.inr (by have:=(b2.2 e b).1;lia))
 .have r:=tQ (bn c);have q:=tQ (bn a);rw[n,p]at r;rw[d]at q;rw[n,<-r,<-q];simp;lia
theorem Ey(hO:gI κ kz prog w A s){st:bw}(hk:SB kz st)(hA:AllK κ (arrOf st))(hp:bn st=#[]){Q:Unit->bw->Prop}(h:∀aw,SB kz aw->(arrOf aw).toList.Perm (arrOf st).toList->Run κ (arrOf aw) 0 (arrOf st).size->Q () aw):wpS (ay prog w) A E s sortRuns' Q st:=by
 unfold sortRuns';refine aF (jY ?_);dsimp only;obtain⟨b,La⟩:∃b,b=(arrOf st).size:=⟨_,rfl⟩
 have K6:((sortPriv% PySem.Builtin.SortState.a) st).size=b:=La.symm;simp only[K6];refine aF (fS (fU (I:=λx c o=>∃f,c=(ag,f)/\x<=f/\f<=b/\SB kz o/\(arrOf o).toList.Perm (arrOf st).toList/\(arrOf o).size=b/\hU κ (arrOf o) (bn o) f) (Q:=λc o=>c=(ag,b)/\SB kz o/\(arrOf o).toList.Perm (arrOf st).toList/\(arrOf o).size=b/\hU κ (arrOf o) (bn o) b) ?_ ?_ ?_) ?_);rotate_left
 .rintro c o ⟨f,rfl,b1,b2,iL,K,W,O⟩;have:f=b:=∅
  subst this;exact⟨rfl,iL,K,W,O⟩
 .exact⟨0,rfl,∅,∅,hk,uP _,La.symm,by rw[hp];exact⟨rfl,by simp[PL]⟩⟩
 .rintro c o ⟨rfl,iL,K,W,O⟩;dsimp only;refine aF (fS (fU (I:=λx c l=>c=(ag,())/\SB kz l/\(arrOf l).toList.Perm (arrOf st).toList/\(arrOf l).size=b/\hU κ (arrOf l) (bn l) b/\(bn l).size+x<=b+1) (Q:=λc l=>c=(ag,())/\SB kz l/\(arrOf l).toList.Perm (arrOf st).toList/\(arrOf l).size=b/\hU κ (arrOf l) (bn l) b/\(bn l).size<=1) ?_ ?_ ?_) ?_)
  .rintro x c l _ hx ⟨rfl,F,X,nW,P,hb⟩;refine aF (jY ?_);refine b_ (λe1=>aM ⟨rfl,F,X,nW,P,e1⟩) λe1=>?_;have pX:1<(bn l).size:=Nat.lt_of_not_le e1;refine aF (wG hO F (hA.of X) P ∅ ?_ λN M iM G hq=>?_)
   .exact HQ (show(bn l).size-2-1+1<(bn l).size by lia) (show(bn l).size-2+1<(bn l).size by lia)
   .exact aM ⟨rfl,M,iM.perm.trans X,iM.size.trans nW,G,∅⟩
  .rintro c l ⟨rfl,F,X,nW,P,hb⟩;exact⟨rfl,F,X,nW,P,∅⟩
  .have:=O.ch.le.1;rw[tQ]at this;exact⟨rfl,iL,K,W,O,∅⟩
  .rintro c l ⟨rfl,F,X,nW,P,hb⟩;refine aM (h l F X ?_);rw[<-La];have hc:=P.ch;have hr:=P.run;have hl:=tQ (bn l)
   match hq:PL (bn l),hc,hr,hl with
   |[],hc,hr,hl=>
    cases hc;intro i j x y a1 a2 a3;lia
   |[(a,n)],hc,hr,hl=>
    obtain⟨d1,d2,d3⟩:=hc;cases d1;have d3':0+n=b:=d3;have:=hr (0,n) (by simp);rw[show b=n by lia];exact this
   |_::_::_,hc,hr,hl=>simp at hl;lia
 rintro x c o _ hx ⟨f,rfl,b1,b2,iL,K,W,O⟩;dsimp only;refine b_ (λe1=>?_) λe1=>?_
 .have:f=b:=∅
  subst this;exact aM ⟨rfl,iL,K,W,O⟩
 refine aF (Em hO iL (hA.of K) ∅ ∅ λr l F hq2 pY f1 f2 hr2=>?_);dsimp only;refine b_ (λe2=>?_) λe2=>?_
 .refine aF (pL (pN ⟨rfl,?_⟩));refine aF (Dx hO F ((hA.of K).of pY.perm) ∅ (by rw[pY.size];lia) hr2 λN M hq3 iM Z=>?_);rw[if_neg (by simp)];have L:Wr (arrOf o) (arrOf N) f (b-f):=pY.trans (iM.mono ∅ ∅);have su:bn N=bn o:=hq3.trans hq2;generalize hn:min (b-f) _=n at *;have n1:0<n:=∅
  have n2:f+n<=b:=∅
  clear F pY hr2 hq2 iM hq3;have G:hU κ (arrOf N) (bn N) f:=by rw[su];exact O.keep L
  have gT:(arrOf N).toList.Perm (arrOf st).toList:=L.perm.trans K;have gR:(arrOf N).size=b:=L.size.trans W;have hR:Run κ (arrOf N) f n:=Z.run;clear L su;refine aF (jY ?_);obtain⟨kd,arr,S,mg,fl⟩:=N;dsimp only;cases hbk:S.back? with
  |none=>
   dsimp only;refine aF (lp (aM ⟨f+n,rfl,∅,n2,⟨M.kind,M.failed⟩,gT,gR,?_⟩));refine⟨?_,?_⟩
   .show jn 0 (PL (S.push (f,n,0))) _;rw[lG];exact jn.app.mpr ⟨f,G.ch,rfl,n1,rfl⟩
   .show ∀e∈PL (S.push (f,n,0)),_;rw[lG];intro e m;rcases iw.mp m with m|m
    .exact G.run e m
    .rw[jr.mp m];exact hR
  |some bk=>
   obtain⟨s1,m1,q1⟩:=bk;dsimp only;refine aF (fS (fU (I:=λx c g=>c=(ag,())/\SB kz g/\(arrOf g).toList.Perm (arrOf st).toList/\(arrOf g).size=b/\hU κ (arrOf g) (bn g) f/\Run κ (arrOf g) f n) (Q:=λc g=>c=(ag,())/\SB kz g/\(arrOf g).toList.Perm (arrOf st).toList/\(arrOf g).size=b/\hU κ (arrOf g) (bn g) f/\Run κ (arrOf g) f n) ?_ (λ_ _ hh=>hh) ?_) ?_)
   .rintro y c g _ hy ⟨rfl,B,C,J,u,H⟩;refine aF (jY ?_);have rO:∀{p:bw},p=g->((ag,()):Option Unit×Unit)=(ag,())/\SB kz p/\(arrOf p).toList.Perm (arrOf st).toList/\(arrOf p).size=b/\hU κ (arrOf p) (bn p) f/\Run κ (arrOf p) f n:=λe=>by subst e;exact⟨rfl,B,C,J,u,H⟩
    by_cases hg:1<(bn g).size
    .obtain⟨z,q,d,v,D⟩:=g;have Y:d.size > 1:=hg;dsimp only;rw[if_pos Y,getElem?_pos d (d.size-2) ∅];obtain⟨u1,u2,u3⟩:=d[d.size-2];dsimp only;refine b_ (λ_=>aM (rO rfl)) λ_=>?_;refine aF (wG hO B (hA.of C) u ∅ (show d.size-2+1<d.size by lia) λp j8 T hP5 _=>?_);exact aM ⟨rfl,j8,T.perm.trans C,T.size.trans J,hP5,H.keep T (.inr ∅)⟩
    .obtain⟨z,q,d,v,D⟩:=g;have Y:¬d.size > 1:=hg;dsimp only;rw[if_neg Y];exact aM (rO rfl)
   .exact⟨rfl,M,gT,gR,G,hR⟩
   rintro c g ⟨rfl,B,C,J,u,H⟩;obtain⟨z,q,d,v,D⟩:=g;dsimp only;refine aF (lp (aF (lp (aM ⟨f+n,rfl,∅,n2,⟨B.kind,B.failed⟩,C,J,?_⟩))));refine⟨?_,?_⟩
   .show jn 0 (PL ((d.modify (d.size-1) λx=>(x.1,x.2.1,_)).push (f,n,0))) _;rw[lG,tx];exact jn.app.mpr ⟨f,u.ch,rfl,n1,rfl⟩
   .show ∀e∈PL ((d.modify (d.size-1) λx=>(x.1,x.2.1,_)).push (f,n,0)),_;rw[lG,tx];intro e m;rcases iw.mp m with m|m
    .exact u.run e m
    .rw[jr.mp m];exact H
 .have M:=F;have Z:=hr2;have L:Wr (arrOf o) (arrOf l) f (b-f):=pY;have su:bn l=bn o:=hq2;have n1:0<r:=∅
  have n2:f+r<=b:=∅
  have G:hU κ (arrOf l) (bn l) f:=by rw[su];exact O.keep L
  have gT:(arrOf l).toList.Perm (arrOf st).toList:=L.perm.trans K;have gR:(arrOf l).size=b:=L.size.trans W;have hR:Run κ (arrOf l) f r:=Z.run;clear L su;refine aF (jY ?_);obtain⟨kd,arr,S,mg,fl⟩:=l;dsimp only;cases hbk:S.back? with
  |none=>
   dsimp only;refine aF (lp (aM ⟨f+r,rfl,∅,n2,⟨M.kind,M.failed⟩,gT,gR,?_⟩));refine⟨?_,?_⟩
   .show jn 0 (PL (S.push (f,r,0))) _;rw[lG];exact jn.app.mpr ⟨f,G.ch,rfl,n1,rfl⟩
   .show ∀e∈PL (S.push (f,r,0)),_;rw[lG];intro e m;rcases iw.mp m with m|m
    .exact G.run e m
    .rw[jr.mp m];exact hR
  |some bk=>
   obtain⟨s1,m1,q1⟩:=bk;dsimp only;refine aF (fS (fU (I:=λx c g=>c=(ag,())/\SB kz g/\(arrOf g).toList.Perm (arrOf st).toList/\(arrOf g).size=b/\hU κ (arrOf g) (bn g) f/\Run κ (arrOf g) f r) (Q:=λc g=>c=(ag,())/\SB kz g/\(arrOf g).toList.Perm (arrOf st).toList/\(arrOf g).size=b/\hU κ (arrOf g) (bn g) f/\Run κ (arrOf g) f r) ?_ (λ_ _ hh=>hh) ?_) ?_)
   .rintro y c g _ hy ⟨rfl,B,C,J,u,H⟩;refine aF (jY ?_);have rO:∀{p:bw},p=g->((ag,()):Option Unit×Unit)=(ag,())/\SB kz p/\(arrOf p).toList.Perm (arrOf st).toList/\(arrOf p).size=b/\hU κ (arrOf p) (bn p) f/\Run κ (arrOf p) f r:=λe=>by subst e;exact⟨rfl,B,C,J,u,H⟩
    by_cases hg:1<(bn g).size
    .obtain⟨z,q,d,v,D⟩:=g;have Y:d.size > 1:=hg;dsimp only;rw[if_pos Y,getElem?_pos d (d.size-2) ∅];obtain⟨u1,u2,u3⟩:=d[d.size-2];dsimp only;refine b_ (λ_=>aM (rO rfl)) λ_=>?_;refine aF (wG hO B (hA.of C) u ∅ (show d.size-2+1<d.size by lia) λp j8 T hP5 _=>?_);exact aM ⟨rfl,j8,T.perm.trans C,T.size.trans J,hP5,H.keep T (.inr ∅)⟩
    .obtain⟨z,q,d,v,D⟩:=g;have Y:¬d.size > 1:=hg;dsimp only;rw[if_neg Y];exact aM (rO rfl)
   .exact⟨rfl,M,gT,gR,G,hR⟩
   rintro c g ⟨rfl,B,C,J,u,H⟩;obtain⟨z,q,d,v,D⟩:=g;dsimp only;refine aF (lp (aF (lp (aM ⟨f+r,rfl,∅,n2,⟨B.kind,B.failed⟩,C,J,?_⟩))));refine⟨?_,?_⟩
   .show jn 0 (PL ((d.modify (d.size-1) λx=>(x.1,x.2.1,_)).push (f,r,0))) _;rw[lG,tx];exact jn.app.mpr ⟨f,u.ch,rfl,n1,rfl⟩
   .show ∀e∈PL ((d.modify (d.size-1) λx=>(x.1,x.2.1,_)).push (f,r,0)),_;rw[lG,tx];intro e m;rcases iw.mp m with m|m
    .exact u.run e m
    .rw[jr.mp m];exact H
end
theorem qA{n:Nat}(h:n<=1000000):n<bj:=Nat.lt_of_le_of_lt h (by decide)
theorem Run.sortedTo{κ:KeyKind}{a:Array Keyed}{n:Nat}(h:Run κ a 0 n)(c:n<=a.size):SortedToK κ a n:=by intro i j b d;have:=h i j _ _ (l8 _) b ∅ (getElem?_pos a i ∅) (getElem?_pos a j ∅);rw[oY (show i<a.size by lia),oY (show j<a.size by lia)];exact this
theorem KeysOf.all{κ:KeyKind}{a:Array Keyed}(h:KeysOf κ a):AllK κ a:=λi b=>h _ (by simp)
section
variable{P:aT}{w:aK}{A:aV}{E:ai->ao->Prop}{s:ao}
theorem zF{κ:KeyKind}{kz:fR}{a:af}{c:List ai}{n:Nat}{F:Fin->ao->Prop}(r:s.heap.get? a=aa (gp "list" c.toArray n))(J:KeysOf κ (js c))(C:c.length<=1000000)(D:∀u:aB,(∀b o,b≠a->s.heap.get? b=aa o->u.get? b=aa o)->2<=c.length->gI κ kz P w A {s with heap:=u}/\∀{E:ai->ao->Prop}{Q:fR->ao->Prop},Q kz {s with heap:=u}->aC (ay P w) A (keyKind' c.toArray) Q E {s with heap:=u})(h:∀d:bw,(arrOf d).Perm (js c)->SortedToK κ (arrOf d) (js c).size->F (.done (.ret .none)) {s with heap:=sortedHeap s.heap a c ((arrOf d).map (·.2))}):aC (ay P w) A (Builtin.«list.sort» ⟨[.ref a],[]⟩) F E s:=by
 rw[list_sort_plain];have z:a<s.heap.objs.size:=bM r;have y:c.length<=bj:=nk (qA C);refine az (listItems_at r rfl ?_);refine az (listUpdate_at r rfl ?_);obtain⟨v,m⟩:∃v,(s.heap.update a (ll λ_=>#[])).get? a=aa (gp "list" #[] v):=⟨_,get?_update_seq r (λ_=>#[])⟩
 refine az (seqEpoch_at m rfl ?_);refine az (wpAny_newTuple ?_ (hsz:=by rw[yc];exact y));refine az (wpAny_newList ?_);refine kx ?_;have l:(((s.heap.update a (ll λ_=>#[])).push (gp "tuple" c.toArray 0)).push (gp "list" #[] 0)).get? a=aa (gp "list" #[] v):=by rw[Heap.get?_push_ne _ _ _ (by rw[size_push',CJ];exact gh (CZ z)),Heap.get?_push_ne _ _ _ (by rw[CJ];exact gh z)];exact m
 have keep:∀b o,b≠a->s.heap.get? b=aa o->(((s.heap.update a (ll λ_=>#[])).push (gp "tuple" c.toArray 0)).push (gp "list" #[] 0)).get? b=aa o:=λb o p e=>dE _ (dE _ (by rw[Heap.get?_update_ne _ _ _ _ p];exact e));show aC (ay P w) A _ F E {s with heap:=((s.heap.update a (ll λ_=>#[])).push (gp "tuple" c.toArray 0)).push (gp "list" #[] 0)};dsimp only;have f:∀d:bw,failedOf d=ag->(arrOf d).Perm (js c)->SortedToK κ (arrOf d) (js c).size ->
   aC (ay P w) A (do
    let touched:=(<-seqEpoch a) != v
    Builtin.List.listUpdate (.ref a) λ_=>(arrOf d).map (·.2)
    if let aa e:=failedOf d then rule "list.sort.comparison-raised";throw e
    if touched then rule "list.sort.modified";raiseError "ValueError" "list modified during sort"
    ret .none) F E {s with heap:=((s.heap.update a (ll λ_=>#[])).push (gp "tuple" c.toArray 0)).push (gp "list" #[] 0)}:=λd p q x=>by
  refine az (seqEpoch_at l rfl ?_);refine az (listUpdate_at l rfl ?_ (hsz2:=by refine cK (nv ((Array.size_map ..).trans (q.size_eq.trans (pairsOf_size _)))) (Nat.le_succ_of_le y)));rw[p];simp only[bne_self_eq_false,kC,if_false];exact bg (h d q x)
 by_cases g:c.toArray.size<2
 .rw[if_pos g,if_pos g];refine az (bg ?_);refine az (bg ?_);refine f (SortSt.mk' general' (c.toArray.zip c.toArray) #[] 7 ag) rfl (Array.Perm.refl _) λi j N G=>?_;have:i=j:=by rw[pairsOf_size]at G;rw[cq]at g;lia
  subst this;exact kD _
 .rw[if_neg g,if_neg g];obtain⟨H,I⟩:=D _ keep (by rw[cq]at g;lia);refine az (I ?_);refine az (fj (Ey (κ:=κ) (kz:=kz) H (st:=SortSt.mk' kz (c.toArray.zip c.toArray) #[] 7 ag) (Q:=λ_ d=>SB kz d/\(arrOf d).toList.Perm (js c).toList/\Run κ (arrOf d) 0 (js c).size) ⟨rfl,rfl⟩ (KeysOf.all J) rfl λd M L K=>⟨M,L,K⟩) ?_ λ_ _ e=>e);rintro⟨⟨⟩,d⟩ s' ⟨rfl,p,q,x⟩;have B:(arrOf d).Perm (js c):=yu.mpr q;exact f d p.failed B (x.sortedTo (by rw[B.size_eq];exact bB _))
theorem JN{f:KeyKind}(m:f.OneLt){a:af}{d:List ai}{n:Nat}{F:Fin->ao->Prop}(l:s.heap.get? a=aa (gp "list" d.toArray n))(o:KeysOf f (js d)) (i:∀c b rest,d=c::b::rest->keyKind' (c::b::rest).toArray=pure oneType') (j:d.length<=1000000)(h:∀g:bw,(arrOf g).Perm (js d)->SortedToK f (arrOf g) (js d).size->F (.done (.ret .none)) {s with heap:=sortedHeap s.heap a d ((arrOf g).map (·.2))}):aC (ay P w) A (Builtin.«list.sort» ⟨[.ref a],[]⟩) F E s :=
 zF l o j (λp _ e=>⟨OneLt.ok m,λq=>by
  obtain⟨c,b,rest,rfl⟩:∃c b rest,d=c::b::rest:=by
   match d,e with
   |[],e=>simp at e
   |[_],e=>simp at e
   |c::b::rest,_=>exact⟨c,b,rest,rfl⟩
  rw[i _ _ _ rfl];exact bg q⟩) h
theorem GM{v:ai}{Q:ai->ao->Prop}(z:aC (ay P w) A.in1 (collect v) (λf d=>∃h:List Str,jW f h/\f.length<=1000000/\∀(l:aB) (out:Array ai) (g:List Str) (e:Nat),(∀b o,d.heap.get? b=aa o->l.get? b=aa o) -> l.get? d.heap.objs.size=aa (gp "list" out e)->jW out.toList g->g.Perm h->sortedS g=ah->Q (.ref d.heap.objs.size) {d with heap:=l}) E s):aC (ay P w) A (call (.builtin "sorted") [v]) Q E s:=by refine Calls.call_function_entry kind_sorted plain_sorted entry_sorted (args_sorted1 _) ?_;unfold Builtin.«sorted»;refine az (m:=checkCount "sorted" 1 1 _) (bg ?_);refine az (a6 z λf d ⟨h,j,r,n⟩=>?_);refine az (wpAny_newList ?_);have i:(d.heap.push (gp "list" f.toArray 0)).get? d.heap.objs.size=aa (gp "list" f.toArray 0):=fL _ rfl;refine az (kx (pB slot_list_sort ⟨_,i,rfl⟩ entry_list_sort (JN strKind_oneLt i j.keysOf (λa b c e=>keyKind_strs (by rw[<-e];exact j)) r λB x u=>⟨_,rfl,?_⟩) (args_list_sort _)));obtain⟨g,F,D,C⟩:=sorted_out_str j x u;obtain⟨e,y⟩:=sortedHeap_at (out:=(arrOf B).map (·.2)) i;refine bg ⟨_,rfl,n _ _ g e (λb o p=>?_) y F D C⟩;have q:b<d.heap.objs.size:=bM p;rw[sortedHeap_old (gh q) (by rw[size_push'];exact CZ q)];exact dE _ p
end
section
variable{X:Cx}
theorem Inv.sorted2{j:List (af×Obj)}{h:St}{H:Hp}{d:ao}{c:List Tx}{i f:List Str}{g:aB}{a:Array ai}{e:Nat}(I:Inv X j h H d)(n:i=c.map tS)(v:c.length<=1000000)(k:∀b o,d.heap.get? b=aa o->g.get? b=aa o) (m:g.get? d.heap.objs.size=aa (gp "list" a e)) (u:jW a.toList f) (s:f.Perm i) (r:sortedS f=ah):Inv X j h (upd H d.heap.objs.size (.lst (cD (aZ c)))) {d with heap:=g}:=by
 have q:f.map (λz=>z.cps.toList)=aZ c:=by
  refine w_ ?_ (Kk r);have:=s.map λz=>z.cps.toList;rw[n,gn]at this;have p:(c.map ((λz:Str=>z.cps.toList) ∘ tS))=c:=by simp[yv,jK]
  rw[p]at this;exact this
 have l:bv (cD (aZ c)) a.toList:=by rw[<-q];exact A4 u
 refine I.laid (t':=d.toks) k (bB _) ⟨?_,a.toList,e,l,?_⟩
 .rw[By,wW];exact nk (qA ∅)
 .rw[Array.toArray_toList];exact m
theorem mE:eI X (.builtin "sorted") (λxs H Q=>∃(p:af) (d:List Tx),xs=[.ref p]/\(b7 X.K H p (cD d)\/cf X.K H p (cD d))/\d.length<=1000000/\∀l,H l=ag->Q (.ref l) (upd H l (.lst (cD (aZ d))))):=by
 intro F s w H xs L Q I r h;obtain⟨p,d,rfl,f,B,q⟩:=h;obtain⟨u,rfl,x⟩:=vals1 r;cases x;have b:∀(T:String) (o:Obj) (a:List ai) (n:Nat),(T = "list"\/T = "tuple")->s.heap.get? p=aa o->o.cls=.type T->o.data=.seq a.toArray n->bv (cD d) a ->
   aC (ay X.prog X.w) X.A (call (.builtin "sorted") [Value.ref p]) (EP X F w Q) X.xe s:=λT o a n E j i g c=>by
  have D:=c.length;rw[By]at D;have m:=qA (n:=a.length) ∅;refine GM (wpAny_collect_seq p E j i g (λM A=>?_) (by rw[cq];lia));have v:=I.kept (t':=s.toks) A;refine⟨_,vf c,by rw[yc];lia,λN z O e k j K J G=>?_⟩;exact⟨.ref _,_,Inv.sorted2 v rfl B k j K J G,rfl,q _ v.fresh⟩
 rcases f with f|f
 .obtain⟨a,c,y,C⟩:=I.list f;obtain⟨o,e,i,n,g⟩:=y.isList;exact b "list" o a n (.inl rfl) e i g c
 .obtain⟨a,c,⟨o,e,i,n,g⟩,C⟩:=I.tuple f;exact b "tuple" o a n (.inr rfl) e i g c
end
end L2
namespace Pu
open L2
section
variable{X:Cx}{K:ar}
def ff:List PV->Option PO
 |[.lst xs]=>(fH xs).bind λa=>if a.length<=1000000 then aa (.lst (am (aZ a)))else ag
 |[.tup xs]=>(fH xs).bind λa=>if a.length<=1000000 then aa (.lst (am (aZ a)))else ag
 |_=>ag
theorem ng:kT K (λxs H Q=>∃(p:af) (b:List Tx),xs=[.ref p]/\(b7 K H p (cD b)\/cf K H p (cD b))/\b.length<=1000000/\∀l,H l=ag->Q (.ref l) (upd H l (.lst (cD (aZ b))))) ff:=λF H xs y Q n w m e q=>by
 have f:∀{g:List PV}{c:List V}{a:af},((fH g).bind λb=>if b.length<=1000000 then aa (PO.lst (am (aZ b)))else ag)=aa n->aS K H F g c->(b7 K H a c\/cf K H a c) ->
   ∃(p:af) (b:List Tx),[V.ref a]=[.ref p]/\(b7 K H p (cD b)\/cf K H p (cD b))/\b.length<=1000000/\∀l,H l=ag->Q (.ref l) (upd H l (.lst (cD (aZ b)))):=λ{g c a} e d s=>by
  cases h:fH g with
  |none=>rw[h]at e;cases e
  |some b=>
   rw[h]at e;simp only[fm]at e;split at e
   .rename_i o;cases e;rw[vh h]at d;obtain⟨rfl,u⟩:=Ll.mp d;refine⟨a,b,rfl,s,o,λl i=>q l F _ _ (Al.new0 i) (qu i (Ll.mpr ⟨rfl,λx r=>u x ((gY b).mem_iff.mp r)⟩)) (qF i w trivial)⟩
   .cases e
 unfold ff at e;split at e
 .obtain⟨v,rfl,a,c,rfl,j,_,d⟩:=gx m;exact f e d (.inl (.inl j))
 .obtain⟨v,rfl,a,c,rfl,j,d⟩:=gx m;exact f e d (.inr (cf.of j))
 .cases e
end
end Pu
namespace Mx
def F5:Nat->Nat->Nat
 |0,x=>x
 |n+1,x=>F5 n (5*x+1)
end Mx
namespace L2
section
variable{X:Cx}{f:List (af×Obj)}{d:St}{H:Hp}{s:ao}{a:af}
theorem Inv.recast{p q:HO}(I:Inv X f d H s)(e:H a=aa p)(l:∀xs,p≠.tup xs)(C:∀o u,X.H₀ a≠aa (.frz o u))(B:∀j,p≠.tbl j)(A:∀x,p≠.own x)(new:bZ X.prog X.w (upd H a q) s.heap a q):Inv X f d (upd H a q) s:=by
 have g:∀b,H b=ag->(upd H a q) b=ag:=λb i=>by rw[bd (by rintro rfl;rw[e]at i;cases i)];exact i
 refine⟨I.ok,I.os,I.bare,⟨I.base.keep,I.base.slot,λb o h n w=>g b (I.base.free b o h n w),I.base.there,λb xs h=>?_,λb o u h=>?_,λb j h=>?_⟩,I.loc,I.cell,g _ I.free,λx c h=>g _ (I.freeC x c h),λp y=>?_,λb u i=>?_,I.len⟩
 .have z:=I.base.tups b xs h;rw[bd (by rintro rfl;rw[e]at z;exact l xs (cp z))];exact z
 .have z:=I.base.frzs b o u h;rw[bd (by rintro rfl;exact C o u h)];exact z
 .have z:=I.base.tbls b j h;rw[bd (by rintro rfl;rw[e]at z;exact B _ (cp z))];exact z
 .obtain⟨F,E,D⟩:=I.pin p y;exact⟨F,g _ E,D⟩
 .by_cases m:b=a
  .subst m;rw[upd_same]at i;cases i;exact new
  .rw[bd m]at i;refine(I.hok b u i).stay (λc v _ r=>r) (λc r=>?_) λc xs r=>?_
   .rw[bd (by rintro rfl;rw[e]at r;exact A _ (cp r))];exact r
   .rw[bd (by rintro rfl;rw[e]at r;exact l _ (cp r))];exact r
def oh(o:Obj):Nat:=match o.data with
 |.dict _ ep=>ep
 |_=>0
end
end L2
namespace Pu
open L2
section
variable{X:Cx}{E:XK}{d:List Nat}{e b c:aA}{de g f:ak->R PV}{a:Pos}
theorem oO(x:Str):tS x.cps.toList=x:=by simp[tS]
end
end Pu
namespace L2
open Mx
theorem perm_mapE{g q:Type}{f:g->q}{l:List q}{m:List g}(h:l.Perm (m.map f)):∃d:List g,l=d.map f/\d.Perm m:=by
 generalize c:m.map f=mm at h
 induction h generalizing m with
 |nil=>
  cases m with
  |nil=>exact⟨[],rfl,.nil⟩
  |cons=>cases c
 |cons x _ w=>
  cases m with
  |nil=>cases c
  |cons y r=>rw[eF]at c;injection c with o n;obtain⟨d,e,p⟩:=w n;exact⟨y::d,by rw[eF,<-e,o],p.cons y⟩
 |swap x y l=>
  match m,c with
  |a::b::r,c=>simp only[eF,pP]at c;obtain⟨o,n,z⟩:=c;exact⟨b::a::r,by simp[o,n,z],.swap ..⟩
 |trans _ _ j i=>obtain⟨C,A,s⟩:=i c;obtain⟨v,B,u⟩:=j A.symm;exact⟨v,B,u.trans s⟩
section
variable{P:aT}{w:aK}{A:aV}{E:ai->ao->Prop}{s:ao}
structure Keyd(P:aT)(w:aK)(K:Type)[DecidableEq K] where
 is:aB->K->ai->Prop
 hash:K->Int
 room:aV->Prop
 keep:∀{h h':aB}{k:K}{v:ai},is h k v->(∀b o,h.get? b=aa o->o.cls=.type "tuple"->h'.get? b=aa o)->is h' k v
 ref:∀{h:aB}{k:K}{v:ai},is h k v->∃a o,v=.ref a/\h.get? a=aa o
 eqBool:∀{A:aV}{E:ai->ao->Prop}{s:ao}{x y:K}{u v:ai}{Q:Bool->ao->Prop},room A->is s.heap x u->is s.heap y v->Q (decide (x=y)) s->aC (ay P w) A (PySem.eqBool u v) Q E s
 quiet:∀{A:aV}{E:ai->ao->Prop}{s:ao}{k:K}{v:ai}{Q:Bool->ao->Prop},is s.heap k v->Q ah s->aC (ay P w) A (eqIsQuiet 8 v) Q E s
 cls:∀{A:aV}{E:ai->ao->Prop}{s:ao}{k:K}{v:ai}{Q:Bool->ao->Prop},is s.heap k v->Q aj s->aC (ay P w) A (ofAClassStatement 8 v) Q E s
 hbv:∀{A:aV}{E:ai->ao->Prop}{s:ao}{k:K}{v:ai}{Q:Bool->ao->Prop},is s.heap k v->Q aj s->aC (ay P w) A (hashByValue 8 v) Q E s
variable{K:Type}[DecidableEq K]{c:Keyd P w K}
end
section
variable{P:aT}{w:aK}{A:aV}{E:ai->ao->Prop}{s:ao}
theorem tup_uniq{h:aB}{a:af}{x y:Array ai}(g:IsTup h a x)(f:IsTup h a y):x=y:=by
 obtain⟨o,e,_,n,d⟩:=g;obtain⟨i,b,_,j,c⟩:=f;rw[e]at b;cases b;rw[d]at c;cases c;rfl
theorem strs_uniq:∀{a:List ai}{x y:List Str},jW a x->jW a y->x=y
 |_,_,_,.nil,.nil=>rfl
 |_,_,_,.cons z t h,.cons _ _ b=>by rw[strs_uniq h b]
theorem strs_len{a:List ai}{b:List Str}(h:jW a b):a.length=b.length:=h.length
theorem tup_kept{h d:aB}{a:af}{x:Array ai}(f:IsTup h a x)(k:∀b o,h.get? b=aa o->o.cls=.type "tuple"->d.get? b=aa o):IsTup d a x:=by obtain⟨o,e,c,r⟩:=f;exact⟨o,k a o e c,c,r⟩
end
def ltL(a b:List Tx):Bool:=decide (a<b)
theorem ltL_cons(x y:Tx)(xs ys:List Tx):ltL (x::xs) (y::ys)=if x=y then ltL xs ys else decide (x<y):=by
 unfold ltL;by_cases h:x=y
 .subst h;rw[if_pos rfl,i9,decide_eq_true_iff,decide_eq_true_iff,List.cons_lt_cons_iff];exact⟨λz=>z.elim (λq=>absurd q (List.lt_irrefl _)) λq=>q.2,λq=>.inr ⟨rfl,q⟩⟩
 .rw[if_neg h,i9,decide_eq_true_iff,decide_eq_true_iff,List.cons_lt_cons_iff];exact⟨λz=>z.elim id λq=>absurd q.1 h,.inl⟩
def ordL:KeyOrd where
 α:=List Tx
 blt:=ltL
 irrefl:=λa=>decide_eq_false (List.lt_irrefl a)
 trans:=λa b c e d=>decide_eq_true (List.lt_trans (of_decide_eq_true e) (of_decide_eq_true d))
 negTrans:=λa b c h=>by
  unfold ltL;by_cases f:a<b
  .exact .inl (decide_eq_true f)
  .have g:b<=a:=List.not_lt.mp f;exact .inr (decide_eq_true (List.lt_of_le_of_lt g (of_decide_eq_true h)))
 total:=λa b e d=>List.le_antisymm (List.not_lt.mp (of_decide_eq_false d)) (List.not_lt.mp (of_decide_eq_false e))
section
open PySem.SeqAt
open PySem.AutoSeq1 (wpAny_loadPart')
open PySem.MeetsSeq PySem.MeetsSeq2 PySem.MeetsSeq3
def cpsL(a:List Str):List Tx:=a.map λz=>z.cps.toList
theorem cps_inj{x y:Str}(h:x.cps.toList=y.cps.toList):x=y:=by rw[<-oO x,<-oO y,h]
end
section
variable{P:aT}{w:aK}{A:aV}{E:ai->ao->Prop}{s:ao}
theorem sorted_genK{v:ai}{Q:ai->ao->Prop}(hu:A.units+32<cLine)(O:aC (ay P w) A.in1 (collect v) (λa c=>∃(κ:KeyKind) (kz:fR),(∀v∈a,∃k,κ.keyOf v=aa k)/\a.length<=1000000 /\ (∀(D:aV) (f:aB),D.units+8<cLine->(∀b o,c.heap.get? b=aa o->f.get? b=aa o)->2<=a.length->gI κ kz P w D {c with heap:=f}/\∀{E:ai->ao->Prop}{Q:fR->ao->Prop},Q kz {c with heap:=f}->aC (ay P w) D (keyKind' a.toArray) Q E {c with heap:=f}) /\ ∀(f:aB) (out:Array ai) (e:Nat),(∀b o,c.heap.get? b=aa o->f.get? b=aa o) -> f.get? c.heap.objs.size=aa (gp "list" out e)->out.toList.Perm a->out.toList.Pairwise (λx y=>∀p q,κ.keyOf x=aa p->κ.keyOf y=aa q->κ.blt q p=aj)->Q (.ref c.heap.objs.size) {c with heap:=f}) E s):aC (ay P w) A (call (.builtin "sorted") [v]) Q E s:=by
 refine Calls.call_function_entry kind_sorted plain_sorted entry_sorted (args_sorted1 _) ?_;unfold Builtin.«sorted»;refine az (m:=checkCount "sorted" 1 1 _) (bg ?_);refine az (a6 O λa c ⟨κ,kz,S,I,n,C⟩=>?_);refine az (wpAny_newList ?_);have r:(c.heap.push (gp "list" a.toArray 0)).get? c.heap.objs.size=aa (gp "list" a.toArray 0):=fL _ rfl;refine az (kx (pB slot_list_sort ⟨_,r,rfl⟩ entry_list_sort (zF (κ:=κ) (kz:=kz) r (λp g=>?_) I (λf k T=>n _ f (by simp;lia) (λb o e=>k b o (gh (bM e)) (dE _ e)) T) λd g M=>⟨_,rfl,?_⟩) (args_list_sort _)))
 .have:p.1∈a:=by
   have H:p∈(a.toArray.zip a.toArray).toList:=g;rw[Array.toList_zip]at H;exact rA H |>.1
  exact S _ this
 .obtain⟨e,N⟩:=sortedHeap_at (out:=(arrOf d).map (·.2)) r;have l:(arrOf d).toList.Perm (a.zip a):=by
   have:=yu.mp g;have e0:(js a).toList=a.zip a:=by show(a.toArray.zip a.toArray).toList=_;rw[Array.toList_zip]
   rwa[e0]at this
  have same:∀p∈(arrOf d).toList,p.1=p.2:=λp g=>by have:=l.mem_iff.mp g;rw[<-List.map_id a,List.zip_map']at this;obtain⟨x,_,rfl⟩:=gK.mp this;rfl
  have Z:((arrOf d).map (·.2)).toList.Perm a:=by rw[Array.toList_map];have:=l.map (·.2);rwa[C0 (bB _)]at this
  refine bg ⟨_,rfl,C _ _ e (λb o G=>?_) N Z ?_⟩
  .have n:b<c.heap.objs.size:=bM G;rw[sortedHeap_old (gh n) (by rw[size_push'];exact CZ n)];exact dE _ G
  .rw[Array.toList_map];refine yd.mpr (CS.mpr λi j F z bx p q L K=>?_);have J:j<(js a).size:=by rw[<-g.size_eq];simpa using z
   have B:i<(arrOf d).size:=by simpa using F
   have u:j<(arrOf d).size:=by simpa using z
   have h:=M i j (nk bx) J;rw[oY B,oY u]at h;have Y:=same _ (uN F);have f2:=same _ (uN z);have X:kO κ (arrOf d)[i]=p:=by
    unfold kO;have:(arrOf d)[i].1=(arrOf d).toList[i].2:=by rw[<-Y];simp
    rw[this,L];rfl
   have W:kO κ (arrOf d)[j]=q:=by
    unfold kO;have:(arrOf d)[j].1=(arrOf d).toList[j].2:=by rw[<-f2];simp
    rw[this,K];rfl
   rw[X,W]at h;exact h
end
section
variable{X:Cx}
abbrev PrK:=Int×List Tx
end
end L2
namespace Pu
open L2
section
variable{X:Cx}{E:XK}{e:aA}{c:ak->R (List PV)}{b p q a:Pos}
def prV(k:PrK):PV:=.tup [.int k.1,.tup (am k.2)]
end
abbrev dU:=List aQ
def n8(a:List (dU×PV))(k:dU)(v:PV):List (dU×PV):=if(a.any λb=>decide (b.1=k))=ah then a.map (λb=>if b.1=k then(b.1,v)else b)else a++[(k,v)]
def mI:List PV->Option dU
 |[]=>aa []
 |x::xs=>(qt x).bind λk=>(mI xs).map (k::·)
def lW:PV->Option dU
 |.tup xs=>mI xs
 |_=>ag
section
variable{K:ar}{F:af->Prop}{S:Nat->af->Prop}{ε:ak}{f:St}{H:Hp}{i:Nat}{c:List (dU×PV)}{d:List (dU×V)}{a:af}
theorem Au:∀{xs:List PV}{b:List V}{k:dU},aS K H F xs b->mI xs=aa k->b=k.map kV
 |[],b,k,r,e=>by cases r;cases e;rfl
 |x::xs,b,k,⟨v,r,j,h,g⟩,e=>by simp only[mI,C1,l_]at e;obtain⟨n,m,ks,l,rfl⟩:=e;rw[j,Jv h m,Au g l];rfl
theorem ze{x:PV}{v:V}{k:dU}(r:aJ K H F x v)(e:lW x=aa k):∃b,v=.ref b/\H b=aa (.tup (k.map kV)):=by
 cases x <;> simp[lW]at e;obtain⟨b,j,rfl,h,g⟩:=r;exact⟨b,rfl,by rw[h,Au g e]⟩
theorem ir.len(h:ir K H F c d):d.length=c.length:=by
 unfold ir at h
 induction h with
 |nil=>rfl
 |cons _ _ b=>simp[b]
theorem ir.any(h:ir K H F c d)(k:dU):(c.any λb=>decide (b.1=k))=d.any λb=>decide (b.1=k):=by
 unfold ir at h
 induction h with
 |nil=>rfl
 |cons r _ e=>rw[l7,l7,e,r.1]
theorem ir.put(h:ir K H F c d)(k:dU){x:PV}{v:V}(r:aJ K H F x v):ir K H F (n8 c k x) (iH d k v):=by
 unfold n8 iH;rw[h.any k];split
 .rename_i b;clear b;unfold ir at h ⊢
  induction h with
  |nil=>exact .nil
  |@cons p q ps qs r1 _ ih=>
   refine .cons ?_ ih;dsimp only;by_cases e:p.1=k
   .rw[if_pos e,if_pos (by rw[<-r1.1];exact e)];exact⟨r1.1,r⟩
   .rw[if_neg e,if_neg (by rw[<-r1.1];exact e)];exact r1
 .exact x0 h ⟨rfl,r⟩
theorem aG.dtAt(r:aG K F S ε f H)(e:ε[i]?=aa (.own (.dT c))):∃a d,f[i]?=aa (aa (.ref a))/\H a=aa (.dT d)/\ir K H F c d/\S i a/\∀b,S i b->b=a:=by obtain⟨a,n,⟨j,m,l⟩,g⟩:=r.own i _ e;exact⟨a,j,n,m,l,(g a).mpr rfl,λb h=>(g b).mp h⟩
end
def iO(ε:ak)(i:Nat):Option (List (dU×PV)):=match ε[i]? with
 |some (.own (.dT a))=>aa a
 |_=>ag
theorem qz{b:ak}{i:Nat}{a:List (dU×PV)}(h:iO b i=aa a):b[i]?=aa (.own (.dT a)):=by
 unfold iO at h;split at h
 .cases h;assumption
 .cases h
section
variable{X:Cx}{E:XK}{pin:List Nat}{e b c:aA}{de db f:ak->R PV}{d:Pos}
def tt(i:Nat)(db de:ak->R PV):ak->R aL:=λj=>(de j).bind λy g=>(a_ (iO g i) g).bind λ_ g=>(db g).bind λk a=>(a_ (iO a i) a).bind λh a=>(a_ (lW k) a).bind λk a=>if h.length<bF then .ok .next (a.set i (.own (.dT (n8 h k y))))else .no
theorem KG(i:Nat){y:Str}{C j:Pos}(hu:X.A.units+64<cLine)(hb:DE X E b db)(he:DE X E e de)(hN:X.N[i]?=aa y:=by rfl)(Z:d_ X.env.scope y:=by eq_refl)(hd:(y==("__debug__":Str))=aj:=by decide) (br:(y==("__classdict__":Str))=aj:=by decide) (hs:i8 e (aa (.Subscript (.Name y C) b j)) d.line X.env=pure aj:=by rfl):DS X E pin (.Assign [.Subscript (.Name y C) b j] e d) (tt i db de):=λF S K o H D P h=>by
 refine gC (ED ∅ (fD hN Z hd br) bI bI hs) (he F S K o H _ P (h.bindE.imp λy l F1 S1 H1 r g1 q v N=>?_));cases B:iO l i with
 |none=>rw[B]at q;exact q.elim
 |some I=>
  rw[B]at q;simp only[cQ,R.bind_ok]at q;obtain⟨a,L,z,ha0,_⟩:=r.dtAt (qz B);refine⟨.ref a,z,hb F1 S1 l o H1 _ r (q.bindE.imp λk p F2 S2 H2 G g2 g u O=>?_)⟩;cases n:iO p i with
  |none=>rw[n]at g;exact g.elim
  |some w=>
   rw[n]at g;simp only[cQ,R.bind_ok]at g;obtain⟨a',M,m,ha,J,_⟩:=G.dtAt (qz n);rw[z]at m;cases m;cases A:lW k with
   |none=>rw[A]at g;exact g.elim
   |some s=>
    rw[A]at g;simp only[cQ,R.bind_ok]at g;split at g
    .rename_i hl;obtain⟨bb,rfl,T⟩:=ze O A;have dv:=J.put s (N.grow g2 r.fit);obtain⟨Q,g3⟩:=G.updO (po':=.dT (n8 w s y)) (o':=.dT (iH M s v)) (qz n) rfl z trivial λH' Y m2 x Sa W=>⟨⟨_,x,dv.mono Y⟩,W⟩
     exact⟨a,_,rfl,xK.t ha T (by rw[J.len];exact gJ hl jF),g F2 S2 o _ Q g3 (gv.refl _ _)⟩
    .exact g.elim
def ua:ak->R PO:=λε=>.ok (.dT []) ε
theorem Fm:DN X E (.Dict [] [] d) ua:=λF S l i H Q g h=>bX JW λp a=>by
 have al:Al F F H (upd H p (.dT [])):=Al.new0 a;refine h F S _ (g.al al) al.grow p (λb=>b=p) ⟨⟨[],upd_same,.nil⟩,λb=>pJ⟩ λb z=>?_;subst z;refine⟨a,λz=>?_,λ⟨j,z⟩=>?_,_,upd_same,trivial⟩
 .obtain⟨o,q⟩:=g.ex b z;rw[a]at q;cases q
 .obtain⟨_,_,o,q,_⟩:=g.foot j b z;rw[a]at q;cases q
end
end Pu
namespace L2
def jz(h:aB)(d:af)(a:Array pH)(b:Nat):Prop:=∃o,h.get? d=aa o/\o.ExactDict/\o.data=.dict a b
section
variable{P:aT}{w:aK}{A:aV}{E:ai->ao->Prop}{s:ao}{d it:af}{es:Array pH}{ep i:Nat}
theorem jz.ty(r:jz s.heap d es ep):s.TypeIs (.ref d) "dict":=let ⟨o,ho,hc,_⟩:=r;⟨o,ho,hc.1⟩
theorem jz.at{h a:aB}(r:jz h d es ep)(k:∀o,h.get? d=aa o->a.get? d=aa o):jz a d es ep:=let ⟨o,ho,z⟩:=r;⟨o,k o ho,z⟩
theorem jz.lt{h:aB}(r:jz h d es ep):d<h.objs.size:=let ⟨o,ho,_⟩:=r;bM ho
theorem Ai{Q:ai->ao->Prop}(e:(d == jo)=aj)(r:jz s.heap d es ep)(q:Q (.ref s.heap.objs.size) {s with heap:=s.heap.push {cls:=.type "dict_keyiterator",data:=.fields #[.ref d,.int 0 0,.int es.size 0,.int ep 0]}}):aC (ay P w) A (pyIter (.ref d)) Q E s:=by have a:=r.ty;obtain⟨o,c,f,b⟩:=id r;refine wpAny_pyIter_slot a F.slot_dict_iter (pB F.slot_dict_iter a F.entry_dict_iter ?_ (F.args_dict_iter_1 _));unfold Builtin.«dict.__iter__» Builtin.Dict.dictSlotNone;refine az (az (wpAny_notOrdered_dict a ?_));refine bg (show aC _ _ (Builtin.Dict.showsAll d >>= _) _ _ s from ?_);unfold Builtin.Dict.showsAll;rw[if_neg (by rw[e];exact eh)];refine az (bg (az (C3 c b (az (wpAny_dictEpoch c b ?_)))));refine az (l5 (bg ⟨_,rfl,"dict_keyiterator",_,⟨_,fL _ rfl,rfl⟩,F.slot_dict_keyiterator_next.lookup,?_⟩));simpa[iI]using q
theorem y4{Q:Option ai->ao->Prop}(a:s.heap.IsKeyIter it d i es.size ep)(r:jz s.heap d es ep)(l:i<es.size)(q:∀f,f.IsKeyIter it d (i+1) es.size ep->uB it s.heap f->Q (aa es[i].key) {s with heap:=f}):aC (ay P w) A (pyNext (.ref it)) Q E s:=by
 obtain⟨m,c,e,b⟩:=id a;obtain⟨n,h,o,g⟩:=id r;unfold pyNext;refine az (wpAny_attempt (xU (name:=xV "__next__") a.typeIs yw (pB yw a.typeIs K2 ?_ (K3 _))));refine az (bg (az (az ?_)))
 first|refine az (yx a.typeIs (bg ?_))|refine az (yy a.typeIs (bg ?_))
 refine az (wpAny_fieldsOf c b ?_);simp only[show Builtin.Dict_items.ownsTuple "dict_keyiterator"=aj by decide,kC,if_false];show aC _ _ (if(Value.ref d == Value.none)=ah then _ else _) _ _ s;rw[if_neg (show ¬((Value.ref d == Value.none)=ah)from eh)];refine az (bg (az (C3 h g ?_)));rw[if_neg (by simp)];refine az (bg (az (wpAny_dictEpoch h g ?_)));rw[if_neg (by simp)];refine bg ?_;simp only[show ¬((i:Int)<0)from by lia,if_false,uI,C4 l];refine az ?_
 first|refine az (yx a.typeIs (bg ?_))|refine az (yy a.typeIs (bg ?_))
 refine az (wpAny_isOneOf_keyiter a.typeIs ?_);refine show aC _ _ (setField (.ref it) 1 (iI ((i:Int)+1)) >>= _) _ _ s from az (rJ c b (by simp) ?_)
 have j:(s.heap.update it (jX (·.setIfInBounds 1 (iI ((i:Int)+1))))).IsKeyIter it d (i+1) es.size ep :=⟨_,rE _ c (uR (nz b _)),(Obj.cls_mapFields ..).trans e,by rw[nz b];simp[iI]⟩
 refine az (kx (az (wpAny_isOneOf_keyiter (s:={s with heap:=s.heap.update it (jX (·.setIfInBounds 1 (iI ((i:Int)+1))))}) j.typeIs ?_)));exact show aC _ _ (pure es[i].key) _ _ _ from bg (bg ⟨_,rfl,bg (q _ j (Heap.SameBut.update ..))⟩)
theorem BV{Q:Option ai->ao->Prop}(n:A.handled=ag)(c:s.heap.IsKeyIter it d i es.size ep)(r:jz s.heap d es ep)(l:es.size<=i)(q:∀j,Heap.ExtBut it s.heap j->Q ag {s with heap:=j}):aC (ay P w) A (pyNext (.ref it)) Q E s:=by
 obtain⟨p,g,o,h⟩:=id c;obtain⟨u,f,v,e⟩:=id r;unfold pyNext;refine az (wpAny_attempt (xU (name:=xV "__next__") c.typeIs yw (pB yw c.typeIs K2 ?_ (K3 _))));refine az (bg (az (az ?_)))
 first|refine az (yx c.typeIs (bg ?_))|refine az (yy c.typeIs (bg ?_))
 refine az (wpAny_fieldsOf g h ?_);simp only[show Builtin.Dict_items.ownsTuple "dict_keyiterator"=aj by decide,kC,if_false];show aC _ _ (if(Value.ref d == Value.none)=ah then _ else _) _ _ s;rw[if_neg (show ¬((Value.ref d == Value.none)=ah)from eh)];refine az (bg (az (C3 f e ?_)));rw[if_neg (by simp)];refine az (bg (az (wpAny_dictEpoch f e ?_)));rw[if_neg (by simp)];refine bg ?_;simp only[show ¬((i:Int)<0)from by lia,if_false,uI,Array.getElem?_eq_none l];refine az ?_
 first|refine az (yx c.typeIs (bg ?_))|refine az (yy c.typeIs (bg ?_))
 refine show aC _ _ (setField (.ref it) 0 .none >>= _) _ _ s from az (rJ g h (by simp) ?_)
 refine show aC _ _ (newExc (.type "StopIteration") [] >>= _) _ _ _ from az ?_
 simp only[newExc,newTuple];refine az (l5 ?_ (by size_fits));refine az (m:=firstArgMember _ _) (wpAny_of_eq (a:=Value.none) (by first|rfl | (simp only[firstArgMember];rfl)) ?_);refine l5 ?_ (by size_fits);simp only[raiseNew];refine az (wpAny_handled ?_);rw[show A.in1.handled=ag from n];refine az (bg (wpAny_throw ?_));refine az (wpAny_isInstance (T:="StopIteration") (b:=ah) ⟨_,fL _ rfl,rfl⟩ isSubtype_stop ?_);exact bg (q _ (((Heap.SameBut.update ..).extBut.push _).push _))
theorem FJ(q:A.handled=ag)(I d:af)(r:d≠I)(es:Array pH)(ep:Nat):Walks P w A I [I,d] [I] es.size (λi v=>∃e,es[i]?=aa e/\v=e.key) (λi h=>h.IsKeyIter I d i es.size ep/\jz h d es ep) where
 sub:=λb c=>by simp at c;simp[c]
 frame:=λ_ _ _ a n=>⟨a.1.at λo e=>n I (by simp) o e,a.2.at λo e=>n d (by simp) o e⟩
 item:=λi s Q E p a j=>y4 a.1 a.2 p λm g f=>j _ m s.toks ⟨es[i],by simp[p],rfl⟩ ⟨g,a.2.at λo e=>by rw[f.2 d r];exact e⟩ λb o c e=>f.extBut b o (λh=>c (by simp[h])) e
 done:=λs Q E a j=>BV q a.1 a.2 (bB _) λm l=>j m s.toks λb o c e=>l b o (λh=>c (by simp[h])) e
 self:=λ_ _ _ _ a j=>wpAny_pyIter_keyiter a.1 j
theorem HZ(c:(d == jo)=aj):PySem.W.KdlSrc P w "dict" d d es.size (λi v=>∃e,es[i]?=aa e/\v=e.key) (λh=>jz h d es ep) where
 type:=λ_ a=>a.ty
 there:=λ_ a=>⟨a.lt,a.lt⟩
 keep:=λ_ _ a f=>a.at λo e=>f d (.inl rfl) o e
 notList:=by decide
 notTuple:=by decide
 hint:=λ_ _ _ _ a b=>PySem.W.kdl_hint_dict a.ty b
 iter:=λ_ _ g a=>⟨_,_,(λ_ _ b=>Ai c a b),FJ g _ d (gh a.lt) es ep,⟨⟨_,fL _ rfl,rfl,rfl⟩,a.at λo e=>dE _ e⟩⟩
end
section
variable{X:Cx}{f:List (af×Obj)}{d:St}{H:Hp}{s:ao}{a:af}{c:List (List aQ×V)}
theorem A8{P:aT}{w:aK}{h:aB}{o:Obj}(z:h.get? a=aa o)(k:bZ P w H h a (.dT c)):(a == jo)=aj/\∃j,jz h a j (oh o)/\j.size=c.length/\(c.map (·.1)).Nodup /\
  ∀(i:Nat) (e:pH),j[i]?=aa e->∃p b,c[i]?=aa p/\e.key=.ref b/\H b=aa (.tup (p.1.map kV)):=by
 obtain⟨u,F,xs,g,L,j,J,E,v,D,y,A⟩:=k;rw[z]at E;cases E;have K:oh o=J:=by unfold oh;rw[D]
 have B:=ku g;refine⟨F,j,⟨o,z,v,by rw[K];exact D⟩,by rw[<-i7,y,cr];exact B.symm,?_,λi e C=>?_⟩
 .have:c.map (·.1)=xs.map (·.1):=by
   clear y A B u
   induction g with
   |nil=>rfl
   |cons r _ n=>simp[n,r.1]
  rw[this];exact A
 .rw[<-pO,y,fN]at C;obtain⟨x,v,rfl⟩:=l_.mp C;have:∀{l:List (List aQ×V)}{m:List (List aQ×af×ai)} (i:Nat) (x:List aQ×af×ai),c7 (λ(p:List aQ×V) (q:List aQ×af×ai)=>p.1=q.1/\H q.2.1=aa (.tup (p.1.map kV))/\RelV p.2 q.2.2) l m->m[i]?=aa x->∃p,l[i]?=aa p/\H x.2.1=aa (.tup (p.1.map kV)):=by
   intro l m i x r
   induction r generalizing i with
   |nil=>intro e;simp at e
   |cons r _ n=>
    intro e;cases i with
    |zero=>simp at e;subst e;exact⟨_,rfl,r.2.1⟩
    |succ i=>exact n i (by simpa using e)
  obtain⟨p,G,I⟩:=this i x g v;exact⟨p,x.2.1,G,rfl,I⟩
theorem Inv.freezeT(I:Inv X f d H s)(e:H a=aa (.dT c)):∃o,s.heap.get? a=aa o/\Inv X f d (upd H a (.frz o (.dT c))) s:=by
 have k:bZ X.prog X.w H s.heap a (.dT c):=I.hok a _ e;obtain⟨z,h,xs,b,o,es,ep,g,r⟩:=id k;refine⟨o,g,I.recast e (λ_ q=>by cases q) (λo u q=>?_) (λ_ q=>by cases q) (λ_ q=>by cases q) ⟨g,z,h,xs,Paired.mapP b λp q z=>⟨z.1,?_,z.2.2⟩,o,es,ep,g,r⟩⟩
 .have:=I.base.frzs a o u q;rw[e]at this;cases this
 .rw[bd (sL z.2.1 e (λz=>nomatch z))];exact z.2.1
theorem Inv.thawT{o:Obj}(I:Inv X f d H s)(e:H a=aa (.frz o (.dT c)))(h:∀o u,X.H₀ a≠aa (.frz o u)):Inv X f d (upd H a (.dT c)) s:=by
 obtain⟨i,z,g,xs,b,r⟩:=(show bZ X.prog X.w H s.heap a (.frz o (.dT c))from I.hok a _ e)
 refine I.recast e (λ_ q=>by cases q) h (λ_ q=>by cases q) (λ_ q=>by cases q) ⟨z,g,xs,Paired.mapP b λp q z=>⟨z.1,?_,z.2.2⟩,r⟩;rw[bd (sL z.2.1 e (λz=>nomatch z))];exact z.2.1
end
def fh(o:Obj):List af:=match o.data with
 |.dict es _=>es.toList.map λe=>match e.key with
  |.ref b=>b
  |_=>0
 |_=>[]
def oX(a:af)(o:Obj)(c:List (List aQ×V)):It :=⟨λi H=>H a=aa (.frz o (.dT c))/\i<c.length,λi H x d=>d=H/\∃b,(fh o)[i]?=aa b/\x=.ref b,λi H=>H a=aa (.frz o (.dT c))/\c.length<=i⟩
def ve(H:Hp)(a:List (List aQ×V))(bs:List af):Prop:=bs.length=a.length/\∀(i:Nat) (b:af),bs[i]?=aa b->∃p,a[i]?=aa p/\H b=aa (.tup (p.1.map kV))
theorem vM{P:aT}{w:aK}{H:Hp}{h:aB}{a:af}{o:Obj}{d:List (List aQ×V)}(q:h.get? a=aa o)(k:bZ P w H h a (.dT d)):(a == jo)=aj/\∃es,jz h a es (oh o)/\es.size=d.length/\(d.map (·.1)).Nodup/\ve H d (fh o)/\∀(i:Nat) (e:pH),es[i]?=aa e->∃b,(fh o)[i]?=aa b/\e.key=.ref b:=by
 obtain⟨A,es,rd,n,z,m⟩:=A8 q k;have j:fh o=es.toList.map λe=>match e.key with
  |.ref b=>b
  |_=>0:=by
  obtain⟨C,y,_,B⟩:=rd;rw[q]at y;cases y;unfold fh;rw[B]
 have l:∀(i:Nat) (e:pH),es[i]?=aa e->∃b,(fh o)[i]?=aa b/\e.key=.ref b:=λi e f=>by obtain⟨p,b,x,g,v⟩:=m i e f;refine⟨b,?_,g⟩;rw[j,fN,pO,f,uV,g]
 refine⟨A,es,rd,n,z,⟨by rw[j,cr,i7];exact n,λi b r=>?_⟩,l⟩;have f:i<es.size:=by have:=(bY.mp r).1;rw[j,cr,i7]at this;exact this
 obtain⟨p,c,x,g,v⟩:=m i es[i] (by simp[f]);obtain⟨D,u,s⟩:=l i es[i] (by simp[f]);rw[r]at u;cases u;rw[g]at s;cases s;exact⟨p,x,v⟩
theorem J7{P:aT}{w:aK}{K:ar}{Q:aA}(a l:af)(o:Obj)(g:List (List aQ×V)):oF P w K Q (oX a o g) [l] l (λi h=>h.IsKeyIter l a i g.length (oh o)) where
 mem:=by simp
 obj:=λi h f b j=>by
  have e:b=l:=by simpa using j
  subst e;obtain⟨o,e,c,d⟩:=f;exact⟨o,e,λv z=>by rw[d]at z;cases z⟩
 keep:=λi h p f k=>f.at λo e=>k l (by simp) o e
 item:=by
  intro X A q B N i O s L H E I n f y;subst A q B;obtain⟨r,M⟩:=y;obtain⟨u,x⟩:=(show bZ X.prog X.w H s.heap a (.frz o (.dT g))from I.hok a _ r)
  obtain⟨T,G,rd,m,_,_,S⟩:=vM u x;obtain⟨b,j,Y⟩:=S i G[i] (by simp[m,M]);obtain⟨F,D,f2,f3,f4,C⟩:=n l (by simp);rw[<-m]at f;refine y4 f rd ∅ λp J sb=>?_;have Z:Inv X O L H {s with heap:=p}:=I.turned (t':=s.toks) (λb o j e=>(sb.2 b j).trans e) F D f3 f4 C;rw[m]at J;obtain⟨oi,e,c,d⟩:=id J;exact⟨G[i].key,rfl,qf (s:={s with heap:=p}) e c d (by decide) ⟨.ref b,H,Z,by rw[Y];rfl,⟨rfl,b,j,rfl⟩,J,λb j=>(n b j).1⟩⟩
 done:=by
  intro X A q B N i O s L H E I n f y;subst A q B;obtain⟨r,M⟩:=y;obtain⟨u,x⟩:=(show bZ X.prog X.w H s.heap a (.frz o (.dT g))from I.hok a _ r)
  obtain⟨T,G,rd,m,_⟩:=A8 u x;obtain⟨F,D,f2,f3,f4,C⟩:=n l (by simp);rw[<-m]at f;exact BV (I.ok.hd N) f rd ∅ λp W=>⟨rfl,I.turned (t':=s.toks) (λb o j e=>W b o j e) F D f3 f4 C⟩
 self:=λ_ _ _ _ _ f h=>wpAny_pyIter_keyiter f h
section
variable{X:Cx}{c:aA}
def DB(f:TE):TI:=λe H R=>f e H λx d=>∃a b,x=.ref a/\d a=aa (.dT b)/\∀o,(b.map (·.1)).Nodup->b.length<=bj->ve d b (fh o)->R (oX a o b) (upd d a (.frz o (.dT b)))
theorem FR{d:aA}{m:TE}(C:PE X d m):PI X c d (DB m):=by
 intro E s p H R I h;refine a6 (C E s p H _ I h) λv g ⟨x,n,l,r,u⟩=>?_;obtain⟨a,f,e,i,q⟩:=u;subst e;cases r;obtain⟨o,B,j⟩:=l.freezeT i;obtain⟨A,F,rd,z,w,y,_⟩:=vM (o:=o) B (show bZ X.prog X.w n g.heap a (.dT f)from l.hok a _ i);refine Ai A rd ?_;rw[z];refine⟨g.heap.objs.size,[g.heap.objs.size],_,_,_,rfl,j.kept (t':=g.toks) λb o e=>dE _ e,J7 a _ o f,⟨_,fL _ rfl,rfl,rfl⟩,λb D=>?_,q o w (show bZ X.prog X.w n g.heap a (.dT f)from l.hok a _ i).1 y⟩;have e:b=g.heap.objs.size:=by simpa using D
 subst e;exact j.fpOk (bB _) (j.hok.fresh (bB _))
theorem Dl{a:af}{o:Obj}{d:List (List aQ×V)}(l:(fh o).length=d.length):Walk (oX a o d) ((fh o).map .ref) (λH=>H a=aa (.frz o (.dT d))):=λH h i=>
 ⟨λx f=>by
  rw[fN]at f;obtain⟨b,j,rfl⟩:=l_.mp f;have g:=(bY.mp j).1;exact⟨⟨h,∅⟩,λy n z=>⟨z.1,by obtain⟨m,e,rfl⟩:=z.2;rw[j]at e;cases e;rfl⟩⟩,λg=>⟨h,by rw[g,cr];lia⟩⟩
def qj(a:af)(b:List (List aQ×V))(D:iV):St->Hp->Prop:=λd e=>∃o,e a=aa (.frz o (.dT b))/\D.nx d (upd e a (.dT b))
def En(j:Nat)(g:TG)(p:TS):TS:=λD h H=>∃a b,h[j]?=aa (aa (.ref a))/\H a=aa (.dT b)/\∀o,(b.map (·.1)).Nodup->b.length<=bj->ve H b (fh o) ->
 ∃W:Nat->Nat->St->Hp->Prop,(∃m,W 0 m h (upd H a (.frz o (.dT b))))/\∀i m d e,W i m d e ->
 ((oX a o b).stop i e/\qj a b D d e)\/((oX a o b).go i e/\∃N:St->Hp->Prop,(∀d e,N d e->∃l,l<m/\W (i+1) l d e)/\∀x n,(oX a o b).yld i e x n->g x d n λf q=>p ⟨N,λ_ _=>False,qj a b D,N⟩ f q)
theorem IY{b:List bf}{g:TG}{r:TS}{n p:Pos}{y:Str}(j:Nat)(K:xQ (ay X.prog X.w) X.A X.env X.xe)(P:X.calm=ah)(S:X.N[j]?=aa y)(G:d_ X.env.scope y)(O:(y==("__debug__":Str))=aj)(Z:(y==("__classdict__":Str))=aj)(N:PG X c g)(Q:jM X b r)(J:∀x,kA (.Name y p) X.env x=pure x:=by intro _;rfl):PS X (.For c (.Name y p) b [] n) (En j g r):=by
 intro ae s B H D I h;obtain⟨a,l,T,v,h⟩:=h;have L:∀o u,X.H₀ a≠aa (.frz o u):=λo u z=>by
  have:=I.base.frzs a o u z;rw[v]at this;cases this
 refine a6 (AH K P (FR (fD S G O Z)) N Q J ae s B H ⟨qj a l D,λ_ _=>False,λ_ _=>False,λ_ _=>False⟩ I ⟨.ref a,T,a,l,rfl,v,λo E F M=>?_⟩) λf s' q=>?_
 .obtain⟨W,C,e⟩:=h o E F M;refine⟨W,C,λi m d A w=>?_⟩;exact e i m d A w
 .cases f with
  |next=>obtain⟨d,A,I',o,Y,q⟩:=q;exact⟨d,_,I'.thawT Y L,q⟩
  |brk=>obtain⟨_,_,_,q⟩:=q;exact q.elim
  |cont=>obtain⟨_,_,_,q⟩:=q;exact q.elim
  |ret u=>obtain⟨_,_,_,_,_,q⟩:=q;exact q.elim
end
section
variable{X:Cx}
def G3(e d:TE):TE:=λc H Q=>∀p,H p=ag->wn [(e,d)] c (upd H p (.dT [])) λf a=>∃x y,f=[(x,y)]/\a p=aa (.dT [])/\∃b k,x=.ref b/\a b=aa (.tup (k.map kV))/\Q (.ref p) (upd a p (.dT [(k,y)]))
theorem Ek{k v:aA}{l j:TE}{f:Pos}(hu:X.A.units+1<cLine)(K:PE X k l)(F:PE X v j):PE X (.Dict [aa k] [v] f) (G3 l j):=by
 intro Y s p H Q I q;have J:=I.hok.fresh (bB s.heap.objs.size);have Z:=I.laid (a:=s.heap.objs.size) (o:=.dT []) (h':=s.heap.push {cls:=.type "dict",data:=.dict #[]}) (t':=s.toks) (λ_ _ q=>dE _ q) (bB _) (AN s.heap I.big);refine wpAny_Dict_any rfl rfl (by simp) (by simp) (a6 ((Hd K F JO) Y _ p _ (λm c=>∃x y,m=[(x,y)]/\c s.heap.objs.size=aa (.dT [])/\∃b k,x=.ref b/\c b=aa (.tup (k.map kV))/\Q (.ref s.heap.objs.size) (upd c s.heap.objs.size (.dT [(k,y)]))) Z ?_) ?_)
 .exact q _ J
 .rintro ws s2 ⟨m,c,i,d,x,y,rfl,e,b,k,rfl,g,C⟩;cases d with
  |cons B r=>
   cases r;rename_i E;obtain⟨D,p2⟩:=E;obtain⟨A,w⟩:=B;cases (show D=Value.ref b from A);unfold storeAll;rw[List.forIn_cons];obtain⟨z,L,xs,u,W⟩:=zq i.hok e;cases u;refine az (az (wpAny_dictSet_heap (hsz:=by size_fits) (show(rm (iF X.prog X.w)).room X.A from ?_) (wU i.hok g) W λh' h G=>bg ?_))
   .show X.A.units<cLine;lia
   .dsimp only;rw[List.forIn_nil];refine bg ⟨.ref s.heap.objs.size,_,?_,rfl,C⟩;obtain⟨q,S,T,n,P,O,N,_,M⟩:=h;refine vo i (by rw[e];exact True.intro) G ⟨q,n⟩ ⟨by size_fits,L,_,.cons ⟨rfl,?_,w⟩ .nil,q,S,T,n,P,O,N,M⟩;rw[bd (sL g e (λz=>nomatch z))];exact g
end
open Mx
section
variable{P:aT}{w:aK}{A:aV}{E:ai->ao->Prop}{s:ao}
def FtIs(h:aB)(c:List Str)(v:ai):Prop:=c≠[]/\∃(a:af) (b:Array ai),v=.ref a/\IsTup h a b/\jW b.toList c
theorem FtIs.inj{h:aB}{k b:List Str}{v:ai}(x:FtIs h k v)(y:FtIs h b v):k=b:=by
 obtain⟨_,a,d,rfl,g,f⟩:=x;obtain⟨_,l,c,e,j,i⟩:=y;cases e;obtain rfl:=tup_uniq g j;exact strs_uniq f i
theorem FtIs.keep{h c:aB}{k:List Str}{v:ai}(x:FtIs h k v)(g:∀b o,h.get? b=aa o->c.get? b=aa o):FtIs c k v:=by obtain⟨n,a,its,rfl,f,d⟩:=x;exact⟨n,a,its,rfl,tup_kept f λb o e _=>g b o e,d⟩
def ftKey(h:aB):KeyKind where
 toKeyOrd:=ordL
 keyOf:=λv=>open Classical in if z:∃a,FtIs h a v then aa (cpsL z.choose)else ag
 dflt:=([]:List Tx)
theorem ftKey_of{h:aB}{a:List Str}{v:ai}(x:FtIs h a v):(ftKey h).keyOf v=aa (cpsL a):=by
 have z:∃a,FtIs h a v:=⟨a,x⟩
 show(open Classical in if z:∃a,FtIs h a v then aa (cpsL z.choose)else ag)=_;rw[dif_pos z,z.choose_spec.inj x]
theorem ftKey_some{h:aB}{k:List Tx}{v:ai}(x:(ftKey h).keyOf v=aa k):∃a,FtIs h a v/\cpsL a=k:=by
 by_cases z:∃a,FtIs h a v
 .obtain⟨a,z⟩:=z;rw[ftKey_of z]at x;exact⟨a,z,cp x⟩
 .have:(ftKey h).keyOf v=ag:=dif_neg z;rw[this]at x;cases x
theorem lex_strs{b:Bool}{Q:Bool->ao->Prop}:∀{n m:List ai}{g j:List Str} (i:Nat) {d:Bool},jW n g->jW m j->d=decide (g.length<j.length)->Q (ltL (cpsL g) (cpsL j)) s->PySem.W.KatLex P w A b d Q (n.zip m) i s
 |_,_,_,_,i,d,.nil,.nil,f,h=>by rw[List.zip_nil_left];refine PySem.W.kat_nil ?_;rw[f];have e:ltL (cpsL []) (cpsL [])=decide (([]:List Str).length<([]:List Str).length):=(decide_eq_false (by simp[cpsL])).trans (decide_eq_false (by simp)).symm;rw[<-e];exact h
 |_,_,_,_,i,d,.nil,.cons c u o,f,h=>by rw[List.zip_nil_left];refine PySem.W.kat_nil ?_;rw[f];refine cast (congrArg (λz=>Q z s) ?_) h;exact(decide_eq_true (by simp[cpsL])).trans (decide_eq_true (by simp)).symm
 |_,_,_,_,i,d,.cons a t p,.nil,f,h=>by rw[List.zip_nil_right];refine PySem.W.kat_nil ?_;rw[f];refine cast (congrArg (λz=>Q z s) ?_) h;exact(decide_eq_false (by simp[cpsL])).trans (decide_eq_false (by simp)).symm
 |_,_,_,_,i,d,.cons (ys:=g) a t p,.cons (ys:=j) c u o,f,h=>by
  rw[List.zip_cons_cons];have l:Q (if a.cps.toList=c.cps.toList then ltL (cpsL g) (cpsL j)else decide (a.cps.toList<c.cps.toList)) s:=by rw[<-ltL_cons];exact h
  refine PySem.W.kat_cons (SeqAt.EqAt.str_str a t c u _ _ _ _ ?_);by_cases e:a=c
  .subst e;rw[if_pos rfl]at l;rw[beq_self_eq_true];exact PySem.W.kat_yes (lex_strs (i+1) p o (by rw[f];simp) l)
  .rw[if_neg (λz=>e (cps_inj z))]at l;rw[beq_false_of_ne e];refine PySem.W.kat_no ?_;cases (b&&i == 0)with
   |true=>exact oneLt_str l
   |false=>exact PySem.W.kat_one _ _ (PyProof.Rows.lt_str l)
theorem ftLt{h i:aB}(I:A.units+8<cLine)(k:∀b o,h.get? b=aa o->i.get? b=aa o):gI (ftKey h) (tuples' ah) P w A {s with heap:=i}:=λE x y a b Q z v q=>by obtain⟨F,p,rfl⟩:=ftKey_some z;obtain⟨J,n,rfl⟩:=ftKey_some v;obtain⟨_,L,l,rfl,B,g⟩:=p.keep k;obtain⟨_,K,f,rfl,D,c⟩:=n.keep k;obtain⟨o,r,_,m,u⟩:=B;obtain⟨G,C,_,H,j⟩:=D;refine PySem.W.kat_lt r u C j (lex_strs 0 g c ?_ q);have e:=strs_len g;have d:=strs_len c;rw[i7]at e d;rw[e,d]
theorem ft_kind{b:List ai}{Q:fR->ao->Prop}(c:∀v∈b,∃d,FtIs s.heap d v)(H:2<=b.length)(h:Q (tuples' ah) s):aC (ay P w) A (keyKind' b.toArray) Q E s:=by
 have g:∀(b:List ai),(∀v∈b,∃d,FtIs s.heap d v)->∃fs,PySem.W.KatTups s.heap b fs/\fs.length=b.length/\∀f∈fs,∃z t,f=Value.str z t:=by
  intro b
  induction b with
  |nil=>intro _;exact⟨[],PySem.W.KatTups.nil,rfl,λf e=>by simp at e⟩
  |cons v b r=>
   intro c;obtain⟨fs,n,q,j⟩:=r λu x=>c u (kw _ x);obtain⟨d,F,a,i,rfl,⟨o,y,D,m,C⟩,p⟩:=c v lZ;cases d with
   |nil=>exact absurd rfl F
   |cons z G=>
    generalize B:i.toList=l at p;cases p with
    |cons _ t p=>
     refine⟨.str z t::fs,PySem.W.KatTups.cons y D C (by rw[<-pO,B];rfl) n,by simp[q],λf e=>?_⟩;rcases dm.mp e with rfl|e
     .exact⟨z,t,rfl⟩
     .exact j f e
 obtain⟨fs,n,q,j⟩:=g b c;refine PySem.W.kat_kind (T:=.type "str") n ∅ (λv c=>?_) (by decide) ?_
 .obtain⟨z,t,rfl⟩:=j v c;exact .now
 .have:(Value.type "str" != Value.type "tuple")=ah:=by decide
  rw[this];exact h
end
end L2
namespace Pu
open L2
section
variable{K:ar}{F g:af->Prop}{S:Nat->af->Prop}{f:ak}{d:St}{H b:Hp}
mutual
theorem aJ.mono2(m:∀a xs,Rd H a (.lst xs)->Rd b a (.lst xs))(l:∀a xs,H a=aa (.tup xs)->b a=aa (.tup xs))(j:∀a c,H a=aa (im a c)->b a=aa (im a c)):∀(x:PV) (v:V),aJ K H F x v->aJ K b F x v
 |.non,_,h=>h
 |.bl _,_,h=>h
 |.int _,_,h=>h
 |.str _,_,h=>h
 |.raw _,_,h=>h
 |.exc _,_,⟨a,e,h⟩=>⟨a,e,j a _ h⟩
 |.tup xs,_,⟨a,i,e,o,n⟩=>⟨a,i,e,l a _ o,aS.mono2 m l j xs i n⟩
 |.lst xs,_,⟨a,i,e,o,p,n⟩=>⟨a,i,e,m a i o,p,aS.mono2 m l j xs i n⟩
theorem aS.mono2(m:∀a xs,Rd H a (.lst xs)->Rd b a (.lst xs))(l:∀a xs,H a=aa (.tup xs)->b a=aa (.tup xs))(j:∀a c,H a=aa (im a c)->b a=aa (im a c)):∀(xs:List PV) (i:List V),aS K H F xs i->aS K b F xs i
 |[],_,h=>h
 |x::xs,_,⟨v,r,e,o,n⟩=>⟨v,r,e,aJ.mono2 m l j x v o,aS.mono2 m l j xs r n⟩
end
def mT(p:HO):Prop:=(∃a,p=.dT a)\/∃o a,p=.frz o (.dT a)
theorem mT.lst{p:HO}(h:mT p)(xs:List V):p≠.lst xs/\(∀o,p≠.frz o (.lst xs))/\p≠.tup xs:=by
 rcases h with⟨ws,rfl⟩|⟨o,ws,rfl⟩
 .exact⟨λz=>(nomatch z),λ_ z=>(nomatch z),λz=>(nomatch z)⟩
 .exact⟨λz=>(nomatch z),λ_ z=>(by cases z),λz=>(nomatch z)⟩
section
variable{a:af}{p q:HO}
theorem t4(e:H a=aa p)(d:mT p):∀b xs,Rd H b (.lst xs)->Rd (upd H a q) b (.lst xs):=λb xs h=>by
 have c:b≠a:=by
  rintro rfl;rcases h with h|⟨o,h⟩ <;> rw[e]at h
  .exact(d.lst xs).1 (cp h)
  .exact(d.lst xs).2.1 o (cp h)
 rcases h with h|⟨o,h⟩
 .exact .inl (by rw[bd c];exact h)
 .exact .inr ⟨o,by rw[bd c];exact h⟩
theorem qR(c:H a=aa p)(d:mT p):∀b xs,H b=aa (.tup xs)->upd H a q b=aa (.tup xs):=λb xs h=>by rw[bd (by rintro rfl;rw[c]at h;exact(d.lst xs).2.2 (cp h))];exact h
theorem sO(e:H a=aa p)(d:mT p):∀b c,H b=aa (im b c)->upd H a q b=aa (im b c):=λb c h=>by
 rw[bd (by
  rintro rfl;rw[e]at h;cases h;rcases d with⟨ws,z⟩|⟨o,ws,z⟩ <;> cases z)];exact h
theorem aG.recast(r:aG K F S ε σ H)(f:H a=aa p)(d:mT p)(u:¬U S a):aG K F S ε σ (L2.upd H a q):=by
 have n:∀x v,aJ K H F x v->aJ K (L2.upd H a q) F x v:=aJ.mono2 (t4 f d) (qR f d) (sO f d);have l:∀x v,aS K H F x v->aS K (L2.upd H a q) F x v:=aS.mono2 (t4 f d) (qR f d) (sO f d);have s:∀i b,S i b->b≠a:=λi b z e=>u ⟨i,e ▸ z⟩;refine⟨r.len,λb z=>?_,λi pv e=>let ⟨v,j,g⟩:=r.val i pv e;⟨v,j,n _ _ g⟩,λi po e=>let ⟨b,j,g⟩:=r.own i po e;⟨b,j,g.mono n l λc o z w=>by rw[bd (s i c z)];exact w⟩,λi b z=>?_,r.dist⟩
 .obtain⟨o,h⟩:=r.ex b z;by_cases m:b=a
  .subst m;exact⟨_,upd_same⟩
  .exact⟨o,by rw[bd m];exact h⟩
 .obtain⟨j,g,o,A,y⟩:=r.foot i b z;exact⟨j,g,o,by rw[bd (s i b z)];exact A,y⟩
end
theorem aG.putOwn{j:Nat}{po:PO}{a:af}{Sa:af->Prop}(r:aG K F S ε σ H)(d:j<ε.length)(e:σ[j]?=aa (aa (.ref a)))(h:ez K H F po a Sa)(f:q8 F S H Sa):aG K F (λk b=>(S k b/\k≠j)\/(k=j/\Sa b)) (ε.set j (.own po)) σ H:=by
 have:=r.setOwn d h f;have g:σ.set j (aa (.ref a))=σ:=by
  apply yt;intro k;by_cases c:j=k
  .subst c;rw[cR (by rw[<-r.len];exact d),e]
  .rw[b9 c]
 rw[g]at this;exact this
end
def zh:aQ->PV
 |.inl i=>.int i
 |.inr z=>.str z.cps.toList
def jO(k:dU):PV:=.tup (k.map zh)
def n5:aQ->Bool
 |.inl _=>ah
 |.inr z=>decide (z.cps.toList.length<=bF)
def vb(a:List (dU×PV)):Bool:=a.all λp=>p.1.all n5
section
variable{K:ar}{F:af->Prop}{H:Hp}
theorem vk:∀{k:dU},k.all n5=ah->aS K H F (k.map zh) (k.map kV)
 |[],_=>rfl
 |.inl i::k,h=>⟨_,_,rfl,rfl,vk (by simpa[n5]using h)⟩
 |.inr z::k,h=>by rw[lm,fP]at h;exact⟨_,_,rfl,⟨by show V.str z=V.str (tS z.cps.toList);rw[oO],of_decide_eq_true h.1⟩,vk h.2⟩
theorem IW{k:dU}{b:af}(h:k.all n5=ah)(a:H b=aa (.tup (k.map kV))):aJ K H F (jO k) (.ref b):=⟨b,_,rfl,a,vk h⟩
theorem ir.keys{a:List (dU×PV)}{b:List (dU×V)}(h:ir K H F a b):b.map (·.1)=a.map (·.1):=by
 unfold ir at h
 induction h with
 |nil=>rfl
 |cons r _ c=>rw[eF,eF,c,r.1]
end
section
variable{X:Cx}{E:XK}{pin:List Nat}{e b c:aA}{de db l:ak->R PV}{d:Pos}
def qT(db l:ak->R PV):ak->R PO:=λε=>(db ε).bind λk ε1=>(l ε1).bind λy a=>(a_ (lW k) a).bind λf a=>.ok (.dT [(f,y)]) a
theorem E3(hu:X.A.units+64<cLine)(hb:DE X E b db)(hc:DE X E c l):DN X E (.Dict [aa b] [c] d) (qT db l):=λF S N I H Q s h=>by
 refine bX (Ek ∅ bI bI) λp g=>?_;have al:Al F F H (upd H p (.dT [])):=Al.new0 g;have Z:¬F p:=λz=>by obtain⟨o,q⟩:=s.ex p z;rw[g]at q;cases q
 have W:¬U S p:=λ⟨i,z⟩=>by obtain⟨_,_,o,q,_⟩:=s.foot i p z;rw[g]at q;cases q
 have B:Grow (U S) (U S) F F H (upd H p (.dT [])):=al.grow;refine hb F S N I _ _ (s.al al) ((Ok.bindB h B).imp λk m F1 S1 H1 J D h1 u O=>?_);obtain⟨e1,x,v⟩:=D.stay (upd_same:upd H p (.dT []) p=aa (.dT [])) W Z;refine hc F1 S1 m I H1 _ J ((Ok.bindB h1 (B.trans D)).imp λy M L S2 H2 T C j w n=>?_);obtain⟨K,f,a⟩:=C.stay e1 v x;cases G:lW k with
 |none=>rw[G]at j;exact j.elim
 |some A=>rw[G]at j;simp only[cQ,R.bind_ok]at j;have r:aJ X.K H2 L k u:=O.grow C J.fit;obtain⟨bb,rfl,Y⟩:=ze r G;refine⟨_,_,rfl,K,bb,A,rfl,Y,?_⟩;obtain⟨gl,fit,P⟩:=T.lay (o':=.dT [(A,w)]) K trivial f a;have g3:=((B.trans D).trans C).lay (o':=.dT [(A,w)]) g;refine j L S2 _ P g3 p (λb=>b=p) ⟨⟨_,upd_same,.cons ⟨rfl,n.grow gl fit⟩ .nil⟩,λb=>pJ⟩ λb z=>?_;subst z;exact⟨g,f,a,_,upd_same,trivial⟩
def qS(i j:Nat):ak->R aL:=λε=>match ε[j]? with
 |some (.own a)=>if i<ε.length then .ok .next ((ε.set j .none).set i (.own a))else .no
 |_=>.no
theorem EZ(i j:Nat){x y:Str}{p m:Pos}(I:X.N.Nodup)(w:i∉pin:=by decide)(B:X.N[i]?=aa x:=by rfl)(s:Loc X.env.scope x:=by first|exact Or.inl rfl|exact Or.inr rfl)(v:i8 (.Name y m) (aa (.Name x p)) d.line X.env=pure aj:=by rfl)(C:X.fn x=ah\/X.env.scope.names.lookup x=aa .local:=by first|exact .inl rfl|exact .inr rfl) (g:X.N[j]?=aa y:=by rfl) (u:d_ X.env.scope y:=by eq_refl)(G:(y==("__debug__":Str))=aj:=by decide) (L:(y==("__classdict__":Str))=aj:=by decide):DS X E pin (.Assign [.Name x p] (.Name y m) d) (qS i j):=λF S N M H D f h=>by
 unfold qS at h;split at h
 .rename_i O K;split at h
  .rename_i A;obtain⟨a,J,r⟩:=f.own j _ K;refine gC (xw I B s (fD g u G L) v C) ⟨_,J,?_⟩;refine h F _ _ H ((f.drop j).setOwn (Sa:=S j) (by rw[dX];exact A) r λb z=>⟨(f.foot j b z).2.1,λ⟨k,q,n⟩=>n (f.dist k j b q z),(f.foot j b z).2.2⟩) ⟨λ_ z=>z,λ_ _ z _=>z,λ_ o z=>⟨o,z⟩,λ_ z=>.inl z,λb ⟨k,z⟩=>?_⟩ (gv.set w);rcases z with z|⟨_,z⟩
   .exact .inl ⟨k,z.1.1⟩
   .exact .inl ⟨j,z⟩
  .exact h.elim
 .exact h.elim
def oI(i j:Nat)(db:ak->R aL):ak->R aL:=λg=>(a_ (iO g j) g).bind λa g=>if vb a=ah then match dj i db (a.map λp=>jO p.1) (g.set j .none)with
 |.ok .next f=>if j<f.length then .ok .next (f.set j (.own (.dT a)))else .no
 |_=>.no else .no
theorem E5(i j:Nat){x y:Str}{p yp:Pos}{M:List bf}{db:ak->R aL}(nJ:xQ (ay X.prog X.w) X.A X.env X.xe)(hc:X.calm=ah)(hN:X.N.Nodup)(hb:fX X E (j::pin) M db)(hp:i∉j::pin:=by decide) (hx:X.N[i]?=aa x:=by rfl) (hl:Loc X.env.scope x:=by first|exact Or.inl rfl|exact Or.inr rfl) (hs:∀x,kA (.Name y yp) X.env x=pure x:=by intro _;rfl)(hf:X.fn x=ah\/X.env.scope.names.lookup x=aa .local:=by first|exact .inl rfl|exact .inr rfl) (hNj:X.N[j]?=aa y:=by rfl) (hv:d_ X.env.scope y:=by eq_refl)(hd:(y==("__debug__":Str))=aj:=by decide) (br:(y==("__classdict__":Str))=aj:=by decide):DS X E pin (.For (.Name x p) (.Name y yp) M [] d) (oI i j db):=λF S ε σ H D rl h=>by
 unfold oI at h;cases e0:iO ε j with
 |none=>rw[e0]at h;exact h.elim
 |some L=>
  rw[e0]at h;simp only[cQ,R.bind_ok]at h;split at h;rotate_left
  .exact h.elim
  rename_i hok;split at h;rotate_left
  .exact h.elim
  rename_i Q C9;split at h;rotate_left
  .exact h.elim
  rename_i hje;obtain⟨a,A,ea,Z,hk,mo,hSo⟩:=rl.dtAt (qz e0);have j7:=hk.keys;refine gC (IY j nJ hc hNj hv hd br (xI hN hx hl hf) o0 hs) ⟨a,A,ea,Z,λo nd hz j9=>?_⟩;have N:¬U (λk b=>S k b/\k≠j) a:=λ⟨k,z1,z2⟩=>z2 (rl.dist k j a z1 mo);have hFa:¬F a:=(rl.foot j a mo).2.1;have r0:aG X.K F (λk b=>S k b/\k≠j) (ε.set j .none) σ (upd H a (.frz o (.dT A))):=(rl.drop j).recast Z (.inl ⟨_,rfl⟩) N;have r:∀(n:Nat) (b:af),(fh o)[n]?=aa b->∃k,(L.map λp=>jO p.1)[n]?=aa (jO k)/\k.all n5=ah/\H b=aa (.tup (k.map kV)):=λn b hb=>by
   obtain⟨p,h1,h2⟩:=j9.2 n b hb;have h3:(A.map (·.1))[n]?=aa p.1:=by rw[fN,h1];rfl
   rw[j7,fN]at h3;obtain⟨q,h4,h5⟩:=l_.mp h3;refine⟨p.1,by rw[fN,h4,uV,h5],?_,h2⟩;have:=jV.mp hok q (kB h4);rw[<-h5];exact this
  have bq:(fh o).length=(L.map λp=>jO p.1).length:=by rw[cr,j9.1,hk.len]
  generalize hxs:(L.map λp=>jO p.1)=xs at C9 r bq;have fin:∀B I m u,aG X.K B I Q m u->Grow (U λk b=>S k b/\k≠j) (U I) F B (upd H a (.frz o (.dT A))) u->gv (j::pin) σ m->qj a A D m u:=by
   intro B I m u r' C O;have sy:u a=aa (.frz o (.dT A)):=C.keep a _ upd_same N;obtain⟨_,nF',nS'⟩:=C.stay (upd_same:upd H a (.frz o (.dT A)) a=_) N hFa;have dt:mT (.frz o (.dT A)):=.inr ⟨_,_,rfl⟩;have Y:mT (.dT A):=.inl ⟨_,rfl⟩;have W:aG X.K B I Q m (upd u a (.dT A)):=r'.recast sy dt nS';have nQ:ir X.K (upd u a (.dT A)) B L A:=hk.mono λx v z=>aJ.mono2 (t4 sy dt) (qR sy dt) (sO sy dt) _ _ ((aJ.mono2 (t4 Z Y) (qR Z Y) (sO Z Y) _ _ z:aJ X.K (upd H a (.frz o (.dT A))) F x v).grow C r0.fit);have r4:=W.putOwn (po:=.dT L) (Sa:=λb=>b=a) hje (by rw[O j (by simp)];exact ea) ⟨⟨A,upd_same,nQ⟩,λ_=>pJ⟩ λb z=>by subst z;exact⟨nF',nS',_,upd_same,trivial⟩
   refine⟨o,sy,h B _ m _ r4 ⟨C.fro,λb o' e n=>?_,λb o' e=>?_,λb z=>?_,λb ⟨k,z⟩=>?_⟩ λk hk=>O k (by simp[hk])⟩
   .have J:b≠a:=by rintro rfl;exact n ⟨j,mo⟩
    rw[bd J];exact C.keep b o' (by rw[bd J];exact e) λ⟨k,z⟩=>n ⟨k,z.1⟩
   .by_cases J:b=a
    .subst J;exact⟨_,upd_same⟩
    .obtain⟨o2,q⟩:=C.there b o' (by rw[bd J];exact e);exact⟨o2,by rw[bd J];exact q⟩
   .rcases C.fnew b z with w|w|⟨k,w⟩
    .exact .inl w
    .refine .inr (.inl ?_);by_cases J:b=a
     .subst J;rw[upd_same]at w;cases w
     .rw[bd J]at w;exact w
    .exact .inr (.inr ⟨k,w.1⟩)
   .rcases z with z|⟨_,z⟩
    .rcases C.onew b ⟨k,z.1⟩with⟨k',w⟩|w
     .exact .inl ⟨k',w.1⟩
     .by_cases J:b=a
      .subst J;rw[upd_same]at w;cases w
      .rw[bd J]at w;exact .inr w
    .subst z;exact .inl ⟨j,mo⟩
  refine Bg (D:=⟨qj a A D,λ_ _=>False,λ_ _=>False,λ_ _=>False⟩) (Dl j9.1) (λn m u=>∃B I G,aG X.K B I G m u/\Grow (U λk b=>S k b/\k≠j) (U I) F B (upd H a (.frz o (.dT A))) u/\gv (j::pin) σ m/\dj i db (xs.drop n) G=.ok .next Q) ⟨F,_,_,r0,Grow.refl ..,gv.refl _ _,C9⟩ (λn m u _ ⟨B,I,G,_,g,_⟩=>g.keep a _ upd_same N) ?_ ?_
  .rintro n v m u lA ⟨B,I,G,r',C,O,q⟩;rw[fN]at lA;obtain⟨bb,nI,rfl⟩:=l_.mp lA;obtain⟨k,iL,dv,ej⟩:=r n bb nI;have hn:n<xs.length:=(bY.mp iL).1;have ed:xs.drop n=jO k::xs.drop (n+1):=by rw[pK hn];congr 1;exact(bY.mp iL).2
   rw[ed]at q;have iB:upd H a (.frz o (.dT A)) bb=aa (.tup (k.map kV)):=qR Z (.inl ⟨_,rfl⟩) _ _ ej;have j8:u bb=aa (.tup (k.map kV)):=C.imm r0.fit iB (λz=>z);have r2:=r'.set (i:=i) (IW (K:=X.K) (F:=B) dv j8);have gl:Grow (U I) (U λj b=>I j b/\j≠i) B B u u:=Grow.less i;show lM X M _ (m.set i (aa (.ref bb))) u;refine hb B _ _ _ u _ r2 ?_;unfold dj at q;cases e:db (G.set i (.val (jO k)))with
   |no=>rw[e]at q;cases q
   |er c T=>rw[e]at q;cases q
   |ok f T=>
    rw[e]at q;cases f with
    |next=>exact λF3 S3 P H3 W g3 p3=>⟨F3,S3,T,W,(C.trans gl).trans g3,(O.trans (gv.set hp)).trans p3,q⟩
    |cont=>exact λF3 S3 P H3 W g3 p3=>⟨F3,S3,T,W,(C.trans gl).trans g3,(O.trans (gv.set hp)).trans p3,q⟩
    |brk=>
     cases q;exact λF3 S3 P H3 W g3 p3=>fin F3 S3 P H3 W ((C.trans gl).trans g3) ((O.trans (gv.set hp)).trans p3)
    |ret s=>cases q
  .rintro m u ⟨B,I,G,r',C,O,q⟩;rw[cr,bq,yh]at q;cases q;exact fin B I m u r' C O
end
end Pu
namespace L2
open Mx
def ig(a b:List Tx):Bool:=!ltL b a
def eC(ks:List (List Tx)):List (List Tx):=ks.mergeSort ig
theorem Ko(a b:List Tx):(ig a b||ig b a)=ah:=by
 unfold ig;cases h:ltL b a with
 |false=>rfl
 |true=>
  have:ltL a b=aj:=by
   cases c:ltL a b with
   |false=>rfl
   |true=>exact absurd (ordL.trans _ _ _ h c) (by have:ltL b b=aj:=ordL.irrefl _;show ¬ltL b b=ah;rw[this];decide)
  rw[this];rfl
theorem Eu(a b c:List Tx)(e:ig a b=ah)(d:ig b c=ah):ig a c=ah:=by unfold ig at *;have:ltL c a=aj:=pM (O:=ordL) (a:=a) (b:=b) (c:=c) (show ltL b a=aj by simpa using e) (show ltL c b=aj by simpa using d);rw[this];rfl
theorem JD(a b:List Tx)(d:ig a b=ah)(c:ig b a=ah):a=b:=by unfold ig at *;exact ordL.total a b (show ltL a b=aj by simpa using c) (show ltL b a=aj by simpa using d)
theorem wF(ks:List (List Tx)):(eC ks).Perm ks:=List.mergeSort_perm ks ig
theorem Kn(ks:List (List Tx)):(eC ks).Pairwise (λa b=>ig a b=ah):=List.pairwise_mergeSort Eu Ko ks
theorem Iy{ks c:List (List Tx)}(e:c.Perm ks)(d:c.Pairwise (λx y=>ig x y=ah)):c=eC ks :=List.Perm.eq_of_pairwise (le:=λa b=>ig a b=ah) (λa b _ _=>JD a b) d (Kn ks) (e.trans (wF ks).symm)
def dR(k:List Tx):List aQ:=k.map λx=>Sum.inr (tS x)
theorem Ef(k:List Tx):(dR k).map kV=cD k:=by simp[dR,cD,kV,tV]
section
variable{X:Cx}
theorem Ix{P:aT}{w:aK}{H:Hp}{h:aB}{k:List Tx}{a:af}(ok:cG P w H h)(e:H a=aa (.tup (cD k)))(c:k≠[]):FtIs h (k.map tS) (.ref a):=by
 obtain⟨_,b,r,p,_⟩:=(show bZ P w H h a (.tup (cD k))from ok a _ e)
 exact⟨λz=>c (by simpa using z),a,b.toArray,rfl,p,by have:=vf r;rw[yc];exact this⟩
theorem Er(hu:X.A.units+64<cLine)(hc:X.calm=ah):eI X (.builtin "sorted") (λxs H Q=>∃(d:af) (a:List (List aQ×V)) (ks:List (List Tx)),xs=[.ref d]/\H d=aa (.dT a)/\a.map (·.1)=ks.map dR/\(∀k∈ks,k≠[])/\ks.length<=1000000 /\ ∀l (S:List (List Tx×af)),H l=ag->(∀q∈S,H q.2=aa (.tup (cD q.1)))->S.map (·.1)=eC ks->Q (.ref l) (upd H l (.lst (S.map λq=>.ref q.2)))):=by
 intro ae s σ H xs us Q I r h;obtain⟨d,a,ks,rfl,hd,hk,eQ,Y,q⟩:=h;obtain⟨u,rfl,ru⟩:=vals1 r;cases ru;obtain⟨o,ho,_⟩:=I.freezeT hd;obtain⟨hs,es,rd,W,nd,D,mw⟩:=vM ho (show bZ X.prog X.w H s.heap d (.dT a)from I.hok d _ hd);have B:a.length=ks.length:=by have:=congrArg pr hk;simpa using this
 have p6:∀x∈ks.zip (fh o),H x.2=aa (.tup (cD x.1)):=λx c=>by
  obtain⟨n,F⟩:=uS c;rw[List.getElem?_zip_eq_some]at F;obtain⟨p,h1,f⟩:=D.2 n _ F.2;have M:(a.map (·.1))[n]?=aa p.1:=by rw[fN,h1];rfl
  rw[hk,fN,F.1,uV]at M;rw[f,<-cp M,Ef]
 refine sorted_genK ∅ (PySem.W.kdu_collect (HZ (P:=X.prog) (w:=X.w) (es:=es) (ep:=oh o) hs) (y8 (I.ok.hd hc)) rd (by rw[W,B];exact nk (qA Y)) λm J O k L=>?_);have I1:Inv X ae σ H {s with heap:=m,toks:=J}:=I.kept (t':=J) k;have u_:O.toList=(ks.zip (fh o)).map λx=>Value.ref x.2:=by
  have G:(ks.zip (fh o)).map (λx=>Value.ref x.2)=(fh o).map Value.ref:=by rw[<-C0 (l₁:=ks) (l₂:=fh o) (by rw[D.1,B];exact bB _),gn];simp[C0,D.1,B]
  rw[G];apply yt;intro n;by_cases F:n<es.size
  .have mr:n<O.size:=by rw[L.1];exact F
   obtain⟨e,h1,f⟩:=L.2 n O[n] (by rw[C4]);obtain⟨b,M,h4⟩:=mw n e h1;rw[fN,M,pO,C4 mr,f,h4];rfl
  .rw[yg (by rw[i7,L.1];lia),yg (by rw[cr,D.1,<-W];lia)]
 have g:∀(f:aB),(∀b o,m.get? b=aa o->f.get? b=aa o)->∀x∈ks.zip (fh o),FtIs f (x.1.map tS) (.ref x.2):=λf i x c=>(Ix I1.hok (p6 x c) (eQ _ (rA c).1)).keep i;have C:∀v∈O.toList,∃x∈ks.zip (fh o),v=.ref x.2:=λv j=>by rw[u_]at j;obtain⟨x,c,rfl⟩:=gK.mp j;exact⟨x,c,rfl⟩
 refine⟨ftKey m,tuples' ah,λv j=>?_,by rw[i7,L.1,W,B];exact Y,λA' f hA i mh=>⟨ftLt hA i,λ{E Q} qq=>ft_kind (s:={s with heap:=f,toks:=J}) (λv j=>?_) mh qq⟩,λf T e i lv b1 b2=>?_⟩
 .obtain⟨x,c,rfl⟩:=C v j;exact⟨_,ftKey_of (g m (λ_ _ z=>z) x c)⟩
 .obtain⟨x,c,rfl⟩:=C v j;exact⟨_,g f i x c⟩
 .rw[u_]at b1;obtain⟨A,G,N⟩:=perm_mapE b1;have K:∀q∈A,q∈ks.zip (fh o):=λq Z=>N.mem_iff.mp Z;refine⟨.ref _,_,I1.laid (t':=J) (o:=.lst (A.map λq=>.ref q.2)) i (bB _) ⟨?_,T.toList,e,?_,by rw[Array.toArray_toList];exact lv⟩,rfl,q _ A I1.fresh (λq Z=>p6 q (K q Z)) ?_⟩
  .rw[cr,N.length_eq,List.length_zip];have:=qA Y;lia
  .rw[G];clear G N K
   induction A with
   |nil=>exact .nil
   |cons q A ih=>exact .cons rfl ih
  .refine Iy ?_ ?_
   .have:=N.map (·.1);rwa[List.map_fst_zip (by rw[D.1,B];exact bB _)]at this
   .rw[G]at b2;refine yd.mpr ((yd.mp b2).imp_of_mem λ{x y} c hy hh=>?_);have:=hh _ _ (ftKey_of (g m (λ_ _ z=>z) x (K x c))) (ftKey_of (g m (λ_ _ z=>z) y (K y hy)));have:ltL (cpsL (y.1.map tS)) (cpsL (x.1.map tS))=aj:=this;simp only[cpsL,gn,yv,jK,yz]at this;unfold ig;rw[this];rfl
end
end L2
namespace Pu
open L2
def my:dU->Option (List Tx)
 |[]=>aa []
 |.inr z::r=>(my r).map (z.cps.toList::·)
 |_=>ag
def mZ:List (dU×PV)->Option (List (List Tx))
 |[]=>aa []
 | (k,_)::r=>(my k).bind λt=>(mZ r).map (t::·)
theorem zD:∀{k:dU}{t:List Tx},my k=aa t->k=dR t
 |[],t,h=>by cases h;rfl
 |.inr z::r,t,h=>by simp only[my,l_]at h;obtain⟨l,a,rfl⟩:=h;rw[zD a];simp[dR,oO]
 |.inl _::_,_,h=>by cases h
theorem AW:∀{a:List (dU×PV)}{ks:List (List Tx)},mZ a=aa ks->a.map (·.1)=ks.map dR
 |[],ks,h=>by cases h;rfl
 | (k,_)::r,ks,h=>by simp only[mZ,C1,l_]at h;obtain⟨t,c,d,b,rfl⟩:=h;rw[eF,eF,AW b,zD c]
theorem vU(t:List Tx):my (dR t)=aa t:=by
 induction t with
 |nil=>rfl
 |cons x t a=>show my (Sum.inr (tS x)::dR t)=_;simp[my,a,jK]
theorem Ih(ks:List (List Tx))(v:PV):mZ (ks.map λk=>(dR k,v))=aa ks:=by
 induction ks with
 |nil=>rfl
 |cons k ks a=>simp[mZ,a,vU]
def lK(k:List Tx):PV:=.tup (am k)
def sZ(a:List (dU×PV)):Option PO:=(mZ a).bind λks=>if ks.length<=1000000/\(∀k∈ks,k≠[]/\∀x∈k,x.length<=bF)then aa (.lst ((eC ks).map lK))else ag
def qO(i:Nat):ak->R PO:=λε=>(a_ (iO ε i) ε).bind λa ε=>a_ (sZ a) ε
theorem Ki{X:Cx}{E:XK}(i:Nat){y:Str}{D p r:Pos}(L:X.A.units+64<cLine)(P:X.calm=ah)(M:X.mg "sorted"=ag)(W:X.N[i]?=aa y:=by rfl)(I:d_ X.env.scope y:=by eq_refl)(O:(y==("__debug__":Str))=aj:=by decide) (br:(y==("__classdict__":Str))=aj:=by decide) (N:Gl X "sorted":=by rfl):DN X E (.Call (.Name "sorted" p) [.Name y D] [] r) (qO i):=λF S C σ H Q g h=>by
 unfold qO at h;cases B:iO C i with
 |none=>rw[B]at h;exact h.elim
 |some s=>
  rw[B]at h;simp only[cQ,R.bind_ok]at h;obtain⟨a,G,ea,T,u,ia,_⟩:=g.dtAt (qz B);unfold sZ at h;cases A:mZ s with
  |none=>rw[A]at h;exact h.elim
  |some ks=>
   rw[A,fm]at h;split at h
   .rename_i v;refine bX (o_ (Er L P) N M lP (jH (fD W I O br) km (sF rfl)) (by decide) (by decide) (sF rfl) rfl) ⟨.ref a,ea,a,G,ks,rfl,T,by rw[u.keys];exact AW A,λk u=>(v.2 k u).1,v.1,λl d n m e=>?_⟩;have al:Al F F H (L2.upd H l (.lst (d.map λq=>.ref q.2))):=Al.new0 n;have reps:∀(d:List (List Tx×af)),(∀q∈d,H q.2=aa (.tup (cD q.1))/\∀x∈q.1,x.length<=bF)->aS X.K H F ((d.map (·.1)).map lK) (d.map λq=>.ref q.2):=by
     intro d
     induction d with
     |nil=>intro _;rfl
     |cons q d J=>intro m;obtain⟨Z,Y⟩:=m q lZ;exact⟨_,_,rfl,⟨q.2,cD q.1,rfl,Z,Ll.mpr ⟨rfl,Y⟩⟩,J λz K=>m z (kw _ K)⟩
    refine h F S _ (g.al al) al.grow l (λc=>c=l) ⟨⟨_,upd_same,?_⟩,λc=>pJ⟩ λb z=>?_
    .rw[<-e];refine al.reps (reps d λq f=>⟨m q f,?_⟩);have:q.1∈eC ks:=by rw[<-e];exact gK.mpr ⟨q,f,rfl⟩
     exact(v.2 _ ((wF ks).mem_iff.mp this)).2
    .subst z;exact⟨n,λz=>Exists.elim (g.ex _ z) (λo w=>by rw[n]at w;cases w),λ⟨j,z⟩=>Exists.elim (g.foot j b z).2.2 (λo w=>by rw[n]at w;cases w.1),_,upd_same,trivial⟩
   .exact h.elim
def lQ:List PV->PV->Option Bool
 |[],_=>aa aj
 |y::c,x=>(b8 y x).bind λa=>(lQ c x).map λb=>a||b
def sG:PV->PV->Option PV
 |x,.lst a=>if dO a<=8 then(lQ a x).map .bl else ag
 |_,_=>ag
def Bs(K:ar):R2:=λx y H Q=>∃p a k,y=.ref p/\b7 K H p a/\(∃ks:List Bool,ks.length=a.length/\(∀(i:Nat) u b,a[i]?=aa u->ks[i]?=aa b->f8 K H 8 u x b)/\k=ks.any id)/\Q (.bl k) H
section
variable{X:Cx}{K:ar}
theorem Es(W:X.A.units+64<cLine):bH X (dP .In) (Bs X.K):=by
 classical
 intro T s E H x y v u Q I G F h;obtain⟨p,f,k,rfl,O,⟨ks,D,P,rfl⟩,q⟩:=h;cases F;obtain⟨a,r,J,n⟩:=I.list O;have C:a.length=f.length:=(ku r).symm
 let e:ai->Bool:=λz=>decide (∃i:Nat,a[i]?=aa z/\ks[i]?=aa ah)
 have m:∀(i:Nat) (z:ai) (b:Bool),a[i]?=aa z->ks[i]?=aa b->rF X.A.in1 s z v b:=λi z b d g=>by
  have A:i<f.length:=by rw[<-C];exact(bY.mp d).1
  have:∀{f:List V}{a:List ai} (r:bv f a) (i:Nat) (z:ai),a[i]?=aa z->∃w,f[i]?=aa w/\RelV w z:=by
   intro f a r;unfold bv at r
   induction r with
   |nil=>intro i z h;simp at h
   |cons r _ M=>
    intro i z h;cases i with
    |zero=>simp at h;subst h;exact⟨_,rfl,r⟩
    |succ i=>exact M i z (by simpa using h)
  obtain⟨w,N,o⟩:=this r i z d;exact P i w b N g X rfl T E s z v X.A.in1 I o G (by show X.A.units+1+8<cLine;lia)
 refine SeqAt.in_listAt e J.isList (λz n=>?_) ⟨.bl _,H,I,rfl,?_⟩
 .obtain⟨i,d⟩:=uS (show z∈a by simpa using n);have l:i<ks.length:=by rw[D,<-C];exact(bY.mp d).1
  by_cases c:∃i:Nat,a[i]?=aa z/\ks[i]?=aa ah
  .rw[show e z=ah from decide_eq_true c];obtain⟨j,S,B⟩:=c;exact m j z ah S B
  .rw[show e z=aj from decide_eq_false c];cases g:ks[i]with
   |true=>exact absurd ⟨i,d,by rw[dY l,g]⟩ c
   |false=>exact m i z aj d (by rw[dY l,g])
 .have:a.toArray.any e=ks.any id:=by
   rw[show a.toArray.any e=a.any e by simp,i9,ma,ma];constructor
   .rintro⟨z,_,n⟩;obtain⟨i,_,B⟩:=of_decide_eq_true n;exact⟨ah,kB B,rfl⟩
   .rintro⟨b,g,L⟩;obtain rfl:b=ah:=L;obtain⟨i,d⟩:=uS g;have A:i<a.length:=by rw[C,<-D];exact(bY.mp d).1
    exact⟨a[i],uN A,decide_eq_true ⟨i,by simp[A],d⟩⟩
  rw[this];exact q
theorem AJ{H:Hp}{F:af->Prop}{x:PV}{v:V}(l:aJ K H F x v):∀{f:List PV}{d:List V}{k:Bool},dO f<=8->lQ f x=aa k->aS K H F f d->∃ks:List Bool,ks.length=d.length/\(∀(i:Nat) u b,d[i]?=aa u->ks[i]?=aa b->f8 K H 8 u v b)/\k=ks.any id
 |[],d,k,_,e,m=>by
  cases e;rw[show d=[] from m];exact⟨[],rfl,λi u b h=>by simp at h,rfl⟩
 |y::f,d,k,p,e,⟨u,r,z,s,q⟩=>by
  subst z;simp only[lQ,C1,l_]at e;obtain⟨a,B,b,A,rfl⟩:=e;unfold dO at p;obtain⟨ks,o,n,rfl⟩:=AJ l ∅ A q;refine⟨a::ks,by simp[o],λi w c g j=>?_,by simp⟩;cases i with
  |zero=>simp at g j;subst g j;exact xG (Cn y x B s l) ∅
  |succ i=>exact n i w c (by simpa using g) (by simpa using j)
theorem J8:P2 K (Bs K) sG:=λF H x y v u Q pv d c e q=>by
 unfold sG at e;split at e
 .split at e
  .rename_i g;obtain⟨k,i,rfl⟩:=l_.mp e;obtain⟨a,b,rfl,h,_,f⟩:=c;exact⟨a,b,k,rfl,.inl h,AJ d g i f,q _ F H (Al.refl ..) rfl⟩
  .cases e
 .cases e
end
end Pu
namespace L2
theorem Hm{P:aT}{w:aK}{A:aV}{E:ai->ao->Prop}{s:ao}{t b:af}{e:List ai}{Q:ai->ao->Prop}(u:IsTup s.heap t #[])(v:IsTup s.heap b e.toArray)(h:Q (.ref b) s):aC (ay P w) A (ij .Add (.ref t) (.ref b)) Q E s:=by
 obtain⟨⟨y,x,o,q⟩,j,m,n,l⟩:=id u;obtain⟨⟨p,c,d,a⟩,g,i,r,f⟩:=id v;simp only at m l i f;subst m l i f;exact concat_meets ⟨_,j,rfl⟩ ⟨_,g,rfl⟩ Cy seq_tuple_add Cz CA (CB _ _)
  (tuple_addW0 t b #[] e.toArray n r x c q a rfl) ⟨j,g,h⟩
def xh(K:ar):R2:=λx y H Q=>∃a b c,x=.ref a/\y=.ref b/\cf K H a []/\cf K H b c/\Q (.ref b) H
theorem LD{X:Cx}:bH X (ij .Add) (xh X.K):=by
 intro r s n H x y v u Q I e d h;obtain⟨a,b,o,rfl,rfl,m,l,q⟩:=h;cases e;cases d;obtain⟨j,f,i,_⟩:=I.tuple m;obtain⟨c,p,g,_⟩:=I.tuple l;cases f;exact Hm i g ⟨.ref b,H,I,rfl,q⟩
end L2
namespace Pu
open L2
def qX:PV->PV->Option PV
 |.tup [],.tup a=>aa (.tup a)
 |x,y=>a9 x y
theorem Eo{X:Cx}:bH X (ij .Add) (λx y H Q=>xh X.K x y H Q\/tu X.K x y H Q):=LD.or eA
theorem G0{K:ar}:P2 K (λx y H Q=>xh K x y H Q\/tu K x y H Q) qX:=λF H x y v u Q pv d c e q=>by
 unfold qX at e;split at e
 .cases e;obtain⟨a,h,rfl,f,i⟩:=d;obtain⟨b,g,rfl,j,l⟩:=id c;rw[show h=[] from i]at f;exact .inl ⟨a,b,g,rfl,rfl,cf.of f,cf.of j,q _ F H (Al.refl ..) c⟩
 .exact .inr (eo F H _ _ v u Q pv d c e q)
end Pu
local macro_rules | `(⇑$x) => `(.val (.int $x))
local macro_rules | `(↥$x) => `(.val (.str $x))
namespace Sh
open L2 Pu
set_option genInjectivity false in
structure Ad where
 SlitError:af
 NoText:af
 NoWidth:af
 NoView:af
 NoWindow:af
 Never:af
 Full:af
 Nothing:af
 Unlike:af
 NoPlace:af
 NoLetters:af
 BadText:af
 Seeker:af
 Slit:af
def hG(a:Ad):List af:=[a.NoText,a.NoWidth,a.NoView,a.NoWindow,a.Never,a.Full,a.Nothing,a.Unlike,a.NoPlace,a.NoLetters,a.BadText]
def og(a:Ad)(c:ai):Bool:=match c with
 |.ref x=>(hG a).contains x
 |_=>aj
def ip(a:Ad)(c:ai)(D:V):Option Bool:=match c,D with
 |.ref x,.ref d=>if(hG a).contains x&&(hG a).contains d then aa (x == d)else ag
 |.ref x,.ty T=>if(hG a).contains x&&T == "ValueError" then aa ah else ag
 |_,_=>ag
def yar(a:Ad):ak->R aL:=b0 (dL oV (ap (dF (cm [1] (bC (dV 0)) (cZ) (d2 (gZ aj) (dV 0) (dV 1)))) (ax)))
def ul(a:Ad):ak->R Slot:=bO 2 [] (bN 0 (yar a))
def yav(a:Ad):ak->R aL:=b0 (kc (dL d8 (ap (dV 0) (ap (dC (.raw (.ty "int"))) (ax)))) (ug (dL d8 (ap (dV 0) (ap (dC (.raw (.ty "bool"))) (ax))))))
def kN(a:Ad):ak->R Slot:=bO 1 [] (bN 0 (yav a))
def yaw(a:Ad):ak->R aL:=b0 (kc (bh (a8 (kN a) (gV (dV 0) (bD)))) (mP (fz λi j=>decide (i<=j)) (fz λi j=>decide (i<=j)) (dC (.int 1)) (dV 0) (dC (.int 4))))
def lc(a:Ad):ak->R Slot:=bO 1 [] (bN 0 (yaw a))
def yax(a:Ad):ak->R aL:=b0 (kc (dL d8 (ap (dV 0) (ap (dC (.raw (.ty "str"))) (ax)))) (kc (d2 (eqT aj) (dL bp (ap (dV 0) (ax))) (dV 1)) (bh (a8 (ul a) (gV (dV 0) (gV (dV 2) (bD)))))))
def lU(a:Ad):ak->R Slot:=bO 3 [] (bN 0 (yax a))
def yam(a:Ad):ak->R aL:=aX (cI (kb (jA (dB (dL d8 (ap (dV 0) (ap (dC (.raw (.ty "tuple"))) (ax)))))) (jA (dB (mP (fz λi j=>decide (i<=j)) (fz λi j=>decide (i<=j)) (dC (.int 1)) (dL bp (ap (dV 0) (ax))) (dC (.int 9)))))) (b0 (dC (.bl aj))) (dN))
 (aX (cI (jA (dB (dL oV (ap (dF (cm [1,2] (bC (dV 0)) (cZ) (bh (a8 (lU a) (gV (dV 0) (gV (dV 1) (gV (dV 2) (bD)))))))) (ax))))) (b0 (dC (.bl aj))) (dN))
 (b0 (d2 (eqT aj) (dF (dL ko (ap (dV 0) (ax)))) (dF (dL ff (ap (dV 0) (ax)))))))
def iW(a:Ad):ak->R Slot:=bO 3 [] (bN 0 (yam a))
def yau(a:Ad):ak->R aL:=aX (cI (kb (jA (dB (dL d8 (ap (dV 0) (ap (dC (.raw (.ty "tuple"))) (ax)))))) (dB (d2 (eqT ah) (dL bp (ap (dV 0) (ax))) (dC (.int 2))))) (b0 (dC (.bl aj))) (dN))
 (b0 (kc (bh (a8 (lc a) (gV (d2 aO (dV 0) (dC (.int 0))) (bD)))) (bh (a8 (iW a) (gV (d2 aO (dV 0) (dC (.int 1))) (gV (d2 aO (dV 0) (dC (.int 0))) (gV (dV 1) (bD))))))))
def fe(a:Ad):ak->R Slot:=bO 2 [] (bN 0 (yau a))
def yat(a:Ad):ak->R aL:=mB (a8 (fe a) (gV (dV 0) (gV (dC (.str [97,98,99])) (bD))))
def jJ(a:Ad):ak->R Slot:=bO 1 [] (bN 0 (yat a))
def yao(a:Ad):ak->R aL:=cI (jA (dB (bh (a8 (jJ a) (gV (dV 0) (bD)))))) (qk (.ref a.NoView) (λb=>bL ((dC (.str [97,32,118,105,101,119,32,105,115,32,97,32,116,117,112,108,101,32,111,102,32,97,32,119,105,100,116,104,32,97,110,100,32,97,32,114,105,115,105,110,103,32,116,117,112,108,101,32,111,102,32,49,32,116,111,32,57,32,119,105,110,100,111,119,115])) b))) (dN)
def mM(a:Ad):ak->R Slot:=bO 1 [] (bN 0 (yao a))
def yaB(a:Ad):ak->R aL:=aX (cI (dB (d2 (fz λi j=>decide (i<j)) (dV 1) (dL bp (ap (dV 0) (ax))))) (b0 (d2 aO (dV 0) (dV 1))) (dN))
 (aX (cI (dB (d2 (eqT aj) (dV 0) (dF (dL cy (ax))))) (b0 (dC (.int 0))) (dN))
 (b0 (d2 a9 (d2 jL (d2 aO (dV 0) (d2 fA (dV 1) (dL bp (ap (dV 0) (ax))))) (dC (.int 31))) (dV 1))))
def oK(a:Ad):ak->R Slot:=bO 2 [] (bN 0 (yaB a))
def yaF(a:Ad):ak->R aL:=aX (bR 3 (d2 fA (d2 a9 (d2 a9 (d2 jL (bh (a8 (oK a) (gV (dV 0) (gV (dV 1) (bD))))) (dC (.int 1103515245))) (d2 jL (dC (.int 7919)) (dV 1))) (dC (.int 12345))) (dC (.int 2147483647))))
 (b0 (d2 fA (d2 fA (d2 fA (d2 qx (dV 3) (dC (.int 5))) (dC (.int 2147483647))) (dC (.int 999983))) (dV 2)))
def uj(a:Ad):ak->R Slot:=bO 3 [] (bN 1 (yaF a))
def yaD(a:Ad):ak->R aL:=aX (qE 1 (dC (.int 0)))
 (mB (a8 (uj a) (gV (dV 0) (gV (g_ (λxs=>jB (bp xs)) 1) (gV (dV 2) (bD))))))
def dW(a:Ad):ak->R Slot:=bO 3 [1] (bN 0 (yaD a))
def yaG(a:Ad):ak->R aL:=b0 (d2 aO (dV 2) (bh (a8 (dW a) (gV (dV 0) (gO 1 (gV (dL bp (ap (dV 2) (ax))) (bD)))))))
def lN(a:Ad):ak->R Slot:=bO 3 [1] (bN 0 (yaG a))
def yaI(a:Ad):ak->R aL:=aX (bR 4 (bh (a8 (lN a) (gV (dV 0) (gO 1 (gV (dF (dL cy (ap (dC (.int 1)) (ap (dC (.int 2)) (ap (dC (.int 2)) (ap (dC (.int 3)) (ap (dC (.int 3)) (ap (dC (.int 3)) (ax))))))))) (bD)))))))
 (aX (bR 5 (dC (.str [])))
 (aX (λb=>d4 (cO 6 (dL gA (ap (d2 a9 (dV 2) (bh (a8 (dW a) (gV (dV 0) (gO 1 (gV (d2 a9 (d2 o4 (dV 3) (dV 2)) (dC (.int 1))) (bD))))))) (ax))) (bR 5 (d2 a9 (dV 5) (d2 aO (dC (.str [97,98,99])) (bh (a8 (dW a) (gV (dV 0) (gO 1 (gV (dV 4) (bD))))))))) b))
 (b0 (dV 5))))
def oA(a:Ad):ak->R Slot:=bO 4 [1] (bN 3 (yaI a))
def yaH(a:Ad):ak->R aL:=b0 (dL f_ (ap (dF (dL ff (ap (dF (cm [0,1] (dL gA (ap (dL bp (ap (dV 0) (ax))) (ax))) (dB (d2 (fz λi j=>decide (i<=j)) (d2 a9 (dV 0) (dV 2)) (dL bp (ap (dV 1) (ax))))) (jf jg (dV 1) (iE (dV 0)) (iE (d2 a9 (dV 0) (dV 2)))))) (ax)))) (ax)))
def tw(a:Ad):ak->R Slot:=bO 2 [] (bN 0 (yaH a))
def yaJ(a:Ad):ak->R aL:=aX (bR 4 (cI (dB (d2 (eqT ah) (dV 2) (dC (.int 2)))) (d2 a9 (dC (.int 2)) (bh (a8 (dW a) (gV (dV 0) (gO 1 (gV (dC (.int 3)) (bD))))))) (d2 a9 (dC (.int 1)) (bh (a8 (dW a) (gV (dV 0) (gO 1 (gV (dC (.int 4)) (bD)))))))))
 (aX (fg 5 (dL ko (ap (bh (a8 (tw a) (gV (bh (a8 (oA a) (gV (dV 0) (gO 1 (gV (dV 4) (gV (d2 o4 (d2 a9 (dV 4) (dV 3)) (dC (.int 1))) (bD))))))) (gV (dV 4) (bD))))) (ax))))
 (aX (λb=>d4 (cO 6 (dL gA (ap (d2 fA (dV 2) (dC (.int 3))) (ax))) (nc 5 (bh (a8 (dW a) (gV (dV 0) (gO 1 (gV (g_ (λxs=>jB (bp xs)) 5) (bD)))))) (bh (a8 (oA a) (gV (dV 0) (gO 1 (gV (dV 4) (gV (dV 4) (bD)))))))) b))
 (b0 (dL bE (ap (dV 4) (ap (dL f_ (ap (dF (g_ (λxs=>lS (ff xs)) 5)) (ax))) (ax)))))))
def lC(a:Ad):ak->R Slot:=bO 4 [1] (bN 3 (yaJ a))
def yaK(a:Ad):ak->R aL:=aX (fg 1 (dL cy (ap (dL (iC (ip a)) (ap (dV 0) (ap (dC (.raw (.ref a.NoText))) (ax)))) (ap (dL (iC (ip a)) (ap (dV 0) (ap (dC (.raw (.ref a.NoWidth))) (ax)))) (ap (dL (iC (ip a)) (ap (dV 0) (ap (dC (.raw (.ref a.NoView))) (ax)))) (ap (dL (iC (ip a)) (ap (dV 0) (ap (dC (.raw (.ref a.NoWindow))) (ax)))) (ax)))))))
 (aX (k6 1 (dF (dL cy (ap (dL (iC (ip a)) (ap (dV 0) (ap (dC (.raw (.ref a.Never))) (ax)))) (ap (dL (iC (ip a)) (ap (dV 0) (ap (dC (.raw (.ref a.Full))) (ax)))) (ap (dL (iC (ip a)) (ap (dV 0) (ap (dC (.raw (.ref a.Nothing))) (ax)))) (ap (dL (iC (ip a)) (ap (dV 0) (ap (dC (.raw (.ref a.Unlike))) (ax)))) (ax))))))))
 (aX (k6 1 (dF (dL cy (ap (dL (iC (ip a)) (ap (dV 0) (ap (dC (.raw (.ref a.NoPlace))) (ax)))) (ap (dL (iC (ip a)) (ap (dV 0) (ap (dC (.raw (.ref a.NoLetters))) (ax)))) (ap (dL (iC (ip a)) (ap (dV 0) (ap (dC (.raw (.ref a.BadText))) (ax)))) (ax)))))))
 (aX (cI (kb (dB (d2 (eqT ah) (oN v3 1 (dC (.bl ah))) (dC (.int 1)))) (jA (dB (dL (iC (ip a)) (ap (dV 0) (ap (dC (.raw (.ty "ValueError"))) (ax))))))) (b0 (dL bE (ap (dC (.str [114,101,102,117,115,101,100])) (ap (d1 wb (dC (.int 1))) (ax))))) (dN))
 (b0 (dL bE (ap (dC (.str [114,101,102,117,115,101,100])) (ap (oN wS 1 (dC (.bl ah))) (ax))))))))
def qP(a:Ad):ak->R Slot:=bO 1 [] (bN 1 (yaK a))
def yas(a:Ad):ak->R aL:=b0 (kc (bh (a8 (fe a) (gV (dV 0) (gV (d2 a9 (dC (.str [46])) (dC (.str [97,98,99]))) (bD))))) (d2 (fz λi j=>decide (i<=j)) (kj sT (kj kQ (dC (.str [])) (ap (d2 aO (dV 0) (dC (.int 1))) (ax))) (ap (dC (.str [46])) (ax))) (dC (.int 6))))
def iT(a:Ad):ak->R Slot:=bO 1 [] (bN 0 (yas a))
def yan(a:Ad):ak->R aL:=cI (jA (dB (bh (a8 (iT a) (gV (dV 0) (bD)))))) (qk (.ref a.NoView) (λb=>bL ((dC (.str [97,32,98,108,117,114,114,101,100,32,118,105,101,119,32,105,115,32,97,32,118,105,101,119,32,111,102,32,119,104,111,115,101,32,108,101,116,116,101,114,115,32,117,112,32,116,111,32,54,32,109,97,121,32,98,101,32,112,111,105,110,116,115])) b))) (dN)
def mV(a:Ad):ak->R Slot:=bO 1 [] (bN 0 (yan a))
def yaL(a:Ad):ak->R aL:=aX (bR 1 (dF (dL cy (ap (dC (.str [])) (ax)))))
 (aX (λb=>d4 (cO 2 (bC (dV 0)) (aX (bR 3 (cI (dB (d2 (eqT aj) (dV 2) (dC (.str [46])))) (dC (.str [97,98,99])) (dV 2)))
 (aX (fg 4 (dL cy (ax)))
 (aX (cO 5 (bC (dV 1)) (k6 4 (dF (cm [5] (bC (dV 3)) (cZ) (d2 a9 (dV 1) (dV 0))))))
 (bR 1 (dM 4))))) b))
 (b0 (dV 1)))
def oC(a:Ad):ak->R Slot:=bO 1 [] (bN 5 (yaL a))
def yap(a:Ad):ak->R aL:=aX (fg 1 (qT (dL bE (ax)) (dC (.bl ah))))
 (aX (λε=>d4 (cO 2 (bC (d2 aO (dV 0) (dC (.int 1)))) (aX (fg 3 ua)
 (aX (oI 4 1 (cO 5 (bC (bh (a8 (oC a) (gV (dV 2) (bD))))) (tt 3 (dL f_ (ap (dF (dL ff (ap (d2 qX (dV 4) (dL bE (ap (dV 5) (ax)))) (ax)))) (ax))) (dC (.bl ah)))))
 (qS 1 3))) ε))
 (qb (cm [0] (bC (dF (qO 1))) (cZ) (dL bE (ap (d2 aO (dV 1) (dC (.int 0))) (ap (dV 0) (ax)))))))
def uf(a:Ad):ak->R Slot:=bO 1 [] (bN 5 (yap a))
def yaq(a:Ad):ak->R aL:=aX (rf (a8 (mV a) (gV (dV 0) (bD))))
 (aX (rf (a8 (mM a) (gV (dV 1) (bD))))
 (b0 (d2 sG (dV 1) (bh (a8 (uf a) (gV (dV 0) (bD)))))))
def jD(a:Ad):ak->R Slot:=bO 2 [] (bN 0 (yaq a))
def yaA(a:Ad):ak->R aL:=aX (fg 4 (t3 [] (bC (d2 aO (dV 2) (dC (.int 1)))) (dL ol (ap (dV 0) (ax)))))
 (aX (λb=>d4 (cO 5 (dL gA (ap (bh (a8 (dW a) (gV (dV 0) (gO 1 (gV (d2 a9 (dV 3) (dC (.int 1))) (bD)))))) (ax))) (t0 4 (bh (a8 (dW a) (gV (dV 0) (gO 1 (gV (qg 4) (bD)))))) (bh (a8 (dW a) (gV (dV 0) (gO 1 (gV (d2 aO (dV 2) (dC (.int 0))) (bD)))))) (dC (.str [46]))) b))
 (b0 (dL bE (ap (d2 aO (dV 2) (dC (.int 0))) (ap (dL f_ (ap (dF (dL ff (ap (dF (cm [] (bC (ud 4)) (cZ) (kj kQ (dC (.str [])) (ap (dV 0) (ax))))) (ax)))) (ax))) (ax))))))
def qK(a:Ad):ak->R Slot:=bO 4 [1] (bN 2 (yaA a))
def yaE(a:Ad):ak->R aL:=b0 (d2 (eqT aj) (dF (cm [1,0] (dL gA (ap (dL bp (ap (dV 1) (ax))) (ax))) (dB (d2 (gZ ah) (d2 aO (dV 1) (dV 0)) (dL bE (ap (dC (.str [46])) (ap (d2 aO (dV 2) (dV 0)) (ax)))))) (dV 0))) (dF (dL cy (ax))))
def lf(a:Ad):ak->R Slot:=bO 2 [] (bN 0 (yaE a))
def yaC(a:Ad):ak->R aL:=aX (cI (kb (dB (d2 (eqT ah) (d2 aO (dV 0) (dC (.int 0))) (d2 aO (dV 1) (dC (.int 0))))) (dB (d2 (eqT ah) (dL bp (ap (d2 aO (dV 0) (dC (.int 1))) (ax))) (dL bp (ap (d2 aO (dV 1) (dC (.int 1))) (ax)))))) (b0 (dC (.bl aj))) (dN))
 (aX (bR 2 (dF (dL cy (ap (dF (dL cy (ax))) (ax)))))
 (aX (λb=>d4 (cO 3 (bC (d2 aO (dV 0) (dC (.int 1)))) (bR 2 (d2 a9 (dV 2) (dF (cm [3] (bC (dV 2)) (cZ) (d2 a9 (dV 0) (dF (dL cy (ap (dV 1) (ax))))))))) b))
 (aX (λb=>d4 (cO 4 (bC (dV 2)) (aX (bR 5 (dF (cm [4] (bC (d2 aO (dV 1) (dC (.int 1)))) (dB (d2 (eqT ah) (dF (cm [0] (bC (dV 1)) (dB (bh (a8 (lf a) (gV (dV 1) (gV (dV 0) (bD)))))) (dV 0))) (dF (dL cy (ax))))) (dV 0))))
 (cI (dB (d2 (fz λi j=>decide (i<j)) (dL bp (ap (dV 5) (ax))) (dL bp (ap (dV 4) (ax))))) (b0 (dC (.bl aj))) (dN))) b))
 (b0 (dC (.bl ah))))))
def pf(a:Ad):ak->R Slot:=bO 2 [] (bN 4 (yaC a))
end Sh
namespace HT
theorem getItem_tuple_whole{c:aT}{w:aK}{A:aV}{E:ai->ao->Prop}{s:ao}{t g:af}{a:Array ai}{m l:ai}{b f:Option Int}{Q:ai->ao->Prop}(e:IsTup s.heap t a)(n:s.heap.IsSliceOf g m l .none)(p:jU m b)(o:jU l f)(v:sIx a.size 0 b=0) (u:sIx a.size a.size f=a.size) (h:Q (.ref t) s):aC (ay c w) A (pt (.ref t) (.ref g)) Q E s:=by
 obtain⟨q,r,i,x⟩:=id n;have j:s.TypeIs (.ref g) "slice":=⟨q,r,i⟩
 unfold pt
 try with_reducible refine kx ?_
 first|refine az (bg ?_)|skip
 refine az (wpAny_sequenceKey e.typeIs (by decide) ?_);refine az (xU (name:=xV "__getitem__") e.typeIs xW (pB xW e.typeIs entry_tuple_getitem ?_ (args_tuple_getitem _ _)));show aC _ _ (Builtin.Tuple.tupleItemsOf (.ref t) >>= _) _ _ s;refine az (tupleItemsOf_ e ?_);refine az (wpAny_typeOf j ?_);rw[if_pos (by decide)];refine az (Bt n p o ?_);have d:(((sIx a.size 0 b:Nat):Int) == 0&&(1:Int) == 1&&(sIx a.size a.size f-sIx a.size 0 b) == a.size)=ah:=by rw[v,u];simp
 show aC _ _ (if(((sIx a.size 0 b:Nat):Int) == 0&&(1:Int) == 1&&(sIx a.size a.size f-sIx a.size 0 b) == a.size)=ah then _ else _) _ _ s;rw[if_pos d];unfold Builtin.Tuple.tupleIsExact;refine az (az (wpAny_typeOf e.typeIs (bg ?_)));rw[if_pos (by decide)];exact az (pN (bg ⟨_,rfl,bg h⟩))
end HT
namespace L2
def xo(K:ar):V->Option Int->Option Int->Hp->VK->Prop:=λx b c H Q=>∃a xs,x=.ref a/\cf K H a xs/\HT.sIx xs.length 0 b=0/\HT.sIx xs.length xs.length c=xs.length/\Q (.ref a) H
theorem Lj{X:Cx}:jE X (xo X.K):=by
 intro A s n H x v p o w z u Q I e j g f h;obtain⟨a,xs,rfl,i,m,l,q⟩:=h;cases e;obtain⟨b,r,c,y⟩:=I.tuple i;have d:b.toArray.size=xs.length:=by rw[cq];exact r.length.symm
 refine⟨"tuple",_,PyProof.Rows.slot_tuple_getitem.lookup,c.typeIs,?_⟩;exact HT.getItem_tuple_whole c j g f (by rw[d];exact m) (by rw[d];exact l) ⟨.ref a,H,I,rfl,q⟩
end L2
namespace Pu
open L2
def rj:PV->Option Int->Option Int->Option PV
 |.tup xs,a,b=>if HT.sIx xs.length 0 a=0/\HT.sIx xs.length xs.length b=xs.length then aa (.tup xs)else aa (.tup (d7 xs a b))
 |x,a,b=>jg x a b
theorem GZ{X:Cx}:jE X (λx a b H Q=>xo X.K x a b H Q\/tz X.K x a b H Q):=Lj.or uo
theorem DK{K:ar}:wt K (λx b c H Q=>xo K x b c H Q\/tz K x b c H Q) rj:=λF H x b c v Q pv d e q=>by
 cases x with
 |tup xs=>
  unfold rj at e;dsimp only at e;split at e
  .rename_i f;cases e;obtain⟨a,h,rfl,i,g⟩:=id d;exact .inl ⟨a,h,rfl,cf.of i,by rw[g.len];exact f.1,by rw[g.len];exact f.2,q _ F H (Al.refl ..) d⟩
  .rename_i f;exact .inr (qY F H _ b c v Q pv d ((if_neg f).trans e) q)
 |_=>exact .inr (qY F H _ b c v Q pv d e q)
end Pu
local macro_rules | `(tactic| simp! [$xs,*]) => `(tactic| simp [Pu.aX, Pu.cI, Pu.dB, Pu.d2, Pu.d1, Pu.dV, Pu.dC, Pu.dL, Pu.dF, Pu.ap, Pu.ax, Pu.b0, Pu.mB, Pu.bR, Pu.fg, Pu.a8, Pu.gV, Pu.gO, Pu.bD, Pu.gX, Pu.gH, Pu.cB, Pu.eO, Pu.iP, Pu.R.bind, Pu.a_, Pu.bO, Pu.e_, Pu.bN, Pu.back, Pu.gz, Pu.lE, Pu.kt, Pu.vE, Pu.xq, Pu.wM, Pu.bh, Pu.qD, Pu.cy, Pu.bE, Pu.dN, Pu.B2, Pu.rf, Pu.BP, Pu.jA, Pu.ug, Pu.vz, Pu.kb, Pu.kc, Pu.A5, Pu.mP, Pu.fz, Pu.cY, Pu.qE, Pu.g_, Pu.jB, Pu.imm, Pu.lS, Pu.kY, dq, pr, $xs,*])
local macro_rules | `(tactic| and_intros) => `(tactic| (refine' Pu.Lf ?a ?l ?c ?k; (case a => k_is); (case l => k_is); (case c => k_is); (case k => k_is)))
namespace K07
open L2 Pu Sh
def dJ(i:Nat):bf:=PySem.Challenge.pw_slitview_k07_whole_clears.main.body.getD i (.Pass ⟨0,0,0,0⟩)
abbrev vq:bf:=dJ 34
abbrev vg:bf:=dJ 35
abbrev wq:bf:=dJ 36
abbrev sH:bf:=dJ 39
abbrev xx:bf:=dJ 37
abbrev v8:bf:=dJ 38
abbrev vI:bf:=dJ 40
abbrev qc:bf:=dJ 41
abbrev vN:bf:=dJ 20
abbrev xH:bf:=dJ 21
abbrev sY:bf:=dJ 19
abbrev xg:bf:=dJ 22
abbrev tq:bf:=dJ 23
abbrev wY:bf:=dJ 24
abbrev wK:bf:=dJ 26
abbrev xC:bf:=dJ 28
abbrev wC:bf:=dJ 25
abbrev xJ:bf:=dJ 27
abbrev tj:bf:=dJ 29
abbrev sK:bf:=dJ 31
abbrev wd:bf:=dJ 32
abbrev vX:bf:=dJ 44
abbrev vL:bf:=dJ 45
abbrev tm:bf:=dJ 42
abbrev rk:bf:=dJ 43
abbrev sE:bf:=dJ 46
structure dz(K:ar)(mg:Str->Option ai)(base:aB)(a:Ad):Prop where
 yaB:cM K mg "_law_cell_at" vq
 yaF:cM K mg "_law_mixed" vg
 yaD:cM K mg "_law_draw" wq
 yaH:cM K mg "_law_seen" sH
 yaG:cM K mg "_law_pick" xx
 yaI:cM K mg "_law_text" v8
 yaJ:cM K mg "_law_view" vI
 yaA:cM K mg "_law_blurred" qc
 yav:cM K mg "is_whole_number" vN
 yaw:cM K mg "is_width" xH
 yar:cM K mg "has_only" sY
 yax:cM K mg "is_window" xg
 yam:cM K mg "are_windows" tq
 yau:cM K mg "is_view_with" wY
 yas:cM K mg "is_blurred_view" wK
 yan:cM K mg "check_blurred_view" xC
 yat:cM K mg "is_view" wC
 yao:cM K mg "check_view" xJ
 yaL:cM K mg "windows_that_fit" tj
 yap:cM K mg "clearing_views" sK
 yaq:cM K mg "clears" wd
 yaK:cM K mg "_law_which" vX
 yaz:cM K mg "_law_ask" vL
 yaE:cM K mg "_law_fits" tm
 yaC:cM K mg "_law_clears" rk
 yay:cM K mg "law" sE
 yaM:mg "ValueError"=ag
 yaN:mg "all"=ag
 yaO:mg "bool"=ag
 yaP:mg "int"=ag
 yaQ:mg "isinstance"=ag
 yaR:mg "len"=ag
 yaS:mg "list"=ag
 yaT:mg "range"=ag
 yaU:mg "sorted"=ag
 yaV:mg "str"=ag
 yaW:mg "tuple"=ag
 yaY:∃t,mg "LETTERS"=aa (.str (tS [97,98,99]) t)
 yaZ:∃t,mg "MOST_POINTS"=aa (.int 6 t)
 ya0:∃t,mg "MOST_WINDOWS"=aa (.int 9 t)
 ya1:∃t,mg "POINT"=aa (.str (tS [46]) t)
 ya2:∃t,mg "WIDEST"=aa (.int 4 t)
 yak:mg "SlitError"=aa (.ref a.SlitError)
 yaf:mg "NoText"=aa (.ref a.NoText)
 yah:mg "NoWidth"=aa (.ref a.NoWidth)
 yag:mg "NoView"=aa (.ref a.NoView)
 yai:mg "NoWindow"=aa (.ref a.NoWindow)
 yac:mg "Never"=aa (.ref a.Never)
 yab:mg "Full"=aa (.ref a.Full)
 yaj:mg "Nothing"=aa (.ref a.Nothing)
 yal:mg "Unlike"=aa (.ref a.Unlike)
 yae:mg "NoPlace"=aa (.ref a.NoPlace)
 yad:mg "NoLetters"=aa (.ref a.NoLetters)
 yaa:mg "BadText"=aa (.ref a.BadText)
 yaX:OwnCls "NoView" a.NoView [.type "ValueError",.type "Exception",.type "BaseException",.type "object"] "ValueError.__new__" mg base
 err_SlitError:m_ base a.SlitError
 und:∀c,og a c=ah->Under base a.SlitError c
 tab:vS K (ip a)
section
variable{P:aT}{w:aK}{K:ar}{c:Str->Option ai}{b:aB}{a:Ad}
theorem Iv:ce ["_law_script","_law_k"] ["_law_script","_law_k"] (ba vq):=by ac_nf
theorem II(G:dz K c b a):c_ (cx P w) P w K c b "_law_cell_at" 1 ["_law_script","_law_k"] (bS K (oK a)) :=
 dZ (k:=0) (pin:=[]) G.yaB Iv rfl (λ_ _ _ _ _ _ e h=>Pu.Lh (λ_ _=>rfl) e h) (λf i A d s H E g=>by exact
  (bz (g9 (fv xi k8 (aq 1) (cJ gF h_ G.yaR g7 (au (aq 0) aE)) rfl) (bu (cP (dw cV c0 (aq 0) (aq 1)))) g6)
  (bz (g9 (fv (k_ g.units) kX (aq 0) (iq aE) rfl) (bu (cP aU)) g6)
  (bu (cP (cz eA eo (cz wl vQ (dw cV c0 (aq 0) (cz ot pq (aq 1) (cJ gF h_ G.yaR g7 (au (aq 0) aE)))) aU) (aq 1)))))))
theorem Hx:ce ["_law_script","_law_k","_law_many","_law_drawn"] ["_law_script","_law_k","_law_many"] (ba vg):=by ac_nf
theorem Df(G:dz K c b a):c_ (cx P w) P w K c b "_law_mixed" 2 ["_law_script","_law_k","_law_many"] (bS K (uj a)) :=
 dZ (k:=1) (pin:=[]) G.yaF Hx rfl (λ_ _ _ _ _ _ e h=>Pu.Lp (λ_ _ _=>rfl) e h) (λf i A d s H E g=>by exact
  (bz (eJ 3 Hx.nd (cz ot pq (cz eA eo (cz eA eo (cz wl vQ ((bJ (II G) (g.mono (by decide)) cu (aI (aq 0) (aI (aq 1) bG)))).de aU) (cz wl vQ aU (aq 1))) aU) aU))
  (bu (cP (cz ot pq (cz ot pq (cz ot pq (cz Jj KP (aq 3) aU) aU) aU) (aq 2))))))
theorem J3:ce ["_law_script","_law_town","_law_many"] ["_law_script","_law_town","_law_many"] (ba wq):=by ac_nf
theorem iN(G:dz K c b a):c_ (cx P w) P w K c b "_law_draw" 3 ["_law_script","_law_town","_law_many"] (bS K (dW a)) :=
 dZ (k:=2) (pin:=[1]) G.yaD J3 rfl (λ_ _ _ _ _ _ e h=>Pu.Lp (λ_ _ _=>rfl) e h) (λf i A d s H E g=>by exact
  (bz (Hg 1 aU)
  (bu (vi (bJ (Df G) (g.mono (by decide)) cu (aI (aq 0) (aI (wR 1 gF h_ G.yaR g7) (aI (aq 2) bG))))))))
theorem JB:ce ["_law_text_here","_law_width"] ["_law_text_here","_law_width"] (ba sH):=by ac_nf
theorem DY(G:dz K c b a):c_ (cx P w) P w K c b "_law_seen" 1 ["_law_text_here","_law_width"] (bS K (tw a)) :=
 dZ (k:=0) (pin:=[]) G.yaH JB rfl (λ_ _ _ _ _ _ h j=>Pu.Lh (λ_ _=>rfl) h j) (λf n A g s H E m=>by exact
  (bu (cP (pi o5 o6 G.yaW lL (au (qi mE ng G.yaU lP (au (kL (cap:=[0,1]) (N':=["_law_at","_law_text_here","_law_width"]) (iD.of ["_law_text_here","_law_width"] (ba sH) rfl rfl (by decide +kernel)) rfl (ou G.yaT (au (cJ gF h_ G.yaR g7 (au (aq 0) aE)) aE)) (λC d e l i=>by exact tJ (fv n6 k8 (cz eA eo (aq 0) (aq 2)) (cJ gF h_ G.yaR g7 (au (aq 1) aE)) rfl)) (λC d e l i=>by exact(uc uo qY (aq 1) (qe (aq 0)) (qe (cz eA eo (aq 0) (aq 2)))))).de aE)).de aE)))))
theorem Hz:ce ["_law_script","_law_town","_law_some"] ["_law_script","_law_town","_law_some"] (ba xx):=by ac_nf
theorem uq(G:dz K c b a):c_ (cx P w) P w K c b "_law_pick" 4 ["_law_script","_law_town","_law_some"] (bS K (lN a)) :=
 dZ (k:=3) (pin:=[1]) G.yaG Hz rfl (λ_ _ _ _ _ _ e h=>Pu.Lp (λ_ _ _=>rfl) e h) (λf i A d s H E g=>by exact
  (bu (cP (dw cV c0 (aq 2) ((bJ (iN G) (g.mono (by decide)) cu (aI (aq 0) (et 1 (aI (cJ gF h_ G.yaR g7 (au (aq 2) aE)) bG))))).de))))
theorem KB:ce ["_law_script","_law_town","_law_low","_law_most","_law_few","_law_made","_law_k"] ["_law_script","_law_town","_law_low","_law_most"] (ba v8):=by ac_nf
theorem zE(G:dz K c b a):c_ (cx P w) P w K c b "_law_text" 5 ["_law_script","_law_town","_law_low","_law_most"] (bS K (oA a)) :=
 dZ (k:=4) (pin:=[1]) G.yaI KB rfl (λ_ _ _ _ _ _ g h=>Pu.LF (λ_ _ _ _=>rfl) g h) (λf i A d s H E e=>by exact
  (bz (eJ 4 KB.nd ((bJ (uq G) (e.mono (by decide)) cu (aI (aq 0) (et 1 (aI (iq (au aU (au aU (au aU (au aU (au aU (au aU aE))))))) bG))))).de)
  (bz (eJ 5 KB.nd (cC []))
  (bz (lJ (kl 6 kE rfl KB.nd (ou G.yaT (au (cz eA eo (aq 2) ((bJ (iN G) (e.mono (by decide)) iZ (aI (aq 0) (et 1 (aI (cz eA eo (cz zi zo (aq 3) (aq 2)) aU) bG))))).de) aE)) (bu (eJ 5 KB.nd (cz eA eo (aq 5) (dw cV c0 (cC [97,98,99]) ((bJ (iN G) (e.mono (by decide)) iZ (aI (aq 0) (et 1 (aI (aq 4) bG))))).de))))))
  (bu (cP (aq 5)))))))
theorem JS:ce ["_law_script","_law_town","_law_spoil","_law_most","_law_width","_law_windows","_law_k"] ["_law_script","_law_town","_law_spoil","_law_most"] (ba vI):=by ac_nf
theorem Bw(G:dz K c b a):c_ (cx P w) P w K c b "_law_view" 6 ["_law_script","_law_town","_law_spoil","_law_most"] (bS K (lC a)) :=
 dZ (k:=5) (pin:=[1]) G.yaJ JS rfl (λ_ _ _ _ _ _ g h=>Pu.LF (λ_ _ _ _=>rfl) g h) (λf i A e s H E d=>by exact
  (bz (eJ 4 JS.nd (A1 (fv (ke d.units) kq (aq 2) aU rfl) (cz eA eo aU ((bJ (iN G) (d.mono (by decide)) cu (aI (aq 0) (et 1 (aI aU bG))))).de) (cz eA eo aU ((bJ (iN G) (d.mono (by decide)) cu (aI (aq 0) (et 1 (aI aU bG))))).de)))
  (bz (mW 5 JS.nd (tD xD wy G.yaS sV (au ((bJ (DY G) (d.mono (by decide)) cu (aI ((bJ (zE G) (d.mono (by decide)) cu (aI (aq 0) (et 1 (aI (aq 4) (aI (cz zi zo (cz eA eo (aq 4) (aq 3)) aU) bG)))))).de (aI (aq 4) bG)))).de aE)))
  (bz (lJ (kl 6 kE rfl JS.nd (ou G.yaT (au (cz ot pq (aq 2) aU) aE)) (bu (Ba 5 ((bJ (iN G) (d.mono (by decide)) iZ (aI (aq 0) (et 1 (aI (wR 5 gF h_ G.yaR g7) bG))))).de ((bJ (zE G) (d.mono (by decide)) iZ (aI (aq 0) (et 1 (aI (aq 4) (aI (aq 4) bG)))))).de))))
  (bu (cP (cg (au (aq 4) (au (pi o5 o6 G.yaW lL (au (Bb 5 mE ng G.yaU lP).de aE)) aE)))))))))
theorem FT:ce ["_law_script","_law_town","_law_asked","_law_most","_law_windows","_law_k"] ["_law_script","_law_town","_law_asked","_law_most"] (ba qc):=by ac_nf
theorem IQ(G:dz K c b a):c_ (cx P w) P w K c b "_law_blurred" 4 ["_law_script","_law_town","_law_asked","_law_most"] (bS K (qK a)) :=
 dZ (k:=3) (pin:=[1]) G.yaA FT rfl (λ_ _ _ _ _ _ l m=>Pu.LF (λ_ _ _ _=>rfl) l m) (λf n A g s H E h=>by exact
  (bz (Hi 4 FT.nd (cap:=[]) (N':=["_law_window"]) (iD.of ["_law_script","_law_town","_law_asked","_law_most","_law_windows","_law_k"] (ba qc) rfl rfl (by decide +kernel)) rfl (iu (dw cV c0 (aq 2) aU)) (λC d e j i=>by exact tD (IV rfl) HF G.yaS sV (au (aq 0) aE)))
  (bz (lJ (kl 5 kE rfl FT.nd (ou G.yaT (au ((bJ (iN G) (h.mono (by decide)) iZ (aI (aq 0) (et 1 (aI (cz eA eo (aq 3) aU) bG))))).de aE)) (bu (KJ 4 ((bJ (iN G) (h.mono (by decide)) iZ (aI (aq 0) (et 1 (aI (IA 4 G.yaR) bG))))).de ((bJ (iN G) (h.mono (by decide)) iZ (aI (aq 0) (et 1 (aI (dw cV c0 (aq 2) aU) bG))))).de (cC [46])))))
  (bu (cP (cg (au (dw cV c0 (aq 2) aU) (au (pi o5 o6 G.yaW lL (au (qi mE ng G.yaU lP (au (kL (cap:=[]) (N':=["_law_window"]) (iD.of ["_law_script","_law_town","_law_asked","_law_most","_law_windows","_law_k"] (ba qc) rfl rfl (by decide +kernel)) rfl (iu (Dj 4)) (λC d e j i=>by exact mG) (λC d e j i=>by exact(wc PySem.F.slot_str_join PySem.F.type_str_join zO AQ (cC []) (au (aq 0) aE)))).de aE)).de aE)) aE))))))))
theorem Gf:ce ["thing"] ["thing"] (ba vN):=by ac_nf
theorem Ep(G:dz K c b a):c_ (cx P w) P w K c b "is_whole_number" 1 ["thing"] (bS K (kN a)) :=
 dZ (k:=0) (pin:=[]) G.yav Gf rfl (λ_ _ _ _ _ _ e g=>Pu.Ls (λ_=>rfl) e g) (λf i A d s H E h=>by exact
  (bu (cP (mY (cJ om oM G.yaQ gB (au (aq 0) (au (ox G.yaP HV) aE))) (n9 (IX (cJ om oM G.yaQ gB (au (aq 0) (au (ox G.yaO HI) aE)))))))))
theorem JQ:ce ["thing"] ["thing"] (ba xH):=by ac_nf
theorem Ga(G:dz K c b a):c_ (cx P w) P w K c b "is_width" 2 ["thing"] (bS K (lc a)) :=
 dZ (k:=1) (pin:=[]) G.yaw JQ rfl (λ_ _ _ _ _ _ e h=>Pu.Ls (λ_=>rfl) e h) (λf i A d s H E g=>by exact
  (bu (cP (mY ((bJ (Ep G) (g.mono (by decide)) cu (aI (aq 0) bG))).de (n9 (Kj n6 n6 k8 k8 aU (aq 0) (xl G.ya2)))))))
theorem EE:ce ["text","signs"] ["text","signs"] (ba sY):=by ac_nf
theorem HD(G:dz K c b a):c_ (cx P w) P w K c b "has_only" 1 ["text","signs"] (bS K (ul a)) :=
 dZ (k:=0) (pin:=[]) G.yar EE rfl (λ_ _ _ _ _ _ h j=>Pu.Lh (λ_ _=>rfl) h j) (λf n A g s H E m=>by exact
  (bu (cP (cJ (BN rfl) Cp G.yaN Ce (au (kL (cap:=[1]) (N':=["sign","signs"]) (iD.of ["text","signs"] (ba sY) rfl rfl (by decide +kernel)) rfl (iu (aq 0)) (λC d e l i=>by exact mG) (λC d e l i=>by exact(lV Js Dv (aq 0) (aq 1) rfl))).de aE)))))
theorem EJ:ce ["thing","width","signs"] ["thing","width","signs"] (ba xg):=by ac_nf
theorem FU(G:dz K c b a):c_ (cx P w) P w K c b "is_window" 2 ["thing","width","signs"] (bS K (lU a)) :=
 dZ (k:=1) (pin:=[]) G.yax EJ rfl (λ_ _ _ _ _ _ g h=>Pu.Lp (λ_ _ _=>rfl) g h) (λf i A d s H E e=>by exact
  (bu (cP (mY (cJ om oM G.yaQ gB (au (aq 0) (au (ox G.yaV GE) aE))) (mY (lV (k_ e.units) kX (cJ gF h_ G.yaR g7 (au (aq 0) aE)) (aq 1) rfl) (n9 ((bJ (HD G) (e.mono (by decide)) cu (aI (aq 0) (aI (aq 2) bG)))).de))))))
theorem Jb:ce ["thing","width","signs"] ["thing","width","signs"] (ba tq):=by ac_nf
theorem Gy(G:dz K c b a):c_ (cx P w) P w K c b "are_windows" 3 ["thing","width","signs"] (bS K (iW a)) :=
 dZ (k:=2) (pin:=[]) G.yam Jb rfl (λ_ _ _ _ _ _ i l=>Pu.Lp (λ_ _ _=>rfl) i l) (λf n A g s H E h=>by exact
  (bz (g9 ((oy (lH (lY (cJ om oM G.yaQ gB (au (aq 0) (au (ox G.yaW lL) aE))))) (oq (lH (EG n6 n6 k8 k8 aU (cJ gF h_ G.yaR g7 (au (aq 0) aE)) (xl G.ya0)))))).dt (bu (cP iG)) g6)
  (bz (g9 (lH (lY (cJ (BN rfl) Cp G.yaN Ce (au (kL (cap:=[1,2]) (N':=["window","width","signs"]) (iD.of ["thing","width","signs"] (ba tq) rfl rfl (by decide +kernel)) rfl (iu (aq 0)) (λC d e m j=>by exact mG) (λC d e m j=>by exact((bJ (FU G) (h.mono (by decide)) iZ (aI (aq 0) (aI (aq 1) (aI (aq 2) bG))))).de)).de aE)))) (bu (cP iG)) g6)
  (bu (cP (lV (k_ h.units) kX (tD xD wy G.yaS sV (au (aq 0) aE)).de (qi mE ng G.yaU lP (au (aq 0) aE)).de rfl))))))
theorem Dk:ce ["thing","signs"] ["thing","signs"] (ba wY):=by ac_nf
theorem zH(G:dz K c b a):c_ (cx P w) P w K c b "is_view_with" 4 ["thing","signs"] (bS K (fe a)) :=
 dZ (k:=3) (pin:=[]) G.yau Dk rfl (λ_ _ _ _ _ _ g h=>Pu.Lh (λ_ _=>rfl) g h) (λf i A d s H E e=>by exact
  (bz (g9 ((oy (lH (lY (cJ om oM G.yaQ gB (au (aq 0) (au (ox G.yaW lL) aE))))) (oq (fv (ke e.units) kq (cJ gF h_ G.yaR g7 (au (aq 0) aE)) aU rfl)))).dt (bu (cP iG)) g6)
  (bu (cP (mY ((bJ (Ga G) (e.mono (by decide)) cu (aI (dw cV c0 (aq 0) aU) bG))).de (n9 ((bJ (Gy G) (e.mono (by decide)) cu (aI (dw cV c0 (aq 0) aU) (aI (dw cV c0 (aq 0) aU) (aI (aq 1) bG))))).de))))))
theorem FG:ce ["thing"] ["thing"] (ba wK):=by ac_nf
theorem DU(G:dz K c b a):c_ (cx P w) P w K c b "is_blurred_view" 5 ["thing"] (bS K (iT a)) :=
 dZ (k:=4) (pin:=[]) G.yas FG rfl (λ_ _ _ _ _ _ e h=>Pu.Ls (λ_=>rfl) e h) (λf i A d s H E g=>by exact
  (bu (cP (mY ((bJ (zH G) (g.mono (by decide)) cu (aI (aq 0) (aI (cz eA eo (o9 G.ya1) (o9 G.yaY)) bG)))).de (n9 (lV n6 k8 (wc PySem.F.slot_str_count PySem.F.type_str_count HK ID (wc PySem.F.slot_str_join PySem.F.type_str_join zO AQ (cC []) (au (dw cV c0 (aq 0) aU) aE)) (au (o9 G.ya1) aE)) (xl G.yaZ) rfl))))))
theorem JJ:ce ["thing"] ["thing"] (ba xC):=by ac_nf
theorem J5(G:dz K c b a):c_ (cx P w) P w K c b "check_blurred_view" 6 ["thing"] (bS K (mV a)) :=
 dZ (k:=5) (pin:=[]) G.yan JJ rfl (λ_ _ _ _ _ _ e h=>Pu.Ls (λ_=>rfl) e h) (λf i A d s H E g=>by exact
  (bu (g9 (lH (lY ((bJ (DU G) (g.mono (by decide)) cu (aI (aq 0) bG))).de)) (bu (AY zz rfl G.yaX PySem.F.excBase_ValueError (cC [97,32,98,108,117,114,114,101,100,32,118,105,101,119,32,105,115,32,97,32,118,105,101,119,32,111,102,32,119,104,111,115,101,32,108,101,116,116,101,114,115,32,117,112,32,116,111,32,54,32,109,97,121,32,98,101,32,112,111,105,110,116,115]))) g6)))
theorem Ee:ce ["thing"] ["thing"] (ba wC):=by ac_nf
theorem IZ(G:dz K c b a):c_ (cx P w) P w K c b "is_view" 5 ["thing"] (bS K (jJ a)) :=
 dZ (k:=4) (pin:=[]) G.yat Ee rfl (λ_ _ _ _ _ _ e h=>Pu.Ls (λ_=>rfl) e h) (λf i A d s H E g=>by exact
  (bu (vi (bJ (zH G) (g.mono (by decide)) cu (aI (aq 0) (aI (o9 G.yaY) bG))))))
theorem KF:ce ["thing"] ["thing"] (ba xJ):=by ac_nf
theorem Jm(G:dz K c b a):c_ (cx P w) P w K c b "check_view" 6 ["thing"] (bS K (mM a)) :=
 dZ (k:=5) (pin:=[]) G.yao KF rfl (λ_ _ _ _ _ _ e h=>Pu.Ls (λ_=>rfl) e h) (λf i A d s H E g=>by exact
  (bu (g9 (lH (lY ((bJ (IZ G) (g.mono (by decide)) cu (aI (aq 0) bG))).de)) (bu (AY zz rfl G.yaX PySem.F.excBase_ValueError (cC [97,32,118,105,101,119,32,105,115,32,97,32,116,117,112,108,101,32,111,102,32,97,32,119,105,100,116,104,32,97,110,100,32,97,32,114,105,115,105,110,103,32,116,117,112,108,101,32,111,102,32,49,32,116,111,32,57,32,119,105,110,100,111,119,115]))) g6)))
theorem GF:ce ["blurred_window","found","sign","letters","longer","start"] ["blurred_window"] (ba tj):=by ac_nf
theorem Ic(G:dz K c b a):c_ (cx P w) P w K c b "windows_that_fit" 1 ["blurred_window"] (bS K (oC a)) :=
 dZ (k:=0) (pin:=[]) G.yaL GF rfl (λ_ _ _ _ _ _ h l=>Pu.Ls (λ_=>rfl) h l) (λf n A g s H E j=>by exact
  (bz (eJ 1 GF.nd (iq (au (cC []) aE)))
  (bz (lJ (kl 2 kE rfl GF.nd (iu (aq 0)) (bz (eJ 3 GF.nd (A1 (fv (k_ j.units) kX (aq 2) (o9 G.ya1) rfl) (o9 G.yaY) (aq 2)))
  (bz (mW 4 GF.nd (sU aE))
  (bz (kl 5 kE rfl GF.nd (iu (aq 1)) (bu (v_ 4 (kL (cap:=[5]) (N':=["letter","start"]) (iD.of ["blurred_window","found","sign","letters","longer","start"] (ba tj) rfl rfl (by decide +kernel)) rfl (iu (aq 3)) (λC d e m i=>by exact mG) (λC d e m i=>by exact(cz eA eo (aq 1) (aq 0)))).de)))
  (bu (eJ 1 GF.nd (Kq 4))))))))
  (bu (cP (aq 1))))))
theorem Ds:ce ["blurred","ways","blurred_window","longer","windows","window"] ["blurred"] (ba sK):=by ac_nf
theorem IM(G:dz K c b a):c_ (cx P w) P w K c b "clearing_views" 2 ["blurred"] (bS K (uf a)) :=
 dZ (k:=1) (pin:=[]) G.yap Ds rfl (λ_ _ _ _ _ _ i l=>Pu.Ls (λ_=>rfl) i l) (λf n A h s H E g=>by exact
  (bz (mW 1 Ds.nd (E3 g.units (cg aE) iG))
  (bz (lJ (kl 2 kE rfl Ds.nd (iu (dw cV c0 (aq 0) aU)) (bz (mW 3 Ds.nd Fm)
  (bz (E5 4 1 kE rfl Ds.nd (bu (kl 5 kE rfl Ds.nd (iu ((bJ (Ic G) (g.mono (by decide)) iZ (aI (aq 2) bG))).de) (bu (KG 3 g.units (pi o5 o6 G.yaW lL (au (qi mE ng G.yaU lP (au (cz Eo G0 (aq 4) (cg (au (aq 5) aE))) aE)).de aE)) iG)))))
  (bu (EZ 1 3 Ds.nd))))))
  (bu (GA (kL (cap:=[0]) (N':=["windows","blurred"]) (iD.of ["blurred","ways","blurred_window","longer","windows","window"] (ba sK) rfl rfl (by decide +kernel)) rfl (iu (Ki 1 g.units rfl G.yaU).de) (λC d e m j=>by exact mG) (λC d e m j=>by exact(cg (au (dw cV c0 (aq 1) aU) (au (aq 0) aE))))))))))
theorem Fh:ce ["blurred","view"] ["blurred","view"] (ba wd):=by ac_nf
theorem vZ(G:dz K c b a):c_ (cx P w) P w K c b "clears" 7 ["blurred","view"] (bS K (jD a)) :=
 dZ (k:=6) (pin:=[]) G.yaq Fh rfl (λ_ _ _ _ _ _ g h=>Pu.Lh (λ_ _=>rfl) g h) (λf i A e s H E d=>by exact
  (bz (zd (bJ (J5 G) (d.mono (by decide)) cu (aI (aq 0) bG)))
  (bz (zd (bJ (Jm G) (d.mono (by decide)) cu (aI (aq 1) bG)))
  (bu (cP (lV (Es d.units) J8 (aq 1) ((bJ (IM G) (d.mono (by decide)) cu (aI (aq 0) bG))).de rfl))))))
theorem EN:ce ["_law_e","_law_own"] ["_law_e"] (ba vX):=by ac_nf
theorem Gg(G:dz K c b a):tf P w K c b "_law_which" 1 ["_law_e"] (bS K (qP a)) :=
 ES (k:=0) (pin:=[]) G.yaK EN rfl (λ_ _ _ _ _ _ e h=>Pu.Ls (λ_=>rfl) e h) (λf i A d s H g=>by exact
  (bz (mW 1 EN.nd (sU (au (cJ jl (jj G.tab) G.yaQ gB (au (aq 0) (au (jI G.yaf) aE))) (au (cJ jl (jj G.tab) G.yaQ gB (au (aq 0) (au (jI G.yah) aE))) (au (cJ jl (jj G.tab) G.yaQ gB (au (aq 0) (au (jI G.yag) aE))) (au (cJ jl (jj G.tab) G.yaQ gB (au (aq 0) (au (jI G.yai) aE))) aE))))))
  (bz (v_ 1 (iq (au (cJ jl (jj G.tab) G.yaQ gB (au (aq 0) (au (jI G.yac) aE))) (au (cJ jl (jj G.tab) G.yaQ gB (au (aq 0) (au (jI G.yab) aE))) (au (cJ jl (jj G.tab) G.yaQ gB (au (aq 0) (au (jI G.yaj) aE))) (au (cJ jl (jj G.tab) G.yaQ gB (au (aq 0) (au (jI G.yal) aE))) aE))))))
  (bz (v_ 1 (iq (au (cJ jl (jj G.tab) G.yaQ gB (au (aq 0) (au (jI G.yae) aE))) (au (cJ jl (jj G.tab) G.yaQ gB (au (aq 0) (au (jI G.yad) aE))) (au (cJ jl (jj G.tab) G.yaQ gB (au (aq 0) (au (jI G.yaa) aE))) aE)))))
  (bz (g9 ((oy (fv (ke g.units) kq (Fd 1 iG) aU rfl) (oq (lH (lY (cJ jl (jj G.tab) G.yaQ gB (au (aq 0) (au (ox G.yaM Jc) aE)))))))).dt (bu (cP (cg (au (cC [114,101,102,117,115,101,100]) (au (Hh FO J4 aU) aE))))) g6)
  (bu (cP (cg (au (cC [114,101,102,117,115,101,100]) (au (Ea 1 iG) aE))))))))))
def yaz(a:Ad):ak->R aL:=qL 2 (og a) (tP (jD a) (gV (dV 0) (gV (dV 1) (bD)))) (mB (λd=>bL (a8 (qP a) (gV (dV 2) (bD)) d)))
def lT(a:Ad):ak->R Slot:=bO 2 [] (bN 1 (yaz a))
theorem JU:ce ["_law_one","_law_other","_law_e"] ["_law_one","_law_other"] (ba vL):=by ac_nf
theorem ql(G:dz K c b a):c_ (cx P w) P w K c b "_law_ask" 8 ["_law_one","_law_other"] (bS K (lT a)) :=
 dZ (k:=7) (pin:=[]) G.yaz JU rfl (λ_ _ _ _ _ _ i j=>Pu.Lh (λ_ _=>rfl) i j) (λf l A d s H E h=>by
  have e:=λg=>fc.hand (v:=aa (.ref g)) h;exact
  (bu (FX 2 JU.nd (EK (vZ G) (h.mono (by decide)) (aI (aq 0) (aI (aq 1) bG))) G.yak G.err_SlitError G.und (λg=>by exact(bu (vi (Hb (Gg G) ((e g).mono (by decide)) (aI (aq 2) bG))))))))
theorem FY:ce ["_law_window","_law_other"] ["_law_window","_law_other"] (ba tm):=by ac_nf
theorem Dt(G:dz K c b a):c_ (cx P w) P w K c b "_law_fits" 1 ["_law_window","_law_other"] (bS K (lf a)) :=
 dZ (k:=0) (pin:=[]) G.yaE FY rfl (λ_ _ _ _ _ _ h l=>Pu.Lh (λ_ _=>rfl) h l) (λf n A g s H E j=>by exact
  (bu (cP (lV (k_ j.units) kX (kL (cap:=[1,0]) (N':=["_law_at","_law_other","_law_window"]) (iD.of ["_law_window","_law_other"] (ba tm) rfl rfl (by decide +kernel)) rfl (ou G.yaT (au (cJ gF h_ G.yaR g7 (au (aq 1) aE)) aE)) (λC d e m i=>by exact tJ (fv Gj Kb (dw cV c0 (aq 1) (aq 0)) (cg (au (cC [46]) (au (dw cV c0 (aq 2) (aq 0)) aE))) rfl)) (λC d e m i=>by exact(aq 0))).de (iq aE) rfl))))
theorem Jd:ce ["_law_blurred_here","_law_asked","_law_sets","_law_other","_law_some","_law_fit"] ["_law_blurred_here","_law_asked"] (ba rk):=by ac_nf
theorem Dy(G:dz K c b a):c_ (cx P w) P w K c b "_law_clears" 2 ["_law_blurred_here","_law_asked"] (bS K (pf a)) :=
 dZ (k:=1) (pin:=[]) G.yaC Jd rfl (λ_ _ _ _ _ _ l m=>Pu.Lh (λ_ _=>rfl) l m) (λf n A j s H E i=>by exact
  (bz (g9 ((oy (fv (ke i.units) kq (dw cV c0 (aq 0) aU) (dw cV c0 (aq 1) aU) rfl) (oq (fv (ke i.units) kq (cJ gF h_ G.yaR g7 (au (dw cV c0 (aq 0) aU) aE)) (cJ gF h_ G.yaR g7 (au (dw cV c0 (aq 1) aU) aE)) rfl)))).dt (bu (cP iG)) g6)
  (bz (eJ 2 Jd.nd (iq (au (iq aE) aE)))
  (bz (lJ (kl 3 kE rfl Jd.nd (iu (dw cV c0 (aq 0) aU)) (bu (eJ 2 Jd.nd (cz eA eo (aq 2) (kL (cap:=[3]) (N':=["_law_some","_law_other"]) (iD.of ["_law_blurred_here","_law_asked","_law_sets","_law_other","_law_some","_law_fit"] (ba rk) rfl rfl (by decide +kernel)) rfl (iu (aq 2)) (λC d e h g=>by exact mG) (λC d e h g=>by exact(cz eA eo (aq 0) (iq (au (aq 1) aE))))).de)))))
  (bz (lJ (kl 4 kE rfl Jd.nd (iu (aq 2)) (bz (DJ 5 Jd.nd (cap:=[4]) (N':=["_law_window","_law_some"]) (iD.of ["_law_blurred_here","_law_asked","_law_sets","_law_other","_law_some","_law_fit"] (ba rk) rfl rfl (by decide +kernel)) rfl (iu (dw cV c0 (aq 1) aU)) (λC d e h g=>by exact tJ (fv (ke i.units) kq (kL (cap:=[0]) (N':=["_law_other","_law_window"]) (iD.of ["_law_window","_law_some"] ({kind:=.function,names:=[(".0",.local),("_law_window",.cell),("_law_some",.cell)],isGenerator:=aj,isCoroutine:=aj}:dD) rfl rfl (by decide +kernel)) rfl (iu (aq 1)) (λC d e h g=>by exact tJ (lY ((bJ (Dt G) (i.mono (by decide)) iZ (aI (aq 1) (aI (aq 0) bG)))).de)) (λC d e h g=>by exact(aq 0))).de (iq aE) rfl)) (λC d e h g=>by exact(aq 0)))
  (bu (g9 (fv xi k8 (cJ gF h_ G.yaR g7 (au (aq 5) aE)) (cJ gF h_ G.yaR g7 (au (aq 4) aE)) rfl) (bu (cP iG)) g6)))))
  (bu (cP iG)))))))
def yay(a:Ad):ak->R aL:=aX (fg 1 (dL cy (ax)))
 (aX (bR 2 (bh (a8 (dW a) (gV (dV 0) (gO 1 (gV (dC (.int 8)) (bD)))))))
 (aX (bR 3 (bh (a8 (dW a) (gV (dV 0) (gO 1 (gV (dC (.int 3)) (bD)))))))
 (aX (bR 4 (bh (a8 (lC a) (gV (dV 0) (gO 1 (gV (dV 3) (gV (dC (.int 8)) (bD))))))))
 (aX (bR 5 (bh (a8 (qK a) (gV (dV 0) (gO 1 (gV (dV 4) (gV (dC (.int 6)) (bD))))))))
 (aX (cI (dB (d2 (fz λi j=>decide (i<j)) (dV 2) (dC (.int 4)))) (aX (fg 6 (dL ko (ap (d2 aO (dV 4) (dC (.int 1))) (ax))))
 (aX (λd=>d4 (cO 7 (dL gA (ap (d2 a9 (dC (.int 1)) (dV 2)) (ax))) (aX (bR 8 (bh (a8 (dW a) (gV (dV 0) (gO 1 (gV (g_ (λxs=>jB (bp xs)) 6) (bD)))))))
 (aX (bR 9 (bh (a8 (dW a) (gV (dV 0) (gO 1 (gV (d2 aO (dV 4) (dC (.int 0))) (bD)))))))
 (nc 6 (dV 8) (d2 a9 (d2 a9 (jf jg (lD aO 6 (dV 8)) (kR) (iE (dV 9))) (bh (a8 (lN a) (gV (dV 0) (gO 1 (gV (dF (dL cy (ap (dC (.str [97])) (ap (dC (.str [98])) (ap (dC (.str [99])) (ax)))))) (bD))))))) (jf jg (lD aO 6 (dV 8)) (iE (d2 a9 (dV 9) (dC (.int 1)))) (kR)))))) d))
 (bR 4 (dL bE (ap (d2 aO (dV 4) (dC (.int 0))) (ap (dL f_ (ap (dF (g_ (λxs=>lS (ff xs)) 6)) (ax))) (ax))))))) (dN))
 (aX (cI (dB (d2 (eqT aj) (dV 2) (dC (.int 4)))) (bR 4 (bh (a8 (lC a) (gV (dV 0) (gO 1 (gV (dC (.int 0)) (gV (dC (.int 8)) (bD)))))))) (dN))
 (aX (cI (dB (d2 (eqT aj) (dV 2) (dC (.int 5)))) (bR 4 (dL bE (ap (d2 aO (dV 4) (dC (.int 0))) (ap (dL f_ (ap (dF (dL ff (ap (d2 a9 (d2 aO (dV 4) (dC (.int 1))) (jf rj (d2 aO (dV 4) (dC (.int 1))) (kR) (iE (dC (.int 1))))) (ax)))) (ax))) (ax))))) (dN))
 (aX (cI (kb (dB (d2 (eqT ah) (bh (a8 (jD a) (gV (dV 5) (gV (dV 4) (bD))))) (bh (a8 (pf a) (gV (dV 5) (gV (dV 4) (bD))))))) (jA (dB (bh (a8 (jD a) (gV (dV 4) (gV (dV 4) (bD)))))))) (b0 (dC (.bl aj))) (dN))
 (aX (bR 10 (bh (a8 (lN a) (gV (dV 0) (gO 1 (gV (dF (dL cy (ap (dC .non) (ap (dC (.int 5)) (ap (dL bE (ap (dC (.int 1)) (ap (dL bE (ax)) (ax)))) (ap (dL bE (ap (dC (.int 2)) (ap (dL bE (ap (dC (.str [97])) (ax))) (ax)))) (ap (dF (dL cy (ap (dC (.int 1)) (ap (dL bE (ap (dC (.str [97])) (ax))) (ax))))) (ap (dL bE (ap (dC (.int 1)) (ap (dL bE (ap (dC (.str [100])) (ax))) (ax)))) (ap (dL bE (ap (dC (.int 2)) (ap (dL bE (ap (dC (.str [97,98])) (ap (dC (.str [97,46])) (ax)))) (ax)))) (ax)))))))))) (bD)))))))
 (aX (bR 10 (bh (a8 (lN a) (gV (dV 0) (gO 1 (gV (dF (dL cy (ap (dV 10) (ap (dV 10) (ap (dL bE (ap (dC (.int 5)) (ap (dL bE (ap (dC (.str [97,97,97,97,97])) (ax))) (ax)))) (ap (dL bE (ap (dC (.bl ah)) (ap (dL bE (ap (dC (.str [97])) (ax))) (ax)))) (ap (dL bE (ap (dC (.int 1)) (ap (dL bE (ap (dC (.str [98])) (ap (dC (.str [97])) (ax)))) (ax)))) (ap (dL bE (ap (dC (.int 1)) (ap (dF (dL cy (ap (dC (.str [97])) (ax)))) (ax)))) (ax))))))))) (bD)))))))
 (aX (cI (kb (dB (d2 (eqT ah) (bh (a8 (lT a) (gV (dV 10) (gV (dV 10) (bD))))) (dL bE (ap (dC (.str [114,101,102,117,115,101,100])) (ap (dC (.int 2)) (ax)))))) (dB (d2 (eqT ah) (bh (a8 (lT a) (gV (dV 4) (gV (dV 10) (bD))))) (dL bE (ap (dC (.str [114,101,102,117,115,101,100])) (ap (dC (.int 2)) (ax))))))) (b0 (dC (.bl aj))) (dN))
 (aX (cI (dB (d2 (eqT ah) (bh (a8 (lT a) (gV (dL bE (ap (dC (.int 2)) (ap (dL bE (ap (dC (.str [46,46])) (ap (dC (.str [46,46])) (ap (dC (.str [46,46])) (ap (dC (.str [46,46])) (ax)))))) (ax)))) (gV (dV 4) (bD))))) (dL bE (ap (dC (.str [114,101,102,117,115,101,100])) (ap (dC (.int 2)) (ax)))))) (b0 (dC (.bl aj))) (dN))
 (b0 (kc (d2 (eqT aj) (bh (a8 (lT a) (gV (dV 5) (gV (dL bE (ap (dC (.int 1)) (ap (dL bE (ap (dC (.str [46])) (ax))) (ax)))) (bD))))) (dL bE (ap (dC (.str [114,101,102,117,115,101,100])) (ap (dC (.int 2)) (ax))))) (d2 (eqT aj) (bh (a8 (lT a) (gV (dV 10) (gV (dV 4) (bD))))) (dL bE (ap (dC (.str [114,101,102,117,115,101,100])) (ap (dC (.int 2)) (ax)))))))))))))))))))
def qh(a:Ad):ak->R Slot:=bO 1 [] (bN 10 (yay a))
theorem Hf:ce ["_law_script","_law_town","_law_way","_law_spoil","_law_asked","_law_blurred_here","_law_windows","_law_k","_law_at","_law_letter","_law_odd"] ["_law_script"] (ba sE):=by ac_nf
theorem G4(G:dz K c b a){f:af}{g:gi}(j:mL K "law" "law" sE f g):jC P w K c b (cx P w) 9 f g ["_law_script"] (bS K (qh a)) :=
 Gm (k:=8) (pin:=[]) j Hf rfl (λ_ _ _ _ _ _ h i=>Pu.Ls (λ_=>rfl) h i) (λf l A e s H E d=>by exact
  (bz (mW 1 Hf.nd (sU aE))
  (bz (eJ 2 Hf.nd ((bJ (iN G) (d.mono (by decide)) cu (aI (aq 0) (et 1 (aI aU bG))))).de)
  (bz (eJ 3 Hf.nd ((bJ (iN G) (d.mono (by decide)) cu (aI (aq 0) (et 1 (aI aU bG))))).de)
  (bz (eJ 4 Hf.nd ((bJ (Bw G) (d.mono (by decide)) cu (aI (aq 0) (et 1 (aI (aq 3) (aI aU bG)))))).de)
  (bz (eJ 5 Hf.nd ((bJ (IQ G) (d.mono (by decide)) cu (aI (aq 0) (et 1 (aI (aq 4) (aI aU bG)))))).de)
  (bz (g9 (fv xi k8 (aq 2) aU rfl) (bz (mW 6 Hf.nd (tD xD wy G.yaS sV (au (dw cV c0 (aq 4) aU) aE)))
  (bz (lJ (kl 7 kE rfl Hf.nd (ou G.yaT (au (cz eA eo aU (aq 2)) aE)) (bz (eJ 8 Hf.nd ((bJ (iN G) (d.mono (by decide)) iZ (aI (aq 0) (et 1 (aI (wR 6 gF h_ G.yaR g7) bG))))).de)
  (bz (eJ 9 Hf.nd ((bJ (iN G) (d.mono (by decide)) iZ (aI (aq 0) (et 1 (aI (dw cV c0 (aq 4) aU) bG))))).de)
  (bu (Ba 6 (aq 8) (cz eA eo (cz eA eo (uc uo qY (BM 6 cV c0 (aq 8)) wo (qe (aq 9))) ((bJ (uq G) (d.mono (by decide)) iZ (aI (aq 0) (et 1 (aI (iq (au (cC [97]) (au (cC [98]) (au (cC [99]) aE)))) bG))))).de) (uc uo qY (BM 6 cV c0 (aq 8)) (qe (cz eA eo (aq 9) aU)) wo))))))))
  (bu (eJ 4 Hf.nd (cg (au (dw cV c0 (aq 4) aU) (au (pi o5 o6 G.yaW lL (au (Bb 6 mE ng G.yaU lP).de aE)) aE))))))) g6)
  (bz (g9 (fv (k_ d.units) kX (aq 2) aU rfl) (bu (eJ 4 Hf.nd ((bJ (Bw G) (d.mono (by decide)) cu (aI (aq 0) (et 1 (aI aU (aI aU bG)))))).de)) g6)
  (bz (g9 (fv (k_ d.units) kX (aq 2) aU rfl) (bu (eJ 4 Hf.nd (cg (au (dw cV c0 (aq 4) aU) (au (pi o5 o6 G.yaW lL (au (qi mE ng G.yaU lP (au (cz eA eo (dw cV c0 (aq 4) aU) (uc GZ DK (dw cV c0 (aq 4) aU) wo (qe aU))) aE)).de aE)) aE))))) g6)
  (bz (g9 ((oy (fv (ke d.units) kq ((bJ (vZ G) (d.mono (by decide)) cu (aI (aq 5) (aI (aq 4) bG)))).de ((bJ (Dy G) (d.mono (by decide)) cu (aI (aq 5) (aI (aq 4) bG)))).de rfl) (oq (lH (lY ((bJ (vZ G) (d.mono (by decide)) cu (aI (aq 4) (aI (aq 4) bG)))).de))))).dt (bu (cP iG)) g6)
  (bz (eJ 10 Hf.nd ((bJ (uq G) (d.mono (by decide)) cu (aI (aq 0) (et 1 (aI (iq (au DH (au aU (au (cg (au aU (au (cg aE) aE))) (au (cg (au aU (au (cg (au (cC [97]) aE)) aE))) (au (iq (au aU (au (cg (au (cC [97]) aE)) aE))) (au (cg (au aU (au (cg (au (cC [100]) aE)) aE))) (au (cg (au aU (au (cg (au (cC [97,98]) (au (cC [97,46]) aE))) aE))) aE)))))))) bG))))).de)
  (bz (eJ 10 Hf.nd ((bJ (uq G) (d.mono (by decide)) cu (aI (aq 0) (et 1 (aI (iq (au (aq 10) (au (aq 10) (au (cg (au aU (au (cg (au (cC [97,97,97,97,97]) aE)) aE))) (au (cg (au iG (au (cg (au (cC [97]) aE)) aE))) (au (cg (au aU (au (cg (au (cC [98]) (au (cC [97]) aE))) aE))) (au (cg (au aU (au (iq (au (cC [97]) aE)) aE))) aE))))))) bG))))).de)
  (bz (g9 ((oy (fv (ke d.units) kq ((bJ (ql G) (d.mono (by decide)) cu (aI (aq 10) (aI (aq 10) bG)))).de (cg (au (cC [114,101,102,117,115,101,100]) (au aU aE))) rfl) (oq (fv (ke d.units) kq ((bJ (ql G) (d.mono (by decide)) cu (aI (aq 4) (aI (aq 10) bG)))).de (cg (au (cC [114,101,102,117,115,101,100]) (au aU aE))) rfl)))).dt (bu (cP iG)) g6)
  (bz (g9 (fv (ke d.units) kq ((bJ (ql G) (d.mono (by decide)) cu (aI (cg (au aU (au (cg (au (cC [46,46]) (au (cC [46,46]) (au (cC [46,46]) (au (cC [46,46]) aE))))) aE))) (aI (aq 4) bG)))).de (cg (au (cC [114,101,102,117,115,101,100]) (au aU aE))) rfl) (bu (cP iG)) g6)
  (bu (cP (mY (lV (k_ d.units) kX ((bJ (ql G) (d.mono (by decide)) cu (aI (aq 5) (aI (cg (au aU (au (cg (au (cC [46]) aE)) aE))) bG)))).de (cg (au (cC [114,101,102,117,115,101,100]) (au aU aE))) rfl) (n9 (lV (k_ d.units) kX ((bJ (ql G) (d.mono (by decide)) cu (aI (aq 10) (aI (aq 4) bG)))).de (cg (au (cC [114,101,102,117,115,101,100]) (au aU aE))) rfl)))))))))))))))))))
end
end K07
namespace Mx
open L2 Pu
def bo:Tx:=[97,98,99]
def Az:Nat->List Tx
 |0=>[[]]
 |k+1=>bo.flatMap λc=>(Az k).map (c::·)
def ge(z:Tx)(w:Nat):List Tx:=((cW z.length).filter λi=>decide (i+w<=z.length)).map λi=>(z.drop i).take w
def nw(w:Nat)(t:Tx):Tx->List Tx
 |[]=>[]
 |c::s=>(t.drop (t.length+1-w)++[c])::nw w (t++[c]) s
end Mx
namespace Sh
open L2 Pu Mx
section
theorem Jq(a:Bool)(b c:Bool):Pu.eqT a (.bl b) (.bl c)=aa (.bl (a^^decide (b=c))):=by cases a <;> cases b <;> cases c <;> rfl
theorem Hl(a:List Tx)(b c:Option Int):d7 (am a) b c=am (d7 a b c):=by unfold d7 am;rw[cr,List.map_take,List.map_drop]
theorem we{ls:List Tx}(h:ls.length<=1000000):ff [.lst (am ls)]=aa (.lst (am (aZ ls))):=by show(fH (am ls)).bind _=_;rw[mD,fm,if_pos h]
end
section
variable{a:Ad}
abbrev aY(b:List Int):Slot:=.val (.lst (b.map .int))
theorem BY(b:List Int)(k:Int)(d:0<=k)(h:k<b.length):∃v,eK (b.map PV.int) k=aa (.int v):=by
 have c:k.toNat<b.length:=∅
 refine⟨b[k.toNat],?_⟩;rw[tX d (by rw[cr];exact c)];simp
theorem z5(b:List Int):Pu.eqT aj (.lst (b.map .int)) (.lst [])=aa (.bl b.isEmpty):=by
 cases b with
 |nil=>rfl
 |cons x xs=>
  have d:∀l:List Int,dO (l.map .int)=0:=λl=>by induction l with|nil=>rfl|cons y l c=>simp[dO,gb,c]
  have:dO ((x::xs).map .int)=0:=d _;simp only[eF]at this;simp[Pu.eqT,cF,b8,eB,gb,this]
theorem iX(b:Bool)(i j:Int):Pu.eqT b (.int i) (.int j)=aa (.bl (b^^decide (i=j))):=by show(if mU (V.int i) (V.int j)then aa (PV.bl (b^^decide (V.int i=V.int j)))else ag)=_;have:mU (V.int i) (V.int j)=ah:=rfl;rw[if_pos this];simp
theorem v9(b:Bool)(x y:Tx):Pu.eqT b (.str x) (.str y)=aa (.bl (b^^decide (x=y))):=by show(if mU (tV x) (tV y)then aa (PV.bl (b^^decide (tV x=tV y)))else ag)=_;have:mU (tV x) (tV y)=ah:=rfl;rw[if_pos this];have e:(tV x=tV y)=(x=y):=propext ⟨F9,λh=>by rw[h]⟩;simp only[e]
theorem D9(b:List Int)(k:Int)(j:0<=k):∃v,oK a [aY b,⇑k]=.ok (⇑v) [aY b,⇑k]:=by
 by_cases h:k<b.length
 .obtain⟨v,d⟩:=BY b k j h;refine⟨v,?_⟩;simp![oK,yaB,bp,aO,d,h]
 .have e:=z5 b;by_cases f:b=[]
  .subst f;refine⟨0,?_⟩;simp only[List.map_nil,List.isEmpty_nil]at e;have l:¬k<0:=∅
   simp![oK,yaB,bp,aO,e,l]
  .have g:0<b.length:=by cases b with|nil=>exact absurd rfl f|cons=>simp
   obtain⟨v,d⟩:=BY b (k % b.length) (Int.emod_nonneg _ ∅) (C5 _ ∅);refine⟨v*31+k,?_⟩;have m:b.isEmpty=aj:=by cases b with|nil=>exact absurd rfl f|cons=>rfl
   rw[m]at e;have i:fA (.int k) (.int (b.length:Int))=aa (.int (k % b.length)):=by simp[fA];lia
   have c:jL (.int v) (.int 31)=aa (.int (v*31)):=by simp[jL,qZ]
   simp![oK,yaB,bp,aO,h,e,i,d,c,a9]
theorem G6(b:List Int)(k m:Int)(p:0<=k)(h:0<m):∃v,0<=v/\v<m/\uj a [aY b,⇑k,⇑m]=.ok (⇑v) [aY b,⇑k,⇑m]:=by
 obtain⟨c,o⟩:=D9 (a:=a) b k p;have q:0<=(c*1103515245+7919*k+12345) % 2147483647:=Int.emod_nonneg _ (by decide);have d1:(c*1103515245+7919*k+12345) % 2147483647<2147483647:=C5 _ (by decide);have n:jL (.int c) (.int 1103515245)=aa (.int (c*1103515245)):=by simp[jL,qZ]
 have l:jL (.int 7919) (.int k)=aa (.int (7919*k)):=by simp[jL,qZ]
 have g:fA (.int (c*1103515245+7919*k+12345)) (.int 2147483647)=aa (.int ((c*1103515245+7919*k+12345) % 2147483647)):=by simp[fA]
 generalize (c*1103515245+7919*k+12345) % 2147483647=d at q d1 g;have j:qx (.int d) (.int 5)=aa (.int (d^5)):=by
  have:d.natAbs<2^64:=∅
  simp[qx,this]
 have f:fA (.int (d^5)) (.int 2147483647)=aa (.int (d^5 % 2147483647)):=by simp[fA]
 generalize d^5 % 2147483647=d5 at f;have e:fA (.int d5) (.int 999983)=aa (.int (d5 % 999983)):=by simp[fA]
 generalize d5 % 999983=d6 at e;have i:fA (.int d6) (.int m)=aa (.int (d6 % m)):=by simp[fA,h]
 refine⟨d6 % m,Int.emod_nonneg _ ∅,C5 _ h,?_⟩;simp![uj,yaF,o,n,l,g,j,f,e,i,a9]
theorem i6(b:List Int)(xs:List PV)(m:Int)(g:0<m)(h:xs.length<=1000):∃v,0<=v/\v<m/\dW a [aY b,.own (.lst xs),⇑m]=.ok (⇑v) [aY b,.own (.lst (xs++[.int 0])),⇑m]:=by
 obtain⟨v,d,c,f⟩:=G6 (a:=a) b ((xs.length:Int)+1) m ∅ g;refine⟨v,d,c,?_⟩;have e:xs.length<bF:=by unfold bF;lia
 simp![dW,yaD,bp,e,f]
theorem z9{c:Type}(b:List c)(v:Int)(e:0<=v)(f:v<b.length):∃x∈b,eK b v=aa x:=by
 have d:v.toNat<b.length:=∅
 exact⟨b[v.toNat],uN _,tX e d⟩
theorem t6(c:List Int)(xs b:List PV)(g:xs.length<=1000)(j:0<b.length):∃x∈b,lN a [aY c,.own (.lst xs),.val (.lst b)]=.ok (.val x) [aY c,.own (.lst (xs++[.int 0])),.val (.lst b)]:=by obtain⟨v,e,d,h⟩:=i6 (a:=a) c xs (b.length:Nat) ∅ g;obtain⟨x,i,f⟩:=z9 b v e d;refine⟨x,i,?_⟩;simp![lN,yaG,bp,aO,h,f]
theorem oZ{n:Nat}(h:n<=1000000):gA [.int n]=aa (c9 0 n):=by show(if(n:Int)<=1000000/\-1000000<=(n:Int)then aa (c9 0 (n:Int).toNat)else ag)=_;rw[if_pos ⟨∅,∅⟩];simp
theorem oJ{x y:Tx}(h:x.length+y.length<=bF):a9 (.str x) (.str y)=aa (.str (x++y)):=by show(if(x++y).length<=bF then aa (PV.str (x++y))else ag)=_;rw[if_pos (by rw[fO];exact h)]
theorem cU{d1 d2:ak->R aL}{ε ε1:ak}(h:d1 ε=.ok .next ε1):aX d1 d2 ε=d2 ε1:=by unfold aX;rw[h]
theorem BB{i:Nat}{d:ak->R PV}{b ε1:ak}{x:PV}(h:d b=.ok x ε1):bR i d b=.ok .next (ε1.set i (.val x)):=by unfold bR;rw[h];rfl
theorem sW{i:Nat}{db:ak->R aL}{I:Nat->ak->Prop}{N:Nat}(step:∀k c x,k<N->I k c->∃b,db (c.set i (.val x))=.ok .next b/\I (k+1) b):∀(xs:List PV) (k:Nat) (c:ak),k+xs.length<=N->I k c->∃b,dj i db xs c=.ok .next b/\I (k+xs.length) b
 |[],k,c,_,h=>⟨c,rfl,h⟩
 |x::xs,k,c,f,h=>by simp only[eP]at f;obtain⟨e,m,j⟩:=step k c x ∅ h;obtain⟨d,l,g⟩:=sW step xs (k+1) e ∅ j;refine⟨d,by unfold dj;rw[m];exact l,?_⟩;rw[eP,show k+(xs.length+1)=k+1+xs.length by lia];exact g
theorem pe{i:Nat}{db:ak->R aL}{I:List PV->ak->Prop}(step:∀(x:PV) (r:List PV) ε,I (x::r) ε->∃b,db (ε.set i (.val x))=.ok .next b/\I r b):∀(xs:List PV) (ε:ak),I xs ε->∃b,dj i db xs ε=.ok .next b/\I [] b
 |[],ε,h=>⟨ε,rfl,h⟩
 |x::xs,ε,h=>by obtain⟨ε1,g,e⟩:=step x xs ε h;obtain⟨c,f,d⟩:=pe step xs ε1 e;exact⟨c,by unfold dj;rw[g];exact f,d⟩
theorem A9(j:List Int)(xs:List PV)(e b:Nat)(L:e<=b)(X:b<=100)(W:xs.length<=500):∃(z:Tx) (h:List PV),e<=z.length/\z.length<=b/\(∀c∈z,c∈bo)/\h.length<=xs.length+2+b /\ oA a [aY j,.own (.lst xs),⇑e,⇑b]=.ok (↥z) [aY j,.own (.lst h),⇑e,⇑b]:=by
 obtain⟨f,y,J⟩:=t6 (a:=a) j xs [.int 1,.int 2,.int 2,.int 3,.int 3,.int 3] ∅ (by decide);obtain⟨g,rfl,P,Z⟩:∃g:Int,f=.int g/\0<g/\g<=3:=by simp only[dm,yA,or_false]at y;rcases y with rfl|rfl|rfl|rfl|rfl|rfl <;> exact⟨_,rfl,by decide,by decide⟩
 obtain⟨m,T,S,l⟩:=i6 (a:=a) j (xs++[.int 0]) ((b:Int)-e+1) ∅ (by simp;lia);obtain⟨n,K⟩:∃n:Nat,(e:Int)+m=n:=⟨(e+m).toNat,∅⟩
 have H:gA [.int ((e:Int)+m)]=aa (c9 0 n):=by rw[K];exact oZ ∅
 have bq:(c9 0 n).length=n:=by simp[c9]
 obtain⟨B,A,h,z,q,rfl,w,F,p⟩:=sW (i:=6) (db:=bR 5 (d2 a9 (dV 5) (d2 aO (dC (.str [97,98,99])) (bh (a8 (dW a) (gV (dV 0) (gO 1 (gV (dV 4) (Pu.bD)))))))))
  (I:=λk u=>∃h z q,u=[aY j,.own (.lst h),⇑e,⇑b,⇑g,↥z,q]/\z.length=k/\h.length<=xs.length+2+k/\∀c∈z,c∈bo) (N:=n)
  (by
   rintro k u x Y ⟨h,z,q,rfl,w,F,p⟩;obtain⟨v,C,Q,G⟩:=i6 (a:=a) j h g P ∅;obtain⟨c,M,E⟩:=z9 bo v C (by simp[bo];lia);refine⟨[aY j,.own (.lst (h++[.int 0])),⇑e,⇑b,⇑g,↥(z++[c]),.val x],?_,h++[.int 0],z++[c],.val x,rfl,by simp[w],by simp;lia,λd l=>?_⟩
   .have D:aO (.str [97,98,99]) (.int v)=aa (.str [c]):=by
     show(eK bo v).map _=_;rw[E];rfl
    have O:a9 (.str z) (.str [c])=aa (.str (z++[c])):=oJ (by simp[bF];lia);simp![G,D,O]
   .simp only[iw,jr]at l;rcases l with l|rfl
    .exact p d l
    .exact M)
  (c9 0 n) 0 [aY j,.own (.lst (xs++[.int 0]++[.int 0])),⇑e,⇑b,⇑g,.val (.str []),.none] ∅ ⟨xs++[.int 0]++[.int 0],[],.none,rfl,rfl,by simp,by simp⟩
 refine⟨z,h,∅,∅,p,∅,?_⟩;have o:o4 (.int b) (.int e)=aa (.int ((b:Int)-e)):=rfl;have s:a9 (.int ((b:Int)-e)) (.int 1)=aa (.int ((b:Int)-e+1)):=rfl;have r:a9 (.int e) (.int m)=aa (.int ((e:Int)+m)):=rfl;simp only[nA,uU,jb]at A;simp![oA,yaI,J,o,s,r,l,cO,H,d4,A]
theorem kg{cap:List Nat}{dt:ak->R Bool}{de:ak->R PV}{ε:ak}(p:PV->Bool)(f:PV->PV):∀(xs:List PV),(∀x∈xs,bL (cc cap dt x ε)=.ok (p x) ε/\(p x=ah->bL (cc cap de x ε)=.ok (f x) ε))->∀b,gD cap dt de xs b ε=.ok (b++(xs.filter p).map f) ε
 |[],_,b=>by simp[gD]
 |x::xs,h,b=>by
  have e:=h x (by simp);have d:=kg p f xs (λy g=>h y (by simp[g]));unfold gD;rw[e.1];simp only[R.bind_ok];cases c:p x with
  |false=>simp only[d b,rL,c];simp
  |true=>simp only[e.2 c,R.bind_ok,d (b++[f x]),rL,c];simp
theorem GQ{z:Tx}{i w:Nat}(h:i+w<=z.length):d7 z (aa (i:Int)) (aa ((i:Int)+w))=(z.drop i).take w:=by
 unfold d7;have c:HT.sIx z.length 0 (aa (i:Int))=i:=by rw[HT.sIx_nat];lia
 have b:HT.sIx z.length z.length (aa ((i:Int)+w))=i+w:=by rw[show(i:Int)+w=((i+w:Nat):Int) by lia,HT.sIx_nat];lia
 rw[c,b,Nat.add_sub_cancel_left]
theorem IS(z:Tx)(w:Nat)(n:z.length<=60):tw a [↥z,⇑w]=.ok (.val (.tup (am (aZ (ge z w))))) [↥z,⇑w]:=by
 have f:gA [.int (z.length:Nat)]=aa (c9 0 z.length):=oZ ∅;have b:=kg (cap:=[0,1]) (dt:=(dB (d2 (fz λi j=>decide (i<=j)) (d2 a9 (dV 0) (dV 2)) (dL bp (ap (dV 1) (ax)))))) (de:=(jf jg (dV 1) (iE (dV 0)) (iE (d2 a9 (dV 0) (dV 2)))))
  (ε:=[↥z,⇑w]) (λx=>match x with|.int i=>decide (i+w<=z.length)|_=>aj) (λx=>match x with|.int i=>.str (d7 z (aa i) (aa (i+w)))|_=>.non) (c9 0 z.length)
  (by
   intro x d;simp only[c9,gK]at d;obtain⟨i,e,rfl⟩:=d;refine⟨?_,λh=>?_⟩
   .simp![cc,cL,bL,bp,a9]
   .simp![cc,cL,bL,bp,a9,jf,iE,jg]) []
 have g:(ge z w).length<=1000000:=by unfold ge;rw[cr];have:=List.length_filter_le (λi=>decide (i+w<=z.length)) (cW z.length);rw[List.length_range]at this;lia
 have l:(((c9 0 z.length).filter (λx=>match x with|.int i=>decide (i+w<=z.length)|_=>aj)).map (λx=>match x with|.int i=>PV.str (d7 z (aa i) (aa (i+w)))|_=>.non))=am (ge z w):=by
  unfold c9 ge am;rw[uW,gn,gn];have m:((λx=>match x with|PV.int i=>decide (i+(w:Int)<=(z.length:Nat))|_=>aj) ∘ λ(i:Nat)=>PV.int (0+(i:Nat)))=λi=>decide (i+w<=z.length):=by funext i;simp only[Function.comp];congr 1;simp;lia
  rw[m];refine uK λi e=>?_;have:=(uA.mp e).2;simp only[decide_eq_true_eq]at this;simp only[Function.comp,Int.zero_add];rw[GQ this]
 simp only[jb]at b;rw[l]at b;have c:=we g;generalize am (aZ (ge z w))=T at c;generalize am (ge z w)=B at b c;simp![tw,yaH,bp,f,cm,b,c,f_]
theorem y0{z:Tx}{w:Nat}:∀x∈ge z w,x.length=w/\∀c∈x,c∈z:=by intro x b;simp only[ge,gK,uA,List.mem_range,decide_eq_true_eq]at b;obtain⟨i,⟨_,h⟩,rfl⟩:=b;exact⟨by rw[l4,pA];lia,λc d=>List.mem_of_mem_drop (yB d)⟩
theorem Jl{z:Tx}{w m:Nat}(c:1<=w)(e:w<=z.length)(d:z.length<=w+m):1<=(ge z w).length/\(ge z w).length<=m+1:=by
 unfold ge;rw[cr];have:∀n,((cW n).filter λi=>decide (i+w<=z.length)).length=min n (z.length+1-w):=by
  intro n
  induction n with
  |zero=>simp
  |succ n b=>
   rw[List.range_succ,List.filter_append,fO,b];by_cases h:n+w<=z.length
   .simp[List.filter,h];lia
   .simp[List.filter,h];lia
 rw[this];lia
structure Good(l:Tx)(w:Nat)(ls:List Tx):Prop where
 len:∀x∈ls,x.length=w
 abc:∀x∈ls,∀c∈x,c∈l
 some:1<=ls.length
 few:ls.length<=9
theorem Good.perm{l:Tx}{w:Nat}{ls b:List Tx}(g:Good l w ls)(p:b.Perm ls):Good l w b:=⟨λx h=>g.len x (p.mem_iff.mp h),λx h=>g.abc x (p.mem_iff.mp h),by rw[p.length_eq];exact g.some,by rw[p.length_eq];exact g.few⟩
theorem Good.put{l:Tx}{w:Nat}{ls:List Tx}{z:Tx}{j:Nat}(g:Good l w ls)(b:z.length=w)(d:∀c∈z,c∈l):Good l w (ls.set j z):=by
 refine⟨λx h=>?_,λx h=>?_,by rw[dX];exact g.some,by rw[dX];exact g.few⟩
 .rcases C6 h with h|rfl
  .exact g.len x h
  .exact b
 .rcases C6 h with h|rfl
  .exact g.abc x h
  .exact d
theorem FH(ls:List Tx)(j:Nat)(z:Tx):(am ls).set j (.str z)=am (ls.set j z):=by simp[am,yC]
theorem f9(ls:List Tx):(am ls).length=ls.length:=by simp[am]
theorem ui{n:Nat}{v:Int}(c:0<=v)(b:v<n):fE n v=aa v.toNat:=by unfold fE;rw[if_pos c,if_pos b]
theorem Ak(ls:List Tx):kY (am ls)=ah:=by
 induction ls with
 |nil=>rfl
 |cons x ls b=>show(imm (.str x)&&kY (am ls))=ah;rw[b];rfl
theorem AS(j:List Int)(xs:List PV)(d f:Nat)(hs:d<3)(m1:1<=f)(m9:f<=9)(hx:xs.length<=300):∃(w:Nat) (ls:List Tx) (l:List PV),1<=w/\w<=4/\(d≠2->2<=w)/\Good bo w ls/\ls.Pairwise (λa b=>cb a b=ah)/\ls.length<=f/\(d=0->∃z:Tx,ls=aZ (ge z w)/\w<=z.length/\z.length+1<=w+f/\∀c∈z,c∈bo)/\l.length<=xs.length+60 /\ lC a [aY j,.own (.lst xs),⇑d,⇑f]=.ok (.val (.tup [.int w,.tup (am ls)])) [aY j,.own (.lst l),⇑d,⇑f]:=by
 obtain⟨w,K,Q,S,Z⟩:∃w:Nat,1<=w/\w<=4/\(d≠2->2<=w)/\(cI (dB (d2 (Pu.eqT ah) (dV 2) (dC (.int 2)))) (d2 a9 (dC (.int 2)) (bh (a8 (dW a) (gV (dV 0) (gO 1 (gV (dC (.int 3)) (Pu.bD))))))) (d2 a9 (dC (.int 1)) (bh (a8 (dW a) (gV (dV 0) (gO 1 (gV (dC (.int 4)) (Pu.bD)))))))) [aY j,.own (.lst xs),⇑d,⇑f,.none,.none,.none] =
   .ok (.int w) [aY j,.own (.lst (xs++[.int 0])),⇑d,⇑f,.none,.none,.none]:=by
  by_cases h2:d=2
  .subst h2;obtain⟨v,E,D,o⟩:=i6 (a:=a) j xs 4 (by decide) ∅;refine⟨(1+v).toNat,∅,∅,λz=>absurd rfl z,?_⟩;have e:Pu.eqT ah (.int 2) (.int 2)=aa (.bl aj):=by rw[iX];rfl
   have:((1+v).toNat:Int)=1+v:=∅
   simp![e,o,a9,this]
  .obtain⟨v,E,D,o⟩:=i6 (a:=a) j xs 3 (by decide) ∅;refine⟨(2+v).toNat,∅,∅,λ_=>∅,?_⟩;have e:Pu.eqT ah (.int ((d:Nat):Int)) (.int 2)=aa (.bl ah):=by
    have:d=0\/d=1:=∅
    rcases this with rfl|rfl <;> (rw[iX];rfl)
   have:((2+v).toNat:Int)=2+v:=∅
   simp![e,o,a9,this]
 obtain⟨z,C,A,H,g,F,y⟩:=A9 (a:=a) j (xs++[.int 0]) w (w+(f-1)) ∅ ∅ (by simp;lia);simp only[fO,List.length_singleton]at F;have Lb:=IS (a:=a) z w ∅;have Lc:=Jl (z:=z) (w:=w) (m:=f-1) K A H;have g0:Good bo w (aZ (ge z w)):=by exact Good.perm ⟨λx h=>(y0 x h).1,λx h c hc=>g c ((y0 x h).2 c hc),Lc.1,∅⟩ (gY _)
 have p:fA (.int d) (.int 3)=aa (.int d):=by
  have:d=0\/d=1\/d=2:=∅
  rcases this with rfl|rfl|rfl <;> rfl
 have hr:gA [.int d]=aa (c9 0 d):=oZ ∅;have bq:(c9 0 d).length=d:=by simp[c9]
 obtain⟨P,e1,l,ls,u,rfl,r,n,h0,Y⟩:=sW (i:=6) (db:=(nc 5 (bh (a8 (dW a) (gV (dV 0) (gO 1 (gV (g_ (λxs=>jB (bp xs)) 5) (Pu.bD)))))) (bh (a8 (oA a) (gV (dV 0) (gO 1 (gV (dV 4) (gV (dV 4) (Pu.bD)))))))))
  (I:=λk G=>∃l ls u,G=[aY j,.own (.lst l),⇑d,⇑f,⇑w,.own (.lst (am ls)),u]/\Good bo w ls/\ls.length<=f/\(k=0->ls=aZ (ge z w))/\l.length<=C.length+10*k) (N:=d)
  (by
   rintro k G x hk ⟨l,ls,u,rfl,r,n,_,Y⟩;obtain⟨z,J,A,H,g,X,y⟩:=A9 (a:=a) j l w w ∅ ∅ ∅;obtain⟨v,E,D,o⟩:=i6 (a:=a) j J (ls.length:Nat) (by have:=r.some;lia) ∅;refine⟨[aY j,.own (.lst (J++[.int 0])),⇑d,⇑f,⇑w,.own (.lst (am (ls.set v.toNat z))),.val x],?_,_,_,_,rfl,r.put ∅ g,by rw[dX];exact n,λz=>∅,by simp;lia⟩;have W:fE (am ls).length v=aa v.toNat:=ui E (by rw[f9];exact D);have hl:bp [.lst (am ls)]=aa (.int (ls.length:Nat)):=by simp[bp,f9]
   simp![nc,y,hl,o,W,FH])
  (c9 0 d) 0 [aY j,.own (.lst C),⇑d,⇑f,⇑w,.own (.lst (am (aZ (ge z w)))),.none] ∅ ⟨C,_,.none,rfl,g0,by rw[wW];lia,λ_=>rfl,∅⟩
 refine⟨w,aZ ls,l,K,Q,S,r.perm (gY _),kr _,by rw[wW];exact n,λz0=>⟨z,by rw[h0 ∅,m8 (kr _)],A,∅,g⟩,∅,?_⟩;have M:a9 (.int w) (.int f)=aa (.int ((w:Int)+f)):=rfl;have B:o4 (.int ((w:Int)+f)) (.int 1)=aa (.int (((w+(f-1):Nat)):Int)):=by show aa (PV.int ((w:Int)+f-1))=_;congr 2;lia
 have O:=we (ls:=ls) (by have:=r.few;lia);have s:yaJ a [aY j,.own (.lst xs),⇑d,⇑f,.none,.none,.none]=.ok (.ret (.val (.tup [.int w,.tup (am (aZ ls))]))) [aY j,.own (.lst l),⇑d,⇑f,⇑w,.own (.lst (am ls)),u]:=by unfold yaJ;refine(cU (BB Z)).trans ?_;have L:=Ak (aZ ls);generalize am (aZ ls)=T at O L;generalize ((w+(f-1):Nat):Int)=q at B y;generalize (w:Int)+f=q2 at M B;simp[aX,cI,dB,d2,d1,dV,dC,dL,dF,ap,ax,b0,mB,bR,fg,a8,gV,gO,Pu.bD,gX,gH,cB,eO,iP,R.bind,a_,bO,e_,bN,back,gz,lE,kt,vE,xq,wM,bh,qD,cy,bE,dN,B2,rf,BP,jA,ug,vz,kb,kc,A5,mP,fz,cY,qE,g_,lS,dq,pr,M,B,y,Lb,ko,p,cO,hr,d4,e1,O,t5,L,f_]
 simp[lC,bO,e_,bN,s,back,gz]
def dA(x:Tx):List PV:=x.map λc=>.str [c]
theorem Iw(x:Tx):(dA x).length=x.length:=by simp[dA]
theorem Kw(x:Tx)(j c:Nat):(dA x).set j (.str [c])=dA (x.set j c):=by simp[dA,yC]
theorem EA(x:Tx):fH (dA x)=aa (x.map λc=>[c]):=by
 have e:dA x=am (x.map λc=>[c]):=by unfold dA am;rw[gn];rfl
 rw[e,mD]
theorem KR(x:Tx):fu [] (x.map λc=>[c])=x:=by
 induction x with
 |nil=>rfl
 |cons c x b=>
  cases x with
  |nil=>rfl
  |cons d x=>show [c]++[]++fu [] ((d::x).map λc=>[c])=_;rw[b];rfl
theorem GL(x:Tx):gf [] (x.map λc=>[c])=x.length:=by
 unfold gf
 induction x with
 |nil=>rfl
 |cons c x b=>simp at b ⊢;lia
theorem Gs(b:List Tx)(c:ak):∀d,mC [] (dL ol (ap (dV 0) ax)) (am b) d c=.ok (d++b.map dA) c:=by
 induction b with
 |nil=>intro d;simp[am,mC]
 |cons x b e=>
  intro d;have:am (x::b)=.str x::am b:=rfl;rw[this];unfold mC;have h:bL (cc [] (dL ol (ap (dV 0) ax)) (.str x) c)=.ok (.lst (dA x)) c:=by simp![cc,cL,bL,ol,dA]
  rw[h];simp only[R.bind_ok];rw[e];simp
theorem map_set{b c:Type}(f:b->c)(l:List b)(j:Nat)(x:b):(l.map f).set j (f x)=(l.set j x).map f:=by simp[yC]
def cn(b:List Tx):Nat:=(b.map λx=>x.count 46).sum
theorem DM(x:Tx)(j c:Nat):(x.set j c).count 46<=x.count 46+1:=by
 induction x generalizing j with
 |nil=>simp
 |cons d x b=>
  cases j with
  |zero=>simp only[List.set_cons_zero,ym];split <;> split <;> lia
  |succ j=>have:=b j;simp only[List.set_cons_succ,ym];lia
theorem Fo(b:List Tx)(j:Nat)(x y:Tx)(h:b[j]?=aa x)(d:y.count 46<=x.count 46+1):cn (b.set j y)<=cn b+1:=by
 unfold cn
 induction b generalizing j with
 |nil=>simp
 |cons z b c=>
  cases j with
  |zero=>simp at h;subst h;simp only[List.set_cons_zero,eF,rK];lia
  |succ j=>have:=c j (by simpa using h);simp only[List.set_cons_succ,eF,rK];lia
theorem JR{c b:List Tx}(p:c.Perm b):cn c=cn b:=(p.map _).sum_nat
def eW:Tx:=[46,97,98,99]
theorem D6(b:List Tx)(d:∀x∈b,x.length<=10)(c:ak):gD [] cZ (kj kQ (dC (.str [])) (ap (dV 0) ax)) (b.map λx=>.lst (dA x)) [] c=.ok (am b) c:=by
 have h:∀(b:List Tx),(∀x∈b,x.length<=10)->∀e,gD [] cZ (kj kQ (dC (.str [])) (ap (dV 0) ax)) (b.map λx=>.lst (dA x)) e c=.ok (e++am b) c:=by
  intro b
  induction b with
  |nil=>intro _ e;simp[gD,am]
  |cons x b f=>
   intro d e;have m:=d x (by simp);have l:bL (cc [] cZ (.lst (dA x)) c)=.ok ah c:=by simp![cc,cL,bL,cZ]
   have i:kQ [] [.lst (dA x)]=aa (.str x):=by show(fH (dA x)).bind _=_;rw[EA,fm,GL,if_pos (by unfold bF;lia),KR]
   have j:bL (cc [] (kj kQ (dC (.str [])) (ap (dV 0) ax)) (.lst (dA x)) c)=.ok (.str x) c:=by simp![cc,cL,bL,kj,tT,i]
   rw[eF];unfold gD;rw[l];simp only[R.bind_ok,j];rw[f (λy g=>d y (by simp[g]))];simp[am]
 have:=h b d [];simpa using this
theorem B3(c b:List Tx):am c++am b=am (c++b):=by simp[am]
theorem Ac{b:Type}(xs:List b)(n:Nat):d7 xs ag (aa (n:Int))=xs.take n:=by
 unfold d7;have c:HT.sIx xs.length 0 ag=0:=rfl;rw[c,HT.sIx_nat,List.drop_zero,Nat.sub_zero];by_cases h:n<=xs.length
 .rw[Nat.min_eq_left h]
 .rw[Nat.min_eq_right ∅,rH (bB _),rH ∅]
theorem G_{b:Type}(xs:List b)(n:Nat):d7 xs (aa (n:Int)) ag=xs.drop n:=by
 unfold d7;have c:HT.sIx xs.length xs.length ag=xs.length:=rfl;rw[c,HT.sIx_nat];by_cases h:n<=xs.length
 .rw[Nat.min_eq_left h,rH (by rw[pA];lia)]
 .rw[Nat.min_eq_right ∅,List.drop_of_length_le ∅,List.drop_of_length_le ∅];simp
end
def opts(d:Nat):Tx:=if d=46 then bo else [d]
def fillS(a:List Tx)(d:Nat):List Tx:=a.flatMap λs=>(opts d).map λc=>s++[c]
def fillF(a:List Tx)(b:Tx):List Tx:=b.foldl fillS a
def fills(b:Tx):List Tx:=fillF [[]] b
theorem opts_mem{c d:Nat}:c∈opts d↔(d=46/\c∈bo)\/(d≠46/\c=d):=by
 unfold opts;by_cases h:d=46
 .simp[h]
 .simp[h]
theorem opts_len(d:Nat):(opts d).length=3 ^ [d].count 46:=by
 unfold opts;by_cases h:d=46
 .subst h;rfl
 .simp[h]
theorem fillS_len(a:List Tx)(d:Nat):(fillS a d).length=a.length*3 ^ [d].count 46:=by
 unfold fillS;rw[List.length_flatMap];simp only[cr,opts_len]
 induction a with
 |nil=>simp
 |cons r a b=>rw[eF,rK,b,eP,Nat.add_mul,Nat.one_mul,xY]
theorem fillF_len(b:Tx):∀a:List Tx,(fillF a b).length=a.length*3^b.count 46:=by
 unfold fillF
 induction b with
 |nil=>intro a;simp
 |cons d b c=>intro a;rw[ln,c,fillS_len,Nat.mul_assoc,<-Nat.pow_add];congr 2;rw[<-List.count_append];rfl
theorem fills_len(b:Tx):(fills b).length=3^b.count 46:=by rw[fills,fillF_len];simp
theorem fillF_fits(b:Tx):∀(a:List Tx) (z:Tx),z∈fillF a b↔∃r∈a,∃x:Tx,z=r++x/\c7 (λc d=>c∈opts d) x b:=by
 unfold fillF
 induction b with
 |nil=>
  intro a z;constructor
  .intro h;exact⟨z,h,[],by simp,.nil⟩
  .rintro⟨r,e,x,rfl,f⟩;cases f;simpa using e
 |cons d b i=>
  intro a z;rw[ln,i];constructor
  .rintro⟨r,e,x,rfl,f⟩;unfold fillS at e;obtain⟨s,j,e⟩:=yD.mp e;obtain⟨c,g,rfl⟩:=gK.mp e;exact⟨s,j,c::x,by simp,.cons g f⟩
  .rintro⟨r,e,x,rfl,f⟩;cases f with
   |cons g f=>rename_i c x;refine⟨r++[c],?_,x,by simp,f⟩;unfold fillS;exact yD.mpr ⟨r,e,gK.mpr ⟨c,g,rfl⟩⟩
def Fit(x b:Tx):Prop:=c7 (λc d=>c∈opts d) x b
theorem fills_mem{b z:Tx}:z∈fills b↔Fit z b:=by
 unfold fills;rw[fillF_fits];constructor
 .rintro⟨r,a,x,rfl,c⟩;simp at a;subst a;exact c
 .intro h;exact⟨[],by simp,z,rfl,h⟩
theorem Fit.len{x b:Tx}(h:Fit x b):x.length=b.length:=ku h
def addL(a:List (List Tx))(k:List Tx):List (List Tx):=if k∈a then a else a++[k]
theorem addL_mem{a:List (List Tx)}{k z:List Tx}:z∈addL a k↔z∈a\/z=k:=by
 unfold addL;by_cases h:k∈a
 .rw[if_pos h];exact⟨.inl,λq=>q.elim id λe=>e ▸ h⟩
 .rw[if_neg h];simp
theorem addL_nodup{d:List (List Tx)}{k:List Tx}(h:d.Nodup):(addL d k).Nodup:=by
 unfold addL;by_cases c:k∈d
 .rw[if_pos c];exact h
 .rw[if_neg c,List.nodup_append];refine⟨h,by simp,λa f b e=>?_⟩;simp at e;subst e;rintro rfl;exact c f
theorem addF_mem(ks:List (List Tx)):∀(a:List (List Tx)) (z:List Tx),z∈ks.foldl addL a↔z∈a\/z∈ks:=by
 induction ks with
 |nil=>intro a z;simp
 |cons k ks b=>
  intro a z;rw[ln,b,addL_mem,dm];constructor
  .rintro((h|h)|h)
   .exact .inl h
   .exact .inr (.inl h)
   .exact .inr (.inr h)
  .rintro(h|h|h)
   .exact .inl (.inl h)
   .exact .inl (.inr h)
   .exact .inr h
theorem addF_nodup(ks:List (List Tx)):∀a:List (List Tx),a.Nodup->(ks.foldl addL a).Nodup:=by
 induction ks with
 |nil=>intro a h;exact h
 |cons k ks b=>intro a h;exact b _ (addL_nodup h)
def nextW(b:Tx)(k:List Tx):List (List Tx):=(fills b).map λx=>aZ (k++[x])
def stepW(ks:List (List Tx))(b:Tx):List (List Tx):=(ks.flatMap (nextW b)).foldl addL []
def waysF(a:List Tx):List (List Tx):=a.foldl stepW [[]]
theorem waysF_mem'(e:List Tx):∀(ks:List (List Tx)) (z:List Tx),z∈e.foldl stepW ks↔if e=[] then z∈ks else ∃k∈ks,∃xs:List Tx,z=aZ (k++xs)/\c7 Fit xs e:=by
 induction e with
 |nil=>intro ks z;simp
 |cons b e j=>
  intro ks z;rw[ln,j,if_neg (show ¬b::e=[] by simp)];have f:∀y,y∈stepW ks b↔∃k∈ks,∃x,Fit x b/\y=aZ (k++[x]):=λy=>by
   unfold stepW;rw[addF_mem];constructor
   .rintro(h|h)
    .simp at h
    .obtain⟨k,c,h⟩:=yD.mp h;obtain⟨x,a,rfl⟩:=gK.mp h;exact⟨k,c,x,fills_mem.mp a,rfl⟩
   .rintro⟨k,c,x,a,rfl⟩;exact .inr (yD.mpr ⟨k,c,gK.mpr ⟨x,fills_mem.mpr a,rfl⟩⟩)
  by_cases i:e=[]
  .subst i;rw[if_pos rfl,f];constructor
   .rintro⟨k,c,x,a,rfl⟩;exact⟨k,c,[x],rfl,.cons a .nil⟩
   .rintro⟨k,c,xs,rfl,d⟩;cases d with
    |cons a d=>cases d;exact⟨k,c,_,a,rfl⟩
  .rw[if_neg i];constructor
   .rintro⟨y,l,xs,rfl,d⟩;obtain⟨k,c,x,a,rfl⟩:=(f y).mp l;refine⟨k,c,x::xs,sQ ?_,.cons a d⟩;have g:=(gY (k++[x])).append_right xs;simpa using g
   .rintro⟨k,c,xs,rfl,d⟩;cases d with
    |cons a d=>rename_i x xs;refine⟨aZ (k++[x]),(f _).mpr ⟨k,c,x,a,rfl⟩,xs,sQ ?_,d⟩;have g:=(gY (k++[x])).symm.append_right xs;simpa using g
theorem waysF_mem{b z:List Tx}:z∈waysF b↔∃xs:List Tx,z=aZ xs/\c7 Fit xs b:=by
 unfold waysF;rw[waysF_mem'];by_cases c:b=[]
 .subst c;rw[if_pos rfl];constructor
  .intro h;simp at h;subst h;exact⟨[],(by simp[aZ]),.nil⟩
  .rintro⟨xs,rfl,a⟩;cases a;simp[aZ]
 .rw[if_neg c];constructor
  .rintro⟨k,d,xs,rfl,a⟩;simp at d;subst d;exact⟨xs,rfl,a⟩
  .rintro⟨xs,rfl,a⟩;exact⟨[],by simp,xs,rfl,a⟩
theorem waysF_nodup'(a:List Tx):∀ks:List (List Tx),ks.Nodup->(a.foldl stepW ks).Nodup:=by
 induction a with
 |nil=>intro ks h;exact h
 |cons b a c=>intro ks _;exact c _ (addF_nodup _ _ List.nodup_nil)
theorem waysF_nodup(a:List Tx):(waysF a).Nodup:=waysF_nodup' a _ (by simp)
theorem addF_len(ks:List (List Tx)):∀a:List (List Tx),(ks.foldl addL a).length<=a.length+ks.length:=by
 induction ks with
 |nil=>intro a;simp
 |cons k ks b=>
  intro a;have:=b (addL a k);rw[ln,eP];have c:(addL a k).length<=a.length+1:=by unfold addL;split <;> simp
  lia
theorem next_len(ks:List (List Tx))(b:Tx):(ks.flatMap (nextW b)).length=ks.length*3^b.count 46:=by
 rw[List.length_flatMap];simp only[nextW,cr,fills_len]
 induction ks with
 |nil=>simp
 |cons r a c=>rw[eF,rK,c,eP,Nat.add_mul,Nat.one_mul,xY]
theorem stepW_len(ks:List (List Tx))(b:Tx):(stepW ks b).length<=ks.length*3^b.count 46:=by unfold stepW;have:=addF_len (ks.flatMap (nextW b)) [];rw[next_len]at this;simpa using this
theorem waysF_len'(a:List Tx):∀ks:List (List Tx),(a.foldl stepW ks).length<=ks.length*3^cn a:=by
 induction a with
 |nil=>intro ks;simp[cn]
 |cons b a c=>
  intro ks;rw[ln];refine cK (c _) ?_;have e:3^cn (b::a)=3^b.count 46*3^cn a:=by rw[<-Nat.pow_add];rfl
  rw[e,<-Nat.mul_assoc];exact Nat.mul_le_mul_right _ (stepW_len ks b)
theorem waysF_len(a:List Tx):(waysF a).length<=3^cn a:=by have:=waysF_len' a [[]];simpa[waysF]using this
section
variable{a:Ad}
theorem wf_comp(t:Tx)(o:Tx)(f e d b:Slot)(j:t.length<=50):gD [5] cZ (d2 a9 (dV 1) (dV 0)) (o.map λc=>.str [c]) [] [f,e,d,↥o,b,↥t]=.ok (am (o.map λc=>t++[c])) [f,e,d,↥o,b,↥t]:=by
 have g:=kg (cap:=[5]) (dt:=cZ) (de:=(d2 a9 (dV 1) (dV 0))) (ε:=[f,e,d,↥o,b,↥t]) (λ_=>ah) (λx=>match x with|.str [c]=>.str (t++[c])|_=>.non) (o.map λc=>PV.str [c])
  (by intro x h;obtain⟨c,_,rfl⟩:=gK.mp h;have i:a9 (.str t) (.str [c])=aa (.str (t++[c])):=oJ (by simp[bF];lia);refine⟨by simp![cc,cL,bL,cZ],λ_=>?_⟩;simp![cc,cL,bL,i]) []
 rw[jb,rM.mpr (by simp)]at g;rw[g];congr 1;simp[am,gn,yv]
theorem wf_row(d:Nat)(h g f n:Slot)(b:List Tx)(z:∀t∈b,t.length<=50)(C:(fillS b d).length<=999999):∃l,dj 5 (k6 4 (dF (cm [5] (bC (dV 3)) (cZ) (d2 a9 (dV 1) (dV 0))))) (am b) [h,g,f,↥(opts d),.own (.lst []),n]=.ok .next [h,g,f,↥(opts d),.own (.lst (am (fillS b d))),l]:=by
 obtain⟨w,v,l,p,rest,j,y,rfl⟩:=pe (i:=5) (db:=(k6 4 (dF (cm [5] (bC (dV 3)) (cZ) (d2 a9 (dV 1) (dV 0))))))
  (I:=λr q=>∃(l:Slot) (p rest:List Tx),b=p++rest/\r=am rest/\q=[h,g,f,↥(opts d),.own (.lst (am (fillS p d))),l])
  (by
   rintro x r q ⟨l,p,rest,j,u,rfl⟩;cases rest with
   |nil=>cases u
   |cons t rest=>
    have s:x::r=.str t::am rest:=u;simp only[pP]at s;obtain⟨rfl,rfl⟩:=s;have m:=wf_comp t (opts d) h g f (.own (.lst (am (fillS p d)))) (z t (by rw[j];simp));have o:gc (.str (opts d))=aa ((opts d).map λc=>.str [c]):=rfl;have B:fillS (p++[t]) d=fillS p d++(opts d).map λc=>t++[c]:=by simp[fillS]
    have e:(am (fillS p d)).length+(am ((opts d).map λc=>t++[c])).length<=bF:=by
     rw[f9,f9];have D:(fillS p d).length+((opts d).map λc=>t++[c]).length<=(fillS b d).length:=by rw[j];simp only[fillS,List.flatMap_append,List.flatMap_cons,fO];lia
     unfold bF;lia
    refine⟨[h,g,f,↥(opts d),.own (.lst (am (fillS (p++[t]) d))),↥t],?_,↥t,p++[t],rest,by rw[j];simp,rfl,rfl⟩;rw[B,<-B3];generalize am ((opts d).map λc=>t++[c])=Y at m e;generalize am (fillS p d)=L at m e;generalize ((opts d).map λc=>PV.str [c])=A3 at m o;generalize opts d=O at m o;simp![k6,cm,bC,o,m,e])
  (am b) [h,g,f,↥(opts d),.own (.lst (am (fillS [] d))),n] ⟨n,[],b,by simp,rfl,rfl⟩
 have A:rest=[]:=by cases rest with|nil=>rfl|cons=>cases y
 subst A;rw[i_]at j;rw[<-j]at v;exact⟨l,v⟩
theorem fillF_app(d:List Tx)(b c:Tx):fillF d (b++c)=fillF (fillF d b) c:=by unfold fillF;rw[yE]
theorem fill_long{b:Tx}{t:Tx}(h:t∈fills b):t.length=b.length:=(fills_mem.mp h).len
theorem pow6{k:Nat}(h:k<=6):3^k<=729:=cK (Nat.pow_le_pow_right (by decide) h) (by decide)
theorem wtf_eq(b:Tx)(H:b.length<=40)(G:b.count 46<=6):oC a [↥b]=.ok (.val (.lst (am (fills b)))) [↥b]:=by
 obtain⟨z,m,o,j,h,f,p,rest,g,A,rfl⟩:=pe (i:=2) (db:=(aX (bR 3 (cI (dB (d2 (Pu.eqT aj) (dV 2) (dC (.str [46])))) (dC (.str [97,98,99])) (dV 2)))
 (aX (fg 4 (dL cy (ax)))
 (aX (cO 5 (bC (dV 1)) (k6 4 (dF (cm [5] (bC (dV 3)) (cZ) (d2 a9 (dV 1) (dV 0))))))
 (bR 1 (dM 4))))))
  (I:=λr v=>∃(o j h f:Slot) (p rest:Tx),b=p++rest/\r=rest.map (λc=>PV.str [c])/\v=[↥b,.val (.lst (am (fills p))),o,j,h,f])
  (by
   rintro x r v ⟨o,j,h,f,p,rest,g,q,rfl⟩;cases rest with
   |nil=>cases q
   |cons d rest=>
    simp only[eF,pP]at q;obtain⟨rfl,rfl⟩:=q;have J:p.length+1<=b.length:=by rw[g];simp
    have s:(p++[d]).count 46<=6:=by
     have:(p++[d]).count 46<=b.count 46:=by rw[g];simp only[List.count_append,ym,List.count_nil];lia
     lia
    have e:fillS (fills p) d=fills (p++[d]):=by unfold fills;rw[fillF_app];rfl
    obtain⟨w,l⟩:=wf_row d (↥b) (.val (.lst (am (fills p)))) (.val (.str [d])) f (fills p) (λt C=>by rw[fill_long C];lia) (by rw[e,fills_len];have:=pow6 s;lia);rw[e]at l;refine⟨_,?_,.val (.str [d]),↥(opts d),.val (.lst (am (fills (p++[d])))),w,p++[d],rest,by rw[g];simp,rfl,rfl⟩;have u:(cI (dB (d2 (Pu.eqT aj) (dV 2) (dC (.str [46])))) (dC (.str [97,98,99])) (dV 2)) [↥b,.val (.lst (am (fills p))),.val (.str [d]),j,h,f]=.ok (.str (opts d)) [↥b,.val (.lst (am (fills p))),.val (.str [d]),j,h,f]:=by
     have F:=v9 aj [d] [46];by_cases y:d=46
     .subst y;simp![v9,opts,bo]
     .simp![v9,opts,y]
    have n:gc (.lst (am (fills p)))=aa (am (fills p)):=rfl;generalize am (fills (p++[d]))=R1 at l;generalize am (fills p)=R0 at l u n;generalize opts d=O at l u;refine(cU (BB u)).trans ?_;refine(cU (ε1:=[↥b,.val (.lst R0),.val (.str [d]),↥O,.own (.lst []),f]) (by simp![])).trans ?_;refine(cU (ε1:=[↥b,.val (.lst R0),.val (.str [d]),↥O,.own (.lst R1),w]) ?_).trans ?_
    .unfold cO bC dV;simp only[CY,CL,R.bind_ok,n,cQ];exact l
    .simp[bR,dM,R.bind])
  (b.map λc=>.str [c]) [↥b,.val (.lst (am (fills []))),.none,.none,.none,.none] ⟨.none,.none,.none,.none,[],b,rfl,rfl,rfl⟩
 have D:rest=[]:=by cases rest with|nil=>rfl|cons=>cases A
 subst D;rw[i_]at g;rw[<-g]at m;have E:am (fills [])=[.str []]:=rfl;rw[E]at m;have n:gc (.str b)=aa (b.map λc=>.str [c]):=rfl;generalize am (fills b)=R1 at m;generalize (b.map λc=>PV.str [c])=B at m n;simp![oC,yaL,d4,cO,bC,n,m]
theorem g8{t T:String}{b:Bool}{x:PV}(h:pc x=aa t)(e:dQ [] (.type t) (.type T)=aa b):d8 [x,.raw (.ty T)]=aa (.bl b):=by show((pc x).bind λt=>(dQ [] (.type t) (.type T)).map λb=>PV.bl b)=_;rw[h,fm,e];rfl
theorem HH:dQ [] (.type "int") (.type "int")=aa ah:=by decide +kernel
theorem Jw:dQ [] (.type "int") (.type "bool")=aa aj:=by decide +kernel
theorem Fu:dQ [] (.type "bool") (.type "int")=aa ah:=by decide +kernel
theorem KH:dQ [] (.type "bool") (.type "bool")=aa ah:=by decide +kernel
theorem Ip:dQ [] (.type "str") (.type "int")=aa aj:=by decide +kernel
theorem G5:dQ [] (.type "str") (.type "str")=aa ah:=by decide +kernel
theorem DV:dQ [] (.type "int") (.type "str")=aa aj:=by decide +kernel
theorem mH:dQ [] (.type "tuple") (.type "tuple")=aa ah:=by decide +kernel
theorem HW:dQ [] (.type "int") (.type "tuple")=aa aj:=by decide +kernel
theorem Gd:dQ [] (.type "NoneType") (.type "tuple")=aa aj:=by decide +kernel
theorem Ik:dQ [] (.type "str") (.type "tuple")=aa aj:=by decide +kernel
theorem AC:dQ [] (.type "list") (.type "tuple")=aa aj:=by decide +kernel
theorem Ex(bs:List Bool):kM (bs.map .bl)=aa bs:=by
 induction bs with
 |nil=>rfl
 |cons b bs c=>show(kM (bs.map .bl)).map (b::·)=_;rw[c];rfl
theorem Ab(bs:List Bool):oV [.lst (bs.map .bl)]=aa (.bl (bs.all id)):=by show(kM (bs.map .bl)).map _=_;rw[Ex];rfl
theorem GI(z s:Tx):ul a [↥z,↥s]=.ok (.val (.bl (z.all s.contains))) [↥z,↥s]:=by
 have b:=kg (cap:=[1]) (dt:=cZ) (de:=(d2 (gZ aj) (dV 0) (dV 1))) (ε:=[↥z,↥s]) (λ_=>ah) (λx=>match x with|.str [c]=>.bl (s.contains c)|_=>.non) (z.map λc=>.str [c])
  (by
   intro x f;obtain⟨c,_,rfl⟩:=gK.mp f;refine⟨by simp![cc,cL,bL,cZ],λ_=>?_⟩;have h:gZ aj (.str [c]) (.str s)=aa (.bl (s.contains c)):=by rw[<-El];simp[gZ]
   simp![cc,cL,bL,h]) []
 have g:((z.map λc=>PV.str [c]).filter (λ_=>ah)).map (λx=>match x with|.str [c]=>PV.bl (s.contains c)|_=>.non)=(z.map s.contains).map .bl:=by rw[rM.mpr (by simp),gn,gn];rfl
 rw[jb,g]at b;have e:(z.map s.contains).all id=z.all s.contains:=by rw[rG];rfl
 generalize z.map s.contains=bs at b e;have d:=Ab bs;rw[e]at d;simp![ul,yar,cm,bC,gc,b,d]
def fq(w:Int)(s z:Tx):Bool:=decide ((z.length:Int)=w)&&z.all s.contains
theorem EI(z s:Tx)(w:Int):lU a [↥z,⇑w,↥s]=.ok (.val (.bl (fq w s z))) [↥z,⇑w,↥s]:=by
 have d:d8 [.str z,.raw (.ty "str")]=aa (.bl ah):=g8 rfl G5;have e:=GI (a:=a) z s;have c:bp [.str z]=aa (.int (z.length:Nat)):=rfl;have b:=iX aj (z.length:Nat) w;unfold fq;by_cases h:((z.length:Nat):Int)=w
 .simp only[h,decide_true,Bool.xor_true,Bool.not_false]at b;simp![lU,yax,d,c,b,e,h]
 .simp only[h,decide_false,Bool.xor_false]at b;simp![lU,yax,d,c,b,h]
theorem FQ(i w:Int)(s:Tx):lU a [⇑i,⇑w,↥s]=.ok (.val (.bl aj)) [⇑i,⇑w,↥s]:=by have b:d8 [.int i,.raw (.ty "str")]=aa (.bl aj):=g8 rfl DV;simp![lU,yax,b]
theorem vp(d c:List Tx):eB (am d) (am c)=aa (decide (d=c)):=by
 induction d generalizing c with
 |nil=>cases c <;> simp[am,eB]
 |cons x d e=>
  cases c with
  |nil=>simp[am,eB]
  |cons y c=>
   show(b8 (.str x) (.str y)).bind (λa=>(eB (am d) (am c)).map λb=>a&&b)=_;rw[e];have:b8 (.str x) (.str y)=aa (decide (x=y)):=by
    show aa (tS x == tS y)=_;by_cases h:x=y
    .subst h;simp
    .have:tS x≠tS y:=λz=>h (vW z);simp[h,this]
   rw[this];simp[pP]
theorem vy(b:List Tx):dO (am b)=0:=by
 induction b with
 |nil=>rfl
 |cons x b c=>show max (gb (.str x)) (dO (am b))=0;rw[c];rfl
theorem J2(b:Bool)(c d:List Tx):Pu.eqT b (.lst (am c)) (.lst (am d))=aa (.bl (b^^decide (c=d))):=by show(if gb (.lst (am c))<=8 then(eB (am c) (am d)).map (λk=>PV.bl (b^^k))else ag)=_;rw[if_pos (by show dO (am c)+1<=8;rw[vy];decide),vp];rfl
theorem EU(b:List Tx)(w:Int)(s:Tx)(r:1<=b.length)(q:b.length<=9):iW a [.val (.tup (am b)),⇑w,↥s]=.ok (.val (.bl (b.all (fq w s)&&decide (b=aZ b)))) [.val (.tup (am b)),⇑w,↥s]:=by
 have g:d8 [.tup (am b),.raw (.ty "tuple")]=aa (.bl ah):=g8 rfl mH;have h:bp [.tup (am b)]=aa (.int (b.length:Nat)):=by simp[bp,f9]
 have l:(1:Int)<=(b.length:Nat):=∅
 have j:((b.length:Nat):Int)<=9:=∅
 have d:=kg (cap:=[1,2]) (dt:=cZ) (de:=(bh (a8 (lU a) (gV (dV 0) (gV (dV 1) (gV (dV 2) (Pu.bD))))))) (ε:=[.val (.tup (am b)),⇑w,↥s]) (λ_=>ah) (λx=>match x with|.str z=>.bl (fq w s z)|_=>.non) (am b)
  (by intro x n;obtain⟨z,_,rfl⟩:=gK.mp n;refine⟨by simp![cc,cL,bL,cZ],λ_=>?_⟩;have o:=EI (a:=a) z s w;simp![cc,cL,bL,o]) []
 have p:((am b).filter (λ_=>ah)).map (λx=>match x with|.str z=>PV.bl (fq w s z)|_=>.non)=(b.map (fq w s)).map .bl:=by rw[rM.mpr (by simp)];unfold am;rw[gn,gn];rfl
 rw[jb,p]at d;have f:(b.map (fq w s)).all id=b.all (fq w s):=by rw[rG];rfl
 generalize b.map (fq w s)=bs at d f;have e:=Ab bs;have m:b.length<=1000000:=∅
 have c:=J2 aj b (aZ b);cases i:b.all (fq w s)with
 |false=>rw[f,i]at e;simp![iW,yam,g,h,l,j,cm,bC,gc,d,e]
 |true=>rw[f,i]at e;simp only[Bool.false_xor]at c;simp![iW,yam,g,h,l,j,cm,bC,gc,d,e,ko,ff,mD,m,c]
theorem KD(b:List Tx)(w:Int)(s:Tx)(g:b.length=0\/9<b.length):iW a [.val (.tup (am b)),⇑w,↥s]=.ok (.val (.bl aj)) [.val (.tup (am b)),⇑w,↥s]:=by
 have c:d8 [.tup (am b),.raw (.ty "tuple")]=aa (.bl ah):=g8 rfl mH;have d:bp [.tup (am b)]=aa (.int (b.length:Nat)):=by simp[bp,f9]
 by_cases e:(1:Int)<=(b.length:Nat)
 .have f:¬((b.length:Nat):Int)<=9:=∅
  simp![iW,yam,c,d,e,f]
 .simp![iW,yam,c,d,e]
theorem Jn(i:Int):kN a [⇑i]=.ok (.val (.bl ah)) [⇑i]:=by have c:d8 [.int i,.raw (.ty "int")]=aa (.bl ah):=g8 rfl HH;have b:d8 [.int i,.raw (.ty "bool")]=aa (.bl aj):=g8 rfl Jw;simp![kN,yav,c,b]
theorem EL(b:Bool):kN a [.val (.bl b)]=.ok (.val (.bl aj)) [.val (.bl b)]:=by have d:d8 [.bl b,.raw (.ty "int")]=aa (.bl ah):=g8 rfl Fu;have c:d8 [.bl b,.raw (.ty "bool")]=aa (.bl ah):=g8 rfl KH;simp![kN,yav,d,c]
theorem Fg(x:Tx):kN a [↥x]=.ok (.val (.bl aj)) [↥x]:=by have b:d8 [.str x,.raw (.ty "int")]=aa (.bl aj):=g8 rfl Ip;simp![kN,yav,b]
theorem zW(i:Int):lc a [⇑i]=.ok (.val (.bl (decide (1<=i/\i<=4)))) [⇑i]:=by
 have h:=Jn (a:=a) i;by_cases b:1<=i
 .by_cases c:i<=4
  .simp![lc,yaw,h,b,c]
  .simp![lc,yaw,h,b,c]
 .simp![lc,yaw,h,b]
theorem Ay{x:PV}(h:kN a [.val x]=.ok (.val (.bl aj)) [.val x]):lc a [.val x]=.ok (.val (.bl aj)) [.val x]:=by simp![lc,yaw,h]
def eX(s:Tx)(w:Int)(ls:List Tx):Bool:=decide (1<=w/\w<=4)&&(decide (1<=ls.length/\ls.length<=9)&&(ls.all (fq w s)&&decide (ls=aZ ls)))
theorem xF(s:Tx)(w:Int)(b:List Tx):fe a [.val (.tup [.int w,.tup (am b)]),↥s]=.ok (.val (.bl (eX s w b))) [.val (.tup [.int w,.tup (am b)]),↥s]:=by
 have g:d8 [.tup [.int w,.tup (am b)],.raw (.ty "tuple")]=aa (.bl ah):=g8 rfl mH;have j:bp [.tup [.int w,.tup (am b)]]=aa (.int 2):=rfl;have e:=iX ah 2 2;simp only[decide_true,nD,uX]at e;have i:aO (.tup [.int w,.tup (am b)]) (.int 0)=aa (.int w):=rfl;have h:aO (.tup [.int w,.tup (am b)]) (.int 1)=aa (.tup (am b)):=rfl;have d:=zW (a:=a) w;unfold eX;by_cases c:1<=w/\w<=4
 .rw[decide_eq_true c]at d ⊢;by_cases f:1<=b.length/\b.length<=9
  .have l:=EU (a:=a) b w s f.1 f.2;rw[decide_eq_true f];simp![fe,yau,g,j,e,i,h,d,l]
  .have l:=KD (a:=a) b w s ∅;rw[decide_eq_false f];simp![fe,yau,g,j,e,i,h,d,l]
 .rw[decide_eq_false c]at d ⊢;simp![fe,yau,g,j,e,i,h,d]
abbrev vw(w:Int)(b:List Tx):Bool:=eX bo w b
theorem z8(w:Int)(b:List Tx):jJ a [.val (.tup [.int w,.tup (am b)])]=.ok (.val (.bl (vw w b))) [.val (.tup [.int w,.tup (am b)])]:=by have c:=xF (a:=a) bo w b;simp only[bo]at c;simp![jJ,yat,c];rfl
theorem Je{w:Int}{b:List Tx}(h:vw w b=ah):mM a [.val (.tup [.int w,.tup (am b)])]=.ok (.val .non) [.val (.tup [.int w,.tup (am b)])]:=by have c:=z8 (a:=a) w b;rw[h]at c;simp![mM,yao,c]
theorem Good.vw{w:Nat}{d:List Tx}(g:Good bo w d)(m:1<=w)(l:w<=4)(f:d.Pairwise (λa b=>cb a b=ah)):vw w d=ah:=by
 have j:d.all (fq w bo)=ah:=by rw[jV];intro x e;unfold fq;rw[g.len x e,decide_eq_true rfl,pI,jV];intro c h;simpa using g.abc x e c h
 have i:decide (d=aZ d)=ah:=decide_eq_true (m8 f).symm;show eX bo w d=ah;unfold eX;rw[j,i,decide_eq_true (show 1<=(w:Int)/\(w:Int)<=4 by lia),decide_eq_true (show 1<=d.length/\d.length<=9 from⟨g.some,g.few⟩)];rfl
theorem AB{x:PV}(h:fe a [.val x,↥bo]=.ok (.val (.bl aj)) [.val x,↥bo]):jJ a [.val x]=.ok (.val (.bl aj)) [.val x]:=by simp only[bo]at h;simp![jJ,yat,h]
theorem DD{x:PV}(h:jJ a [.val x]=.ok (.val (.bl aj)) [.val x]):mM a [.val x]=.er (.ref a.NoView) [.val x]:=by simp![mM,yao,h,qk,bL]
theorem GR(b:List Tx):fu [] b=b.flatten:=by
 induction b with
 |nil=>rfl
 |cons x b c=>
  cases b with
  |nil=>simp[fu]
  |cons y b=>show x++[]++fu [] (y::b)=_;rw[c];simp
theorem Ir(b:List Tx):b.flatten.count 46=cn b:=by unfold cn;rw[List.count_flatten]
theorem wk(x:PV)(h:fe a [.val x,↥eW]=.ok (.val (.bl aj)) [.val x,↥eW]):iT a [.val x]=.ok (.val (.bl aj)) [.val x]:=by have b:a9 (.str [46]) (.str [97,98,99])=aa (.str eW):=oJ (by decide);simp![iT,yas,b,h]
theorem BF(w:Int)(b:List Tx)(l:gf [] b<=bF):iT a [.val (.tup [.int w,.tup (am b)])]=.ok (.val (.bl (eX eW w b&&decide (cn b<=6)))) [.val (.tup [.int w,.tup (am b)])]:=by
 have d:=xF (a:=a) eW w b;cases i:eX eW w b with
 |false=>rw[i]at d;exact wk _ d
 |true=>
  rw[i]at d;have j:a9 (.str [46]) (.str [97,98,99])=aa (.str eW):=oJ (by decide);have f:aO (.tup [.int w,.tup (am b)]) (.int 1)=aa (.tup (am b)):=rfl;have g:kQ [] [.tup (am b)]=aa (.str b.flatten):=by show(fH (am b)).bind _=_;rw[mD,fm,if_pos l,GR]
  have h:sT b.flatten [.str [46]]=aa (.int ((cn b:Nat):Int)):=by show aa (PV.int ((b.flatten.count 46:Nat):Int))=_;rw[Ir]
  by_cases c:cn b<=6
  .have e:((cn b:Nat):Int)<=6:=∅
   simp![iT,yas,j,d,f,kj,tT,g,h,c,e]
  .have e:¬((cn b:Nat):Int)<=6:=∅
   simp![iT,yas,j,d,f,kj,tT,g,h,c,e]
theorem Ig{x:PV}(h:iT a [.val x]=.ok (.val (.bl ah)) [.val x]):mV a [.val x]=.ok (.val .non) [.val x]:=by simp![mV,yan,h]
theorem Jp{x:PV}(h:iT a [.val x]=.ok (.val (.bl aj)) [.val x]):mV a [.val x]=.er (.ref a.NoView) [.val x]:=by simp![mV,yan,h,qk,bL]
theorem sD(s:Tx){x:PV}{t:String}(h:pc x=aa t)(e:dQ [] (.type t) (.type "tuple")=aa aj):fe a [.val x,↥s]=.ok (.val (.bl aj)) [.val x,↥s]:=by have b:=g8 (T:="tuple") h e;simp![fe,yau,b]
theorem Aj(s:Tx){xs:List PV}(h:xs.length≠2):fe a [.val (.tup xs),↥s]=.ok (.val (.bl aj)) [.val (.tup xs),↥s]:=by
 have c:d8 [.tup xs,.raw (.ty "tuple")]=aa (.bl ah):=g8 rfl mH;have d:bp [.tup xs]=aa (.int (xs.length:Nat)):=rfl;have b:=iX ah (xs.length:Nat) 2;have:¬((xs.length:Nat):Int)=2:=∅
 simp only[this,decide_false,nD,Bool.not_false]at b;simp![fe,yau,c,d,b]
theorem zl(s:Tx){x y:PV}(h:lc a [.val x]=.ok (.val (.bl aj)) [.val x]):fe a [.val (.tup [x,y]),↥s]=.ok (.val (.bl aj)) [.val (.tup [x,y]),↥s]:=by have c:d8 [.tup [x,y],.raw (.ty "tuple")]=aa (.bl ah):=g8 rfl mH;have e:bp [.tup [x,y]]=aa (.int 2):=rfl;have b:=iX ah 2 2;simp only[decide_true,nD,uX]at b;have d:aO (.tup [x,y]) (.int 0)=aa x:=rfl;simp![fe,yau,c,e,b,d,h]
theorem A7(s:Tx){w:Int}{y:PV}(g:1<=w/\w<=4)(h:iW a [.val y,⇑w,↥s]=.ok (.val (.bl aj)) [.val y,⇑w,↥s]):fe a [.val (.tup [.int w,y]),↥s]=.ok (.val (.bl aj)) [.val (.tup [.int w,y]),↥s]:=by have d:d8 [.tup [.int w,y],.raw (.ty "tuple")]=aa (.bl ah):=g8 rfl mH;have i:bp [.tup [.int w,y]]=aa (.int 2):=rfl;have c:=iX ah 2 2;simp only[decide_true,nD,uX]at c;have f:aO (.tup [.int w,y]) (.int 0)=aa (.int w):=rfl;have e:aO (.tup [.int w,y]) (.int 1)=aa y:=rfl;have b:=zW (a:=a) w;rw[decide_eq_true g]at b;simp![fe,yau,d,i,c,f,e,b,h]
theorem Du(s:Tx)(xs:List PV)(w:Int):iW a [.val (.lst xs),⇑w,↥s]=.ok (.val (.bl aj)) [.val (.lst xs),⇑w,↥s]:=by have b:d8 [.lst xs,.raw (.ty "tuple")]=aa (.bl aj):=g8 rfl AC;simp![iW,yam,b]
theorem KS(s:Tx)(i w:Int):iW a [.val (.tup [.int i]),⇑w,↥s]=.ok (.val (.bl aj)) [.val (.tup [.int i]),⇑w,↥s]:=by have b:d8 [.tup [.int i],.raw (.ty "tuple")]=aa (.bl ah):=g8 rfl mH;have d:bp [.tup [.int i]]=aa (.int 1):=rfl;have c:=FQ (a:=a) i w s;have e:oV [.lst [.bl aj]]=aa (.bl aj):=rfl;simp![iW,yam,b,d,cm,bC,gc,gD,cc,cL,bL,cZ,c,e]
theorem kW(s:Tx){w:Int}{ls:List Tx}(h:eX s w ls=aj):fe a [.val (.tup [.int w,.tup (am ls)]),↥s]=.ok (.val (.bl aj)) [.val (.tup [.int w,.tup (am ls)]),↥s]:=by have:=xF (a:=a) s w ls;rwa[h]at this
def mX:List PV:=[.non,.int 5,.str [50,58,32,97,98],.lst [.int 1,.tup [.str [97]]],.tup [.int 1,.tup []],.tup [.int 2,.tup [.str [97]]],.tup [.int 0,.tup [.str []]],.tup [.int 5,.tup [.str [97,97,97,97,97]]],.tup [.bl ah,.tup [.str [97]]],.tup [.int 1,.tup [.str [98],.str [97]]],.tup [.int 1,.tup (dq 10 (.str [97]))],.tup [.int 1,.tup [.str [100]]],.tup [.int 1,.tup [.str [65]]],.tup [.int 1,.lst [.str [97]]],.tup [.int 1,.tup [.int 1]],.tup [.int 1],.tup [.int 1,.tup [.str [97]],.int 1],.tup [.str [49],.tup [.str [97]]]]
theorem y3(s:Tx)(d:¬100∈s)(c:¬65∈s):∀x∈mX,fe a [.val x,↥s]=.ok (.val (.bl aj)) [.val x,↥s]:=by
 intro x b;simp only[mX,dm,yA,or_false]at b;rcases b with rfl|rfl|rfl|rfl|rfl|rfl|rfl|rfl|rfl|rfl|rfl|rfl|rfl|rfl|rfl|rfl|rfl|rfl
 .exact sD s rfl Gd
 .exact sD s rfl HW
 .exact sD s rfl Ik
 .exact sD s rfl AC
 .exact kW s (w:=1) (ls:=[]) (by simp[eX])
 .exact kW s (w:=2) (ls:=[[97]]) (by simp[eX,fq])
 .exact kW s (w:=0) (ls:=[[]]) (by simp[eX])
 .exact kW s (w:=5) (ls:=[[97,97,97,97,97]]) (by simp[eX])
 .exact zl s (Ay (EL ah))
 .refine kW s (w:=1) (ls:=[[98],[97]]) ?_;have:¬[[98],[97]]=aZ [[98],[97]]:=λh=>by have r:=kr [[98],[97]];rw[<-h]at r;simp[cb]at r;exact absurd r (by decide)
  simp[eX,this]
 .exact kW s (w:=1) (ls:=dq 10 [97]) (by simp[eX])
 .exact kW s (w:=1) (ls:=[[100]]) (by simp[eX,fq,d,c])
 .exact kW s (w:=1) (ls:=[[65]]) (by simp[eX,fq,d,c])
 .exact A7 s (by decide) (Du s _ _)
 .exact A7 s (by decide) (KS s _ _)
 .exact Aj s (by decide)
 .exact Aj s (by decide)
 .exact zl s (Ay (Fg _))
theorem Kf:∀x∈mX,jJ a [.val x]=.ok (.val (.bl aj)) [.val x]:=λx b=>AB (y3 bo (by decide) (by decide) x b)
theorem HS:∀x∈mX,iT a [.val x]=.ok (.val (.bl aj)) [.val x]:=λx b=>wk x (y3 eW (by decide) (by decide) x b)
end
section
variable{a:Ad}
abbrev aD(w:Nat)(b:List Tx):PV:=.tup [.int w,.tup (am b)]
theorem v6(b:List Tx):gE (am b)=aa (cD b):=by
 induction b with
 |nil=>rfl
 |cons x b c=>show(cF (.str x)).bind (λv=>(gE (am b)).map (v::·))=_;rw[c];rfl
def tkD(ks:List (List Tx)):List (dU×PV):=ks.map λk=>(dR k,.bl ah)
theorem txKey_inj{k l:List Tx}:dR k=dR l↔k=l:=by
 constructor
 .intro h;have b:=vU k;rw[h,vU]at b;exact(cp b).symm
 .rintro rfl;rfl
theorem put_tkD(ks:List (List Tx))(k:List Tx):n8 (tkD ks) (dR k) (.bl ah)=tkD (addL ks k):=by
 have b:((tkD ks).any λc=>decide (c.1=dR k))=decide (k∈ks):=by
  unfold tkD;rw[List.any_map,i9,ma,decide_eq_true_iff];constructor
  .rintro⟨l,d,h⟩;have:dR l=dR k:=of_decide_eq_true h;rw[<-txKey_inj.mp this];exact d
  .intro h;exact⟨k,h,decide_eq_true rfl⟩
 unfold n8 addL;rw[b];by_cases h:k∈ks
 .rw[if_pos (decide_eq_true h),if_pos h];unfold tkD;rw[gn];refine uK λl _=>?_;by_cases e:dR l=dR k
  .simp[e]
  .simp[e]
 .rw[if_neg (by simpa using h),if_neg h];simp[tkD]
theorem tkey_tup(l:List Tx):lW (.tup (am l))=aa (dR l):=by
 show mI (am l)=_
 induction l with
 |nil=>rfl
 |cons x l b=>show(qt (.str x)).bind (λk=>(mI (am l)).map (k::·))=_;rw[b];rfl
theorem tkV_key(l:List Tx):jO (dR l)=.tup (am l):=by unfold jO dR am;rw[gn];congr 1
theorem tkD_len(ks:List (List Tx)):(tkD ks).length=ks.length:=by simp[tkD]
theorem tkD_ok{ks:List (List Tx)}(h:∀k∈ks,∀x∈k,x.length<=bF):vb (tkD ks)=ah:=by unfold vb tkD;rw[rG,jV];intro k c;show(dR k).all n5=ah;unfold dR;rw[rG,jV];intro x b;show decide ((tS x).cps.toList.length<=bF)=ah;rw[jK];exact decide_eq_true (h k c x b)
theorem sort2t{ls:List Tx}(h:ls.length<=1000000):ff [.tup (am ls)]=aa (.lst (am (aZ ls))):=by simp[ff,mD,h]
def cvB:ak->R aL:=tt 3 (dL f_ (ap (dF (dL ff (ap (d2 qX (dV 4) (dL bE (ap (dV 5) (ax)))) (ax)))) (ax))) (dC (.bl ah))
theorem cv_row(g f d h:Slot)(k:List Tx)(s:k.length<=20)(xs:List Tx)(b:List (List Tx))(u:b.length+xs.length<=900000):∃n,dj 5 cvB (am xs) [g,f,d,.own (.dT (tkD b)),.val (.tup (am k)),h]=.ok .next [g,f,d,.own (.dT (tkD ((xs.map λx=>aZ (k++[x])).foldl addL b))),.val (.tup (am k)),n]:=by
 induction xs generalizing b h with
 |nil=>exact⟨h,rfl⟩
 |cons x xs q=>
  have y:(addL b (aZ (k++[x]))).length<=b.length+1:=by unfold addL;split <;> simp
  simp only[eP]at u;obtain⟨n,v⟩:=q (↥x) (addL b (aZ (k++[x]))) ∅;refine⟨n,?_⟩;have l:qX (.tup (am k)) (.tup [.str x])=aa (.tup (am (k++[x]))):=by
   have e:am (k++[x])=am k++[.str x]:=by simp[am]
   rw[e];cases k with
   |nil=>rfl
   |cons z k=>
    show a9 (.tup (.str z::am k)) (.tup [.str x])=_;have:(am k).length+1+1<=1000:=by rw[f9];simp at s;lia
    simp[a9];constructor
    .lia
    .rfl
  have j:=sort2t (ls:=k++[x]) (by simp;lia);have o:f_ [.lst (am (aZ (k++[x])))]=aa (.tup (am (aZ (k++[x])))):=rfl;have m:=tkey_tup (aZ (k++[x]));have i:=put_tkD b (aZ (k++[x]));have p:(tkD b).length<bF:=by rw[tkD_len];unfold bF;lia
  have w:cvB [g,f,d,.own (.dT (tkD b)),.val (.tup (am k)),↥x]=.ok .next [g,f,d,.own (.dT (tkD (addL b (aZ (k++[x]))))),.val (.tup (am k)),↥x]:=by generalize am (aZ (k++[x]))=Y at j o m;generalize am (k++[x])=Z at j l;generalize tkD (addL b (aZ (k++[x])))=D2 at i;generalize dR (aZ (k++[x]))=Ky at i m;generalize tkD b=D1 at i p;generalize am k=B at l;simp![cvB,tt,l,j,o,iO,m,p,i]
  show(match cvB ([g,f,d,.own (.dT (tkD b)),.val (.tup (am k)),h].set 5 (↥x))with
   |.ok .next c=>dj 5 cvB (am xs) c
   |.ok .cont c=>dj 5 cvB (am xs) c
   |.ok .brk c=>.ok .next c
   |r=>r)=_
  rw[show [g,f,d,.own (.dT (tkD b)),.val (.tup (am k)),h].set 5 (↥x)=[g,f,d,.own (.dT (tkD b)),.val (.tup (am k)),↥x] from rfl,w];exact v
def cvF(a:Ad):ak->R aL:=cO 5 (bC (bh (a8 (oC a) (gV (dV 2) (Pu.bD))))) cvB
theorem cv_for(b:Tx)(m:b.length<=40)(i:b.count 46<=6)(e d f:Slot)(k:List Tx)(l:k.length<=20)(c:List (List Tx))(p:c.length<=800000):∃g,cvF a [e,d,↥b,.own (.dT (tkD c)),.val (.tup (am k)),f]=.ok .next [e,d,↥b,.own (.dT (tkD ((nextW b k).foldl addL c))),.val (.tup (am k)),g]:=by
 have h:=wtf_eq (a:=a) b m i;obtain⟨g,o⟩:=cv_row e d (↥b) f k l (fills b) c (by rw[fills_len];have:=pow6 i;lia);refine⟨g,?_⟩;have j:gc (.lst (am (fills b)))=aa (am (fills b)):=rfl;have n:(bC (bh (a8 (oC a) (gV (dV 2) (Pu.bD))))) [e,d,↥b,.own (.dT (tkD c)),.val (.tup (am k)),f]=.ok (am (fills b)) [e,d,↥b,.own (.dT (tkD c)),.val (.tup (am k)),f]:=by generalize am (fills b)=FB at h j;simp![bC,h,j]
 unfold cvF cO;rw[n];exact o
theorem cv_all(b:Tx)(A:b.length<=40)(q:b.count 46<=6)(V d c:Slot)(ks:List (List Tx))(o:∀k∈ks,k.length<=20/\∀x∈k,x.length<=50)(n:ks.length<=1000):∃h f,oI 4 1 (cvF a) [V,.own (.dT (tkD ks)),↥b,.own (.dT []),d,c]=.ok .next [V,.own (.dT (tkD ks)),↥b,.own (.dT (tkD (stepW ks b))),h,f]:=by
 have g:(tkD ks).map (λp=>jO p.1)=ks.map λk=>.tup (am k):=by unfold tkD;rw[gn];exact uK λk _=>tkV_key k
 obtain⟨u,s,h,f,p,rest,e,w,rfl⟩:=pe (i:=4) (db:=cvF a)
  (I:=λr ε=>∃(d c:Slot) (p rest:List (List Tx)),ks=p++rest/\r=rest.map (λk=>PV.tup (am k))/\ε=[V,.none,↥b,.own (.dT (tkD ((p.flatMap (nextW b)).foldl addL []))),d,c])
  (by
   rintro x r ε ⟨d,c,p,rest,e,l,rfl⟩;cases rest with
   |nil=>cases l
   |cons k rest=>
    simp only[eF,pP]at l;obtain⟨rfl,rfl⟩:=l;have E:((p.flatMap (nextW b)).foldl addL []).length<=800000:=by
     have j:=addF_len (p.flatMap (nextW b)) [];rw[next_len]at j;have C:=pow6 q;have B:p.length<=1000:=by rw[e]at n;simp at n;lia
     have G:p.length*3^b.count 46<=1000*729:=ye B C;simp at j;lia
    obtain⟨f,j⟩:=cv_for (a:=a) b A q V .none c k (o k (by rw[e];simp)).1 ((p.flatMap (nextW b)).foldl addL []) E;refine⟨_,j,.val (.tup (am k)),f,p++[k],rest,by rw[e];simp,rfl,?_⟩;rw[List.flatMap_append,yE];simp)
  (ks.map λk=>.tup (am k)) [V,.none,↥b,.own (.dT (tkD (([].flatMap (nextW b)).foldl addL []))),d,c] ⟨d,c,[],ks,rfl,rfl,rfl⟩
 have D:rest=[]:=by cases rest with|nil=>rfl|cons=>cases w
 subst D;rw[i_]at e;rw[<-e]at s;refine⟨h,f,?_⟩;have m:=tkD_ok (ks:=ks) λk v x y=>by have:=(o k v).2 x y;unfold bF;lia
 unfold oI;have z:iO [V,.own (.dT (tkD ks)),↥b,.own (.dT []),d,c] 1=aa (tkD ks):=rfl;rw[z];simp only[cQ,R.bind_ok];rw[if_pos m,g];have F:dj 4 (cvF a) (ks.map λk=>.tup (am k)) ([V,.own (.dT (tkD ks)),↥b,.own (.dT []),d,c].set 1 .none)=.ok .next [V,.none,↥b,.own (.dT (tkD ((ks.flatMap (nextW b)).foldl addL []))),h,f]:=s;rw[F];rfl
theorem ways_shape{d:List Tx}{k:List Tx}(h:k∈waysF d):k.length=d.length/\k.Pairwise (λa b=>cb a b=ah)/\∀x∈k,∃b∈d,Fit x b:=by
 obtain⟨xs,rfl,f⟩:=waysF_mem.mp h;refine⟨by rw[(gY xs).length_eq];exact ku f,kr _,λx e=>?_⟩;have c:=(gY xs).mem_iff.mp e;clear e h
 induction f with
 |nil=>cases c
 |cons r _ g=>
  rcases dm.mp c with rfl|c
  .exact⟨_,by simp,r⟩
  .obtain⟨b,j,i⟩:=g c;exact⟨b,by simp[j],i⟩
theorem dots_app(c b:List Tx):cn (c++b)=cn c+cn b:=by simp[cn]
theorem dots_mem{c:List Tx}{b:Tx}(h:b∈c):b.count 46<=cn c:=by
 induction c with
 |nil=>cases h
 |cons x c d=>
  have e:cn (x::c)=x.count 46+cn c:=by simp[cn]
  rcases dm.mp h with rfl|h
  .lia
  .have:=d h;lia
def cvO(a:Ad):ak->R aL:=aX (fg 3 ua) (aX (oI 4 1 (cvF a)) (qS 1 3))
theorem d_clearing_views_def:yap a=aX (fg 1 (qT (dL bE (ax)) (dC (.bl ah)))) (aX (λε=>d4 (cO 2 (bC (d2 aO (dV 0) (dC (.int 1)))) (cvO a) ε)) (qb (cm [0] (bC (dF (qO 1))) (cZ) (dL bE (ap (d2 aO (dV 1) (dC (.int 0))) (ap (dV 0) (ax))))))):=rfl
theorem clearing_eq{w:Nat}{d:List Tx}(g:Good eW w d)(w4:w<=4)(M:cn d<=6):uf a [.val (aD w d)]=.ok (.own (.lst ((eC (waysF d)).map λk=>prV (w,k)))) [.val (aD w d)]:=by
 have s:=g.few;have W:=g.some;obtain⟨P,q,n,m,j,h,p,rest,l,S,rfl⟩:=pe (i:=2) (db:=cvO a)
  (I:=λr ε=>∃(n m j h:Slot) (p rest:List Tx),d=p++rest/\r=am rest/\ε=[.val (aD w d),.own (.dT (tkD (waysF p))),n,m,j,h])
  (by
   rintro x r ε ⟨n,m,j,h,p,rest,l,L,rfl⟩;cases rest with
   |nil=>cases L
   |cons b rest=>
    have H:x::r=.str b::am rest:=L;simp only[pP]at H;obtain⟨rfl,rfl⟩:=H;have J:b∈d:=by rw[l];simp
    have Y:=g.len b J;have F:b.count 46<=6:=cK (dots_mem J) M;have D:cn p<=6:=by have:=dots_app p (b::rest);rw[<-l]at this;lia
    have T:=waysF_len p;have:=pow6 D;have C:p.length<=9:=by rw[l]at s;simp at s;lia
    obtain⟨K,O,o⟩:=cv_all (a:=a) b ∅ F (.val (aD w d)) j h (waysF p) (λk u=>⟨by rw[(ways_shape u).1];lia,λx v=>by obtain⟨c,f,E⟩:=(ways_shape u).2.2 x v;rw[E.len,g.len c (by rw[l];simp[f])];lia⟩) ∅;have e:stepW (waysF p) b=waysF (p++[b]):=by unfold waysF;rw[yE];rfl
    rw[e]at o;refine⟨[.val (aD w d),.own (.dT (tkD (waysF (p++[b])))),↥b,.none,K,O],?_,↥b,.none,K,O,p++[b],rest,by rw[l];simp,rfl,rfl⟩;generalize tkD (waysF (p++[b]))=D2 at o;generalize tkD (waysF p)=D1 at o;refine(cU (ε1:=[.val (aD w d),.own (.dT D1),↥b,.own (.dT []),j,h]) (by simp![ua])).trans ?_;refine(cU o).trans ?_;simp[qS])
  (am d) [.val (aD w d),.own (.dT (tkD (waysF []))),.none,.none,.none,.none] ⟨.none,.none,.none,.none,[],d,rfl,rfl,rfl⟩
 have Z:rest=[]:=by cases rest with|nil=>rfl|cons=>cases S
 subst Z;rw[i_]at l;rw[<-l]at q;have z:aO (aD w d) (.int 1)=aa (.tup (am d)):=rfl;have A:aO (aD w d) (.int 0)=aa (.int w):=rfl;have N:gc (.tup (am d))=aa (am d):=rfl;have y:sZ (tkD (waysF d))=aa (.lst ((eC (waysF d)).map lK)):=by
  have Le:(waysF d).length<=1000000/\∀k∈waysF d,k≠[]/\∀x∈k,x.length<=bF:=by
   refine⟨?_,λk u=>⟨?_,λx v=>?_⟩⟩
   .have:=waysF_len d;have:=pow6 M;lia
   .rintro rfl;have:=(ways_shape u).1;simp at this;lia
   .obtain⟨c,f,E⟩:=(ways_shape u).2.2 x v;rw[E.len,g.len c f];unfold bF;lia
  unfold sZ tkD;rw[Ih,fm,if_pos Le]
 have f:=kg (cap:=[0]) (dt:=cZ) (de:=(dL bE (ap (d2 aO (dV 1) (dC (.int 0))) (ap (dV 0) (ax))))) (ε:=[.val (aD w d),.own (.dT (tkD (waysF d))),n,m,j,h]) (λ_=>ah) (λx=>.tup [.int w,x]) ((eC (waysF d)).map lK)
  (by intro x v;generalize aD w d=V at A;generalize ((w:Nat):Int)=WI at A;refine⟨by simp![cc,cL,bL,cZ],λ_=>?_⟩;simp![cc,cL,bL,A]) []
 rw[jb,rM.mpr (by simp),gn]at f;have X:(eC (waysF d)).map ((λx=>PV.tup [.int w,x]) ∘ lK)=(eC (waysF d)).map λk=>prV (w,k):=rfl;rw[X]at f;have G:gc (.lst ((eC (waysF d)).map lK))=aa ((eC (waysF d)).map lK):=rfl;have o:(fg 1 (qT (dL bE (ax)) (dC (.bl ah)))) [.val (aD w d),.none,.none,.none,.none,.none]=.ok .next [.val (aD w d),.own (.dT (tkD (waysF []))),.none,.none,.none,.none]:=by simp![qT,lW,mI,waysF,tkD,dR]
 have Q:yap a [.val (aD w d),.none,.none,.none,.none,.none]=.ok (.ret (.own (.lst ((eC (waysF d)).map λk=>prV (w,k))))) [.val (aD w d),.own (.dT (tkD (waysF d))),n,m,j,h]:=by
  rw[d_clearing_views_def];refine(cU o).trans ?_;generalize (eC (waysF d)).map (λk=>prV (w,k))=RV at f;generalize (eC (waysF d)).map lK=RT at f y G;generalize tkD (waysF d)=D2 at q f y;generalize tkD (waysF [])=D0 at q;generalize am d=B at q z N;generalize aD w d=V at q z f;refine(cU (ε1:=[.val V,.own (.dT D2),n,m,j,h]) ?_).trans ?_
  .simp![d4,cO,bC,z,N,q]
  .simp![qb,cm,bC,qO,iO,y,G,f]
 simp[uf,bO,e_,bN,dq,Q,back,gz,a_,R.bind]
end
end Sh
namespace Mx
open L2 Pu
def nh(z:Tx)(i:Nat):Nat:=z.getD (i % z.length) 0
def F6(z:Tx)(w:Nat):Tx:=((dq w z).flatten).take (z.length+w-1)
end Mx
namespace Sh
open L2 Pu Mx
section
variable{a:Ad}
def zC(t:Tx)(v:Nat):List Tx:=(cW (t.length+1-v)).map λi=>(t.drop i).take v
def qv(b c:Nat):List Nat:=List.range' b (c-b)
def part(t:Tx)(i j:Nat):Tx:=(t.drop i).take (j-i)
def nh(b:List Tx)(i:Nat):Tx:=b.getD i []
def IL(t:Tx)(s e g l:Nat):Tx:=t.take s++part t g l++part t e g++part t s e++t.drop l
def IT(t:Tx)(b:List Tx)(s g e:Nat):List Tx:=(qv (g+1) b.length).flatMap λl=>if nh b e=nh b l then [IL t s e g l] else []
def Gi(t:Tx)(b:List Tx)(s g:Nat):List Tx:=(qv (s+1) (g+1)).flatMap λe=>IT t b s g e
end
section
variable{a:Ad}
def D_(t:Tx)(b:List Tx)(s:Nat):List Tx:=(qv (s+1) b.length).flatMap λg=>if nh b s=nh b g then Gi t b s g else []
def HP(t:Tx)(b:List Tx):List Tx:=(qv 0 b.length).flatMap λs=>D_ t b s
def Di(t:Tx)(m w:Nat):List Tx:=(qv 1 m).map λp=>F6 ((t.take m).drop p++(t.take m).take p) w
def GG(t:Tx)(b:List Tx)(w:Nat):List Tx:=if nh b 0=nh b (b.length-1)then Di t (b.length-1) w else []
def EX(t:Tx)(w:Nat):List Tx:=HP t (zC t (w-1))++GG t (zC t (w-1)) w
end
end Sh
namespace Mx
open L2 Pu
def IP(t:Tx)(w:Nat):List Tx:=(Az t.length).filter λz=>(ge z w).isPerm (ge t w)
end Mx
namespace Sh
open L2 Pu Mx
section
variable{v:Nat}
def oc(v:Nat)(M:List Tx)(y:Tx):Nat:=(M.map λx=>if x.take v=y then 1 else 0).sum
abbrev en(v:Nat)(t:Tx):Tx:=t.drop (t.length-v)
abbrev b2(p:Prop)[Decidable p]:Nat:=if p then 1 else 0
end
inductive WN(w:Nat):Nat->Tx->Tx->Prop
 |here (n:Nat) (t:Tx):WN w n t t
 |on {n:Nat}{t u z:Tx}:WN w n t u->z∈EX u w->WN w (n+1) t z
def Full(w:Nat)(t:Tx)(k:Nat):Prop:=∀z∈IP t w,WN w k t z
abbrev ks(m:List (Tx×Int)):List Tx:=m.map (·.1)
def b1(p:Prop)[Decidable p]:Int:=if p then 1 else 0
def exc(a:List Tx)(y:Tx):Int:=(a.map λx=>b1 (x.dropLast=y)-b1 (x.tail=y)).sum
section
variable{a:Ad}
def f2(a:Ad):ak->R aL:=bR 2 (dF (cm [1] (bC (dF (Km 1))) (dB (d2 (fz λi j=>decide (j<i)) (BD 1 (dV 0)) (dC (.int 0)))) (dV 0)))
def f3:ak->R aL:=cI (dB (d2 (fz λi j=>decide (j<i)) (dL bp (ap (dV 2) (ax))) (dC (.int 1)))) (b0 (dL bE (ap (dC (.str [116,119,111])) (ap (d2 aO (dV 2) (dC (.int 0))) (ap (d2 aO (dV 2) (dC (.int 1))) (ax)))))) (dN)
def f4:ak->R aL:=cI (vz (dB (d2 (eqT aj) (dL bp (ap (dV 2) (ax))) (dC (.int 1)))) (dB (d2 (fz λi j=>decide (j<i)) (BD 1 (d2 aO (dV 2) (dC (.int 0)))) (dC (.int 1))))) (b0 (dL bE (ap (dC (.str [109,111,114,101])) (ap (d2 aO (dV 2) (dC (.int 0))) (ax))))) (dN)
structure Blur(w:Nat)(ms:List Tx):Prop where
 g:Good eW w ms
 w1:1<=w
 w4:w<=4
 d6:cn ms<=6
 rises:ms.Pairwise (λa b=>cb a b=ah)
theorem Good.vwB{w:Nat}{d:List Tx}(g:Good eW w d)(n:1<=w)(m:w<=4)(f:d.Pairwise (λa b=>cb a b=ah)):eX eW w d=ah:=by
 have l:d.all (fq w eW)=ah:=by rw[jV];intro x e;unfold fq;rw[g.len x e,decide_eq_true rfl,pI,jV];intro c h;simpa using g.abc x e c h
 have j:=g.some;have i:=g.few;unfold eX;rw[l,decide_eq_true (show(1:Int)<=(w:Nat)/\((w:Nat):Int)<=4 by lia),decide_eq_true ⟨j,i⟩,decide_eq_true (m8 f).symm];rfl
theorem wt_small{w:Nat}:∀{ls:List Tx},(∀x∈ls,x.length=w)->gf [] ls<=ls.length*w
 |[],_=>by simp[gf]
 |[x],h=>by have:=h x (by simp);simp[gf,this]
 |x::y::r,h=>by
  have d:=h x (by simp);have c:=wt_small (ls:=y::r) λz b=>h z (by simp[b]);simp only[eP]at c ⊢;have e:gf [] (x::y::r)=x.length+0+gf [] (y::r):=by simp[gf]
  rw[e,d,Nat.succ_mul];lia
theorem blur_yes{w:Nat}{c:List Tx}(b:Blur w c):mV a [.val (aD w c)]=.ok (.val .non) [.val (aD w c)]:=by
 have g:=wt_small b.g.len;have f:=b.g.few;have d:=b.w4;have e:gf [] c<=bF:=by have:c.length*w<=9*4:=ye f d;unfold bF;lia
 have:=BF (a:=a) w c e;rw[b.g.vwB b.w1 b.w4 b.rises,decide_eq_true b.d6]at this;exact Ig this
def vwsP(w:Nat)(ks:List (List Tx)):List PV:=ks.map λk=>aD w k
theorem eqP_vw(w v:Nat)(k d:List Tx):b8 (aD w k) (aD v d)=aa (decide (w=v)&&decide (k=d)):=by
 show eB [.int w,.tup (am k)] [.int v,.tup (am d)]=_;have f:b8 (.int w) (.int v)=aa (decide (w=v)):=by show(cF (.int v)).map (dS (.int w))=_;show aa (dS (V.int w) (V.int v))=_;congr 1;show((w:Int) == (v:Int))=_;rw[i9,beq_iff_eq,decide_eq_true_iff];lia
 have e:b8 (.tup (am k)) (.tup (am d))=aa (decide (k=d)):=by show eB (am k) (am d)=_;exact vp k d
 show(b8 (.int w) (.int v)).bind (λa=>((b8 (.tup (am k)) (.tup (am d))).bind λb=>(eB [] []).map λc=>b&&c).map λb=>a&&b)=_;rw[f,e];simp[eB]
theorem eqAny_vw(w v:Nat)(c:List Tx):∀ks:List (List Tx),lQ (vwsP w ks) (aD v c)=aa (decide (w=v)&&decide (c∈ks))
 |[]=>by simp[lQ,vwsP]
 |k::ks=>by
  show(b8 (aD w k) (aD v c)).bind (λa=>(lQ (vwsP w ks) (aD v c)).map λb=>a||b)=_;rw[eqP_vw,eqAny_vw w v c ks];simp only[fm,uV];congr 1;by_cases f:w=v
  .by_cases d:k=c
   .simp[f,d]
   .have:¬c=k:=λe=>d e.symm;simp[f,d,this]
  .simp[f]
theorem deps_vws(w:Nat):∀ks:List (List Tx),dO (vwsP w ks)<=8
 |[]=>by simp[vwsP,dO]
 |k::ks=>by
  show max (gb (aD w k)) (dO (vwsP w ks))<=8;have c:=deps_vws w ks;have b:gb (aD w k)<=8:=by show max (gb (.int w)) (max (dO (am k)+1) (dO []))+1<=8;rw[vy];simp[gb,dO]
  lia
theorem clears_eq{w v:Nat}{c d:List Tx}(b:Blur w c)(g:Good bo v d)(l:1<=v)(j:v<=4)(m:d.Pairwise (λa b=>cb a b=ah)):jD a [.val (aD w c),.val (aD v d)]=.ok (.val (.bl (decide (w=v)&&decide (d∈waysF c)))) [.val (aD w c),.val (aD v d)]:=by
 have i:=blur_yes (a:=a) b;have h:mM a [.val (aD v d)]=.ok (.val .non) [.val (aD v d)]:=Je (a:=a) (g.vw l j m);have e:=clearing_eq (a:=a) b.g b.w4 b.d6;have n:((eC (waysF c)).map λk=>prV ((w:Int),k))=vwsP w (eC (waysF c)):=rfl;rw[n]at e;have f:sG (aD v d) (.lst (vwsP w (eC (waysF c))))=aa (.bl (decide (w=v)&&decide (d∈waysF c))):=by show(if dO (vwsP w (eC (waysF c)))<=8 then(lQ (vwsP w (eC (waysF c))) (aD v d)).map PV.bl else ag)=_;rw[if_pos (deps_vws w _),eqAny_vw,uV];congr 3;rw[decide_eq_decide,(wF (waysF c)).mem_iff]
 generalize (decide (w=v)&&decide (d∈waysF c))=B at f;generalize vwsP w (eC (waysF c))=R0 at f e;generalize aD w c=V at i e;generalize aD v d=W at h f;simp![jD,yaq,i,h,e,f]
end
section
variable{a:Ad}
def lstsP(b:List (List Tx)):List PV:=b.map λr=>.lst (am r)
theorem lstsP_app(x y:List (List Tx)):lstsP (x++y)=lstsP x++lstsP y:=by simp[lstsP]
theorem lstsP_len(x:List (List Tx)):(lstsP x).length=x.length:=by simp[lstsP]
theorem eqT_nil(b:Bool)(c:List Tx):Pu.eqT b (.lst (am c)) (.lst [])=aa (.bl (b^^decide (c=[]))):=by show(if gb (.lst (am c))<=8 then(eB (am c) (am [])).map (λk=>PV.bl (b^^k))else ag)=_;rw[if_pos (by show dO (am c)+1<=8;rw[vy];decide),vp];rfl
end
theorem paired_perm{e d:Type}{g:e->d->Prop}{m f:List d}(p:m.Perm f):∀{l:List e},c7 g l m->∃a,l.Perm a/\c7 g a f:=by
 induction p with
 |nil=>intro l h;cases h;exact⟨[],.nil,.nil⟩
 |cons x _ u=>
  intro l h;cases h with
  |cons r h=>obtain⟨a,q,z⟩:=u h;exact⟨_::a,q.cons _,.cons r z⟩
 |swap x y r=>
  intro l h;cases h with
  |cons j h=>cases h with
   |cons i h=>exact⟨_,List.Perm.swap ..,.cons i (.cons j h)⟩
 |trans _ _ c b=>intro l h;obtain⟨A,o,w⟩:=c h;obtain⟨s,n,v⟩:=b w;exact⟨s,o.trans n,v⟩
theorem paired_set{b a:Type}{c:b->a->Prop}:∀{l:List b}{m:List a}{i:Nat}{x:b}{y:a},c7 c l m->l[i]?=aa x->c x y->c7 c l (m.set i y)
 |_,_,0,x,y,.cons r t,h,hy=>by simp at h;subst h;exact .cons hy t
 |_,_,i+1,x,y,.cons r t,h,hy=>.cons r (paired_set t (by simpa using h) hy)
 |_,_,_,_,_,.nil,h,_=>by simp at h
theorem fit_self:∀{x:Tx},(∀c∈x,c∈bo)->Fit x x
 |[],_=>.nil
 |c::x,h=>.cons (opts_mem.mpr (.inr ⟨by rintro rfl;have:=h 46 (by simp);simp[bo]at this,rfl⟩)) (fit_self λd a=>h d (by simp[a]))
theorem fit_dot:∀{x b:Tx} (u:Nat),(∀c∈x,c∈bo)->Fit x b->Fit x (b.set u 46)
 |_,_,_,_,.nil=>.nil
 |_,_,0,h,.cons r t=>.cons (opts_mem.mpr (.inl ⟨rfl,h _ (by simp)⟩)) t
 |_,_,u+1,h,.cons r t=>.cons r (fit_dot u (λc a=>h c (by simp[a])) t)
theorem pairedFit_self:∀{a:List Tx},(∀x∈a,∀c∈x,c∈bo)->c7 Fit a a
 |[],_=>.nil
 |x::a,h=>.cons (fit_self (h x (by simp))) (pairedFit_self λy b=>h y (by simp[b]))
theorem Good.dots0{w:Nat}{a:List Tx}(g:Good bo w a):cn a=0:=by
 unfold cn;have:∀x∈a,x.count 46=0:=λx h=>List.count_eq_zero.mpr λd=>by have:=g.abc x h 46 d;simp[bo]at this
 clear g
 induction a with
 |nil=>rfl
 |cons x a b=>rw[eF,rK,this x (by simp),b λy c=>this y (by simp[c])]
theorem Good.dab{w:Nat}{a:List Tx}(g:Good bo w a):Good eW w a:=⟨g.len,λx h c b=>by have:=g.abc x h c b;simp[bo]at this;simp[eW];lia,g.some,g.few⟩
theorem Good.blur{w:Nat}{c:List Tx}(g:Good bo w c)(e:1<=w)(d:w<=4)(f:c.Pairwise (λa b=>cb a b=ah)):Blur w c:=⟨g.dab,e,d,by rw[g.dots0];decide,f⟩
theorem fit_eq:∀{x b:Tx},(∀c∈b,c∈bo)->Fit x b->x=b
 |_,_,_,.nil=>rfl
 |_,_,h,.cons r t=>by
  rcases opts_mem.mp r with⟨rfl,_⟩|⟨_,rfl⟩
  .have:=h 46 (by simp);simp[bo]at this
  .rw[fit_eq (λc a=>h c (by simp[a])) t]
theorem ways_self{w:Nat}{c:List Tx}(g:Good bo w c)(d:c.Pairwise (λa b=>cb a b=ah)):waysF c=[c]:=by
 have j:∀k,k∈waysF c↔k∈[c]:=λk=>by
  rw[waysF_mem,jr];constructor
  .rintro⟨xs,rfl,e⟩;have:xs=c:=by
    have f:=g.abc;clear g d
    induction e with
    |nil=>rfl
    |cons r _ h=>rw[fit_eq (f _ (by simp)) r,h λx i=>f x (by simp[i])]
   rw[this,m8 d]
  .rintro rfl;exact⟨k,(m8 d).symm,pairedFit_self g.abc⟩
 have e:=(List.perm_ext_iff_of_nodup (waysF_nodup c) (by simp)).mpr j;exact List.perm_singleton.mp e
section
variable{a:Ad}
theorem blurredN_eq(o:List Int)(xs:List PV)(w:Nat)(e:List Tx)(f:Nat)(h6:f<=6)(w1:1<=w)(w4:w<=4)(hx:xs.length<=200)(g:Good bo w e)(hs:e.Pairwise (λa b=>cb a b=ah)):∃(d:List Tx) (j:List PV),Blur w d/\cn d<=f/\e∈waysF d/\j.length<=300 /\ qK a [aY o,.own (.lst xs),.val (aD w e),⇑f]=.ok (.val (aD w d)) [aY o,.own (.lst j),.val (aD w e),⇑f]:=by
 obtain⟨m,m0,m1,X⟩:=i6 (a:=a) o xs ((f:Nat)+1) ∅ ∅;obtain⟨n,rfl⟩:∃n:Nat,m=n:=⟨m.toNat,∅⟩
 have hr:gA [.int n]=aa (c9 0 n):=oZ ∅;have bq:(c9 0 n).length=n:=by simp[c9]
 have g0:Good eW w e:=g.dab;have d0:cn e=0:=g.dots0;obtain⟨Z,Y,j,d,E,rfl,p,hd,hy,s⟩:=sW (i:=5) (db:=(t0 4 (bh (a8 (dW a) (gV (dV 0) (gO 1 (gV (qg 4) (Pu.bD)))))) (bh (a8 (dW a) (gV (dV 0) (gO 1 (gV (d2 aO (dV 2) (dC (.int 0))) (Pu.bD)))))) (dC (.str [46]))))
  (I:=λk B=>∃j d E,B=[aY o,.own (.lst j),.val (.tup [.int w,.tup (am e)]),⇑f,.own (.lls (d.map dA)),E]/\Good eW w d/\cn d<=k/\j.length<=xs.length+1+2*k/\c7 Fit e d) (N:=n)
  (by
   rintro k B x hk ⟨j,d,E,rfl,p,hd,hy,s⟩;have hll:e.length=d.length:=ku s;obtain⟨v,v0,v1,hv⟩:=i6 (a:=a) o j (d.length:Nat) (by have:=p.some;lia) ∅;obtain⟨u,u0,u1,W⟩:=i6 (a:=a) o (j++[.int 0]) (w:Nat) ∅ (by simp;lia);have J:v.toNat<d.length:=∅
   obtain⟨q,D⟩:∃q,d[v.toNat]?=aa q:=⟨_,dY J⟩
   obtain⟨C,F⟩:∃C,e[v.toNat]?=aa C:=⟨_,dY ∅⟩
   have z:q∈d:=kB D;have A:=p.len q z;have hf:Fit C q:=by
    have:∀{l m:List Tx} (i:Nat) (x y:Tx),c7 Fit l m->l[i]?=aa x->m[i]?=aa y->Fit x y:=by
     intro l m i x y r
     induction r generalizing i with
     |nil=>intro h;simp at h
     |cons r _ ih=>
      intro S Q;cases i with
      |zero=>simp at S Q;subst S Q;exact r
      |succ i=>exact ih i (by simpa using S) (by simpa using Q)
    exact this _ _ _ s F D
   refine⟨[aY o,.own (.lst (j++[.int 0]++[.int 0])),.val (.tup [.int w,.tup (am e)]),⇑f,.own (.lls ((d.set v.toNat (q.set u.toNat 46)).map dA)),.val x],?_,_,_,_,rfl,p.put (by simp[A]) (λc O=>?_),?_,by simp;lia,paired_set s F (fit_dot _ (g.abc C (kB F)) hf)⟩
   .have T:fE (d.map dA).length v=aa v.toNat:=ui v0 (by rw[cr];exact v1);have i2:fE (dA q).length u=aa u.toNat:=ui u0 (by rw[Iw,A];exact u1);have i3:(d.map dA)[v.toNat]?=aa (dA q):=by rw[fN,D];rfl
    have H:aO (.tup [.int w,.tup (am e)]) (.int 0)=aa (.int w):=rfl;have G:(d.map dA).length=d.length:=cr _;simp only[nA,uU,jb]at W;simp only[cr]at T;generalize ((f:Nat):Int)=M6;simp![t0,qg,jm,G,hv,T,i3,H,W,i2,Kw,<-map_set]
   .rcases C6 O with O|rfl
    .exact p.abc q z c O
    .simp[eW]
   .have:=Fo d v.toNat q (q.set u.toNat 46) D (DM q u.toNat 46);lia)
  (c9 0 n) 0 [aY o,.own (.lst (xs++[.int 0])),.val (.tup [.int w,.tup (am e)]),⇑f,.own (.lls (e.map dA)),.none] ∅ ⟨xs++[.int 0],e,.none,rfl,g0,∅,by simp,pairedFit_self g.abc⟩
 have L:cn (aZ d)<=f:=by rw[JR (gY d)];lia
 refine⟨aZ d,j,⟨p.perm (gY _),w1,w4,∅,kr _⟩,L,?_,∅,?_⟩
 .obtain⟨l',p',h'⟩:=paired_perm (gY d).symm s;exact waysF_mem.mpr ⟨l',by rw[<-sQ p',m8 hs],h'⟩
 have H:aO (.tup [.int w,.tup (am e)]) (.int 0)=aa (.int w):=rfl;have G:aO (.tup [.int w,.tup (am e)]) (.int 1)=aa (.tup (am e)):=rfl;have P:a9 (.int f) (.int 1)=aa (.int ((f:Nat)+1)):=rfl;have jy:d.length<=1000000:=by have:=p.few;lia
 have hj:=λB=>D6 d (λx h=>by rw[p.len x h];lia) B;have K:(d.map dA).map PV.lst=d.map λx=>PV.lst (dA x):=by rw[gn];rfl
 have M:=Gs e;generalize ((f:Nat):Int)+1=M7 at X P;generalize ((f:Nat):Int)=M6 at P Y ⊢;simp[qK,yaA,aX,cI,dB,d2,d1,dV,dC,dL,dF,ap,ax,b0,mB,bR,fg,a8,gV,gO,Pu.bD,gX,gH,cB,eO,iP,R.bind,a_,bO,e_,bN,back,gz,lE,kt,vE,xq,wM,bh,qD,cy,bE,dN,B2,rf,BP,jA,ug,vz,kb,kc,A5,mP,fz,cY,qE,g_,lS,dq,pr,G,t3,bC,gc,M,P,X,cO,hr,d4,Y,H,ud,jm,cm,K,hj,ff,mD,jy,f_]
end
section
variable{d f:Type}(a:d->f->Bool)
def Nb(b:List d)(s:List f):List d:=b.filter λx=>s.any (a x)
def HC(c:List d)(b:List f):Prop:=∀s t,b.Perm (s++t)->s.length<=(Nb a c s).length
variable{a}
theorem paired_app{Q:d->f->Prop}:∀{c b:List d}{g e:List f},c7 Q c g->c7 Q b e->c7 Q (c++b) (g++e)
 |_,_,_,_,.nil,h=>h
 |_,_,_,_,.cons r t,h=>.cons r (paired_app t h)
theorem filter_split(p:d->Bool)(b:List d):b.Perm (b.filter p++b.filter λx=>!p x):=by
 induction b with
 |nil=>exact .nil
 |cons x b c=>
  cases h:p x with
  |true=>simp only[rL,h,if_true,uX,kC,if_false,uU];exact c.cons x
  |false=>simp only[rL,h,kC,if_false,Bool.not_false,if_true];exact(c.cons x).trans C7.symm
theorem hall:∀(n:Nat) (r:List f) (g:List d),r.length=n->HC a g r->∃xs rest,c7 (λx b=>a x b=ah) xs r/\g.Perm (xs++rest):=by
 intro n
 induction n using Nat.strongRecOn with
 |_ n E=>
  intro r g hn w;cases r with
  |nil=>exact⟨[],g,.nil,uP _⟩
  |cons b m=>
   by_cases c:∃s t,(b::m).Perm (s++t)/\s≠[]/\t≠[]/\(Nb a g s).length=s.length
   .obtain⟨s,t,p,v,Y,he⟩:=c;have bq:s.length+t.length=n:=by have:=p.length_eq;rw[fO]at this;lia
    have Z:0<s.length:=List.length_pos_iff.mpr v;have X:0<t.length:=List.length_pos_iff.mpr Y;obtain⟨O,Q,A,D⟩:=E s.length ∅ s (Nb a g s) rfl λu j K=>by
     have H:=w u (j++t) (p.trans (by rw[<-nA];exact K.append_right t));have e:Nb a (Nb a g s) u=Nb a g u:=by
      unfold Nb;rw[yF];refine yG λx _=>?_;cases h:u.any (a x)with
      |false=>rfl
      |true=>rw[pI,ma];obtain⟨y,W,hr⟩:=ma.mp h;exact⟨y,K.mem_iff.mpr (rn _ W),hr⟩
     rw[e];exact H
    have eV:Q=[]:=by have e1:=D.length_eq;have e2:=ku A;rw[fO]at e1;exact List.length_eq_zero_iff.mp ∅
    subst eV;rw[i_]at D;obtain⟨N,I,G,C⟩:=E t.length ∅ t (g.filter λx=>!s.any (a x)) rfl λj P T=>by
     have H:=w (s++j) P (p.trans (by rw[nA];exact T.append_left s));have e:(Nb a g (s++j)).length=(Nb a g s).length+(Nb a (g.filter λx=>!s.any (a x)) j).length:=by
      have q:=(filter_split (λx=>s.any (a x)) (Nb a g (s++j))).length_eq;rw[q,fO];congr 1
      .unfold Nb;rw[yF];congr 1;refine yG λx _=>?_;rw[List.any_append];cases s.any (a x) <;> simp
      .unfold Nb;rw[yF,yF];congr 1;refine yG λx _=>?_;rw[List.any_append];cases s.any (a x) <;> simp
     rw[fO,e,he]at H;lia
    obtain⟨B,S,h'⟩:=paired_perm p.symm (paired_app A G);refine⟨B,I,h',?_⟩;refine(filter_split (λx=>s.any (a x)) g).trans ?_;refine(D.append C).trans ?_;rw[<-nA];exact S.append_right I
   .have A:=w [b] m (uP _);obtain⟨x,L⟩:∃x,x∈Nb a g [b]:=List.exists_mem_of_length_pos (by have:1<=(Nb a g [b]).length:=A;lia);unfold Nb at L;obtain⟨F,i⟩:=uA.mp L;have i:a x b=ah:=by simpa using i
    obtain⟨o,l,rfl⟩:=List.append_of_mem F;have J:(o++x::l).Perm (x::(o++l)):=C7;obtain⟨xs,rest,G,C⟩:=E m.length (by simp at hn;lia) m (o++l) rfl λs t p=>by
     by_cases v:s=[]
     .subst v;simp
     .have M:(b::m).Perm (s++(b::t)):=(p.cons b).trans C7.symm;have h3:=w s (b::t) M;have h4:(Nb a (o++x::l) s).length≠s.length:=λz=>c ⟨s,b::t,M,v,by simp,z⟩;have h5:(Nb a (o++x::l) s).length<=(Nb a (o++l) s).length+1:=by unfold Nb;rw[(J.filter _).length_eq,rL];split <;> simp
      lia
    exact⟨x::xs,rest,.cons i G,J.trans (C.cons x)⟩
theorem sub_paired{Q:d->f->Prop}:∀{s e:List f}{xs:List d},s.Sublist e->c7 Q xs e->∃c,c.Sublist xs/\c7 Q c s:=by
 intro s e xs h
 induction h generalizing xs with
 |slnil=>intro p;cases p;exact⟨[],.slnil,.nil⟩
 |cons b _ g=>
  intro p;cases p with
  |cons r t=>obtain⟨c,j,i⟩:=g t;exact⟨c,j.cons _,i⟩
 |cons_cons b _ g=>
  intro p;cases p with
  |cons r t=>obtain⟨c,j,i⟩:=g t;exact⟨_::c,j.cons_cons _,.cons r i⟩
theorem hall_iff{e:List d}{c:List f}(E:e.length=c.length):(∀s,s.Sublist c->s.length<=(Nb a e s).length)↔∃xs,e.Perm xs/\c7 (λx b=>a x b=ah) xs c:=by
 constructor
 .intro h;have C:HC a e c:=λs t B=>by obtain⟨z,l,D⟩:=List.exists_perm_sublist (List.sublist_append_left s t) B.symm;have:=h z D;rw[<-l.length_eq];refine cK this (nv ?_);unfold Nb;congr 1;refine yG λx _=>?_;rw[i9,ma,ma];exact⟨λ⟨y,m,q⟩=>⟨y,l.mem_iff.mp m,q⟩,λ⟨y,m,q⟩=>⟨y,l.mem_iff.mpr m,q⟩⟩
  obtain⟨xs,rest,g,o⟩:=hall c.length c e rfl C;have j:=o.length_eq;have w:=ku g;rw[fO]at j;obtain rfl:rest=[]:=List.length_eq_zero_iff.mp ∅;exact⟨xs,by simpa using o,g⟩
 .rintro⟨xs,p,h⟩ s u;obtain⟨n,g,v⟩:=sub_paired u h;have j:(Nb a e s).length=(Nb a xs s).length:=(p.filter _).length_eq;have w:n.filter (λx=>s.any (a x))=n:=by
   clear g j p h u;refine rM.mpr λx i=>?_
   induction v with
   |nil=>cases i
   |cons r _ A=>
    rcases dm.mp i with rfl|i
    .rw[l7,r];rfl
    .rw[l7,A i,Bool.or_true]
  rw[j,<-ku v,<-w];exact(g.filter _).length_le
end
section
variable{a:Ad}
theorem in_tup(x:Tx)(k:List Tx):gZ aj (.str x) (.tup (am k))=aa (.bl (decide (x∈k))):=by
 show(cF (.str x)).bind (λv=>(gE (am k)).map λb=>PV.bl (aj^^ji v b))=_;rw[v6];show aa (PV.bl (aj^^ji (tV x) (cD k)))=_;rw[Bool.false_xor];congr 2;unfold ji cD;rw[List.any_map,i9,ma,decide_eq_true_eq];constructor
 .rintro⟨z,d,c⟩;have:x=z:=by simpa[B4,eq_comm]using c
  rw[this];exact d
 .intro h;exact⟨x,h,by simp[B4]⟩
end
def fitB:Tx->Tx->Bool
 |[],[]=>ah
 |c::x,d::b=>(decide (d=46)||decide (d=c))&&fitB x b
 |_,_=>aj
theorem fitB_iff:∀{x b:Tx},(∀c∈x,c∈bo)->(fitB x b=ah↔Fit x b)
 |[],[],_=>by simp[fitB,Fit];exact .nil
 |[],d::b,_=>by
  constructor
  .intro h;cases h
  .intro h;cases h
 |c::x,[],_=>by
  constructor
  .intro h;cases h
  .intro h;cases h
 |c::x,d::b,h=>by
  have g:=fitB_iff (x:=x) (b:=b) λe i=>h e (by simp[i]);show((decide (d=46)||decide (d=c))&&fitB x b)=ah↔_;rw[fP,g,uO,decide_eq_true_iff,decide_eq_true_iff];constructor
  .rintro⟨a,j⟩;refine .cons (opts_mem.mpr ?_) j;by_cases f:d=46
   .exact .inl ⟨f,h c (by simp)⟩
   .exact .inr ⟨f,(a.resolve_left f).symm⟩
  .intro p;cases p with
   |cons r t=>
    refine⟨?_,t⟩;rcases opts_mem.mp r with⟨a,_⟩|⟨_,a⟩
    .exact .inl a
    .exact .inr a.symm
def badA(x b:Tx)(i:Nat):Bool:=!(decide (b.getD i 0=46)||decide (b.getD i 0=x.getD i 0))
theorem bad_none:∀{x b:Tx},x.length=b.length->(((cW b.length).filter (badA x b)).isEmpty=fitB x b)
 |[],[],_=>rfl
 |[],d::b,h=>by simp at h
 |c::x,[],h=>by simp at h
 |c::x,d::b,h=>by
  have a:=bad_none (x:=x) (b:=b) (by simpa using h);show((cW (b.length+1)).filter (badA (c::x) (d::b))).isEmpty=((decide (d=46)||decide (d=c))&&fitB x b)
  rw[CI,rL,uW];have e:(badA (c::x) (d::b) ∘ Nat.succ)=badA x b:=by funext i;rfl
  rw[e];have f:badA (c::x) (d::b) 0=!(decide (d=46)||decide (d=c)):=rfl;rw[f];cases g:(decide (d=46)||decide (d=c))with
  |true=>simp only[uX,kC,if_false,pI,List.isEmpty_map];exact a
  |false=>simp
section
variable{a:Ad}
theorem ix_str{x:Tx}{k:Nat}(h:k<x.length):aO (.str x) (.int k)=aa (.str [x.getD k 0]):=by show(eK x (k:Nat)).map (λc=>PV.str [c])=_;rw[tX ∅ ∅];simp[h]
theorem in_two(c d e:Nat):gZ ah (.str [c]) (.tup [.str [d],.str [e]])=aa (.bl (!(decide (c=d)||decide (c=e)))):=by
 have h:=in_tup [c] [[d],[e]];have g:gZ ah (.str [c]) (.tup (am [[d],[e]]))=aa (.bl (!decide ([c]∈[[d],[e]]))):=by have j:gZ ah (.str [c]) (.tup (am [[d],[e]]))=(cF (.str [c])).bind (λv=>(gE (am [[d],[e]])).map λf=>PV.bl (ah^^ji v f)):=rfl;have i:gZ aj (.str [c]) (.tup (am [[d],[e]]))=(cF (.str [c])).bind (λv=>(gE (am [[d],[e]])).map λf=>PV.bl (aj^^ji v f)):=rfl;rw[i,v6]at h;rw[j,v6];have b:(aj^^ji (tV [c]) (cD [[d],[e]]))=decide ([c]∈[[d],[e]]):=PV.bl.inj (cp h);rw[Bool.false_xor]at b;show aa (PV.bl (ah^^ji (tV [c]) (cD [[d],[e]])))=_;rw[b,nD]
 have b:gZ ah (.str [c]) (.tup [.str [d],.str [e]])=aa (.bl (!decide ([c]∈[[d],[e]]))):=g;rw[b];simp
theorem fits_eq(x b:Tx)(n:x.length=b.length)(h:b.length<=1000):lf a [↥x,↥b]=.ok (.val (.bl (fitB x b))) [↥x,↥b]:=by
 have e:=kg (cap:=[1,0]) (dt:=(dB (d2 (gZ ah) (d2 aO (dV 1) (dV 0)) (dL bE (ap (dC (.str [46])) (ap (d2 aO (dV 2) (dV 0)) (ax))))))) (de:=dV 0) (ε:=[↥x,↥b]) (λv=>match v with|.int k=>badA x b k.toNat|_=>aj) (λv=>v) ((cW b.length).map λ(k:Nat)=>PV.int (k:Nat))
  (by
   intro v m;obtain⟨k,o,rfl⟩:=gK.mp m;have l:=List.mem_range.mp o;have g:=ix_str (x:=b) l;have f:=ix_str (x:=x) (k:=k) ∅;have d:=in_two (b.getD k 0) 46 (x.getD k 0);have c:badA x b ((k:Nat):Int).toNat=!(decide (b.getD k 0=46)||decide (b.getD k 0=x.getD k 0)):=rfl;dsimp only;rw[c];generalize (!(decide (b.getD k 0=46)||decide (b.getD k 0=x.getD k 0)))=B at d;generalize ((k:Nat):Int)=KI at g f;generalize b.getD k 0=bk at g d;generalize x.getD k 0=xk at f d;refine⟨?_,λ_=>?_⟩
   .simp![cc,cL,bL,g,f,d]
   .simp![cc,cL,bL]) []
 have p:(((cW b.length).map λ(k:Nat)=>PV.int (k:Nat)).filter (λv=>match v with|.int k=>badA x b k.toNat|_=>aj)).map (λv=>v)=(((cW b.length).filter (badA x b)).map λ(k:Nat)=>((k:Nat):Int)).map .int:=by rw[yz,uW,gn];rfl
 rw[jb,p]at e;have j:bp [.str b]=aa (.int (b.length:Nat)):=by simp[bp]
 have i:gA [.int (b.length:Nat)]=aa ((cW b.length).map λ(k:Nat)=>PV.int (k:Nat)):=by rw[oZ ∅];simp[c9]
 have c:=z5 (((cW b.length).filter (badA x b)).map λ(k:Nat)=>((k:Nat):Int));rw[List.isEmpty_map,bad_none n]at c;generalize fitB x b=F at c;generalize (((cW b.length).filter (badA x b)).map λ(k:Nat)=>((k:Nat):Int)).map PV.int=L at e c;generalize ((cW b.length).map λ(k:Nat)=>PV.int (k:Nat))=RR at e i;generalize ((b.length:Nat):Int)=BL at j i;simp![lf,yaE,cm,j,i,e,c]
def subS(S:List (List Tx))(b:Tx):List (List Tx):=S++S.map λs=>s++[b]
def subsF(b:List Tx):List (List Tx):=b.foldl subS [[]]
theorem subsF_len(c:List Tx):∀S:List (List Tx),(c.foldl subS S).length=S.length*2^c.length:=by
 induction c with
 |nil=>intro S;simp
 |cons b c d=>intro S;rw[ln,d];simp only[subS,fO,cr,eP,Nat.pow_succ];rw[<-Nat.two_mul,Nat.mul_comm 2,Nat.mul_assoc,Nat.mul_comm 2]
theorem subsF_mem(e:List Tx):∀(S:List (List Tx)) (s:List Tx),s∈e.foldl subS S↔∃r∈S,∃t,t.Sublist e/\s=r++t:=by
 induction e with
 |nil=>
  intro S s;constructor
  .intro h;exact⟨s,h,[],.slnil,by simp⟩
  .rintro⟨r,d,t,c,rfl⟩;rw[List.sublist_nil.mp c];simpa using d
 |cons b e f=>
  intro S s;rw[ln,f];constructor
  .rintro⟨r,d,t,c,rfl⟩;rcases iw.mp d with d|d
   .exact⟨r,d,t,c.cons b,rfl⟩
   .obtain⟨q,g,rfl⟩:=gK.mp d;exact⟨q,g,b::t,c.cons_cons b,by simp⟩
  .rintro⟨r,d,t,c,rfl⟩;cases c with
   |cons _ c=>exact⟨r,rn _ d,t,c,rfl⟩
   |cons_cons _ c=>exact⟨r++[b],jR _ (gK.mpr ⟨r,d,rfl⟩),_,c,by simp⟩
theorem subs_mem{b s:List Tx}:s∈subsF b↔s.Sublist b:=by
 unfold subsF;rw[subsF_mem];constructor
 .rintro⟨r,c,t,d,rfl⟩;simp at c;subst c;exact d
 .intro h;exact⟨[],by simp,s,h,rfl⟩
def lfit(b s:List Tx):List Tx:=Nb fitB b s
def okS(b s:List Tx):Bool:=decide (s.length<=(lfit b s).length)
theorem okS_all{w:Nat}{i d:List Tx}(g:Good bo w d)(j:d.Pairwise (λa b=>cb a b=ah))(n:d.length=i.length):(subsF i).all (okS d)=decide (d∈waysF i):=by
 rw[i9,jV,decide_eq_true_iff,waysF_mem];have o:(∀s∈subsF i,okS d s=ah)↔∀s,s.Sublist i->s.length<=(Nb fitB d s).length:=by
  constructor
  .intro h s j;exact of_decide_eq_true (h s (subs_mem.mpr j))
  .intro h s j;exact decide_eq_true (h s (subs_mem.mp j))
 rw[o,hall_iff n];constructor
 .rintro⟨xs,p,h⟩;refine⟨xs,by rw[<-sQ p,m8 j],?_⟩;have l:∀x∈xs,∀c∈x,c∈bo:=λx f=>g.abc x (p.mem_iff.mpr f);clear p o n
  induction h with
  |nil=>exact .nil
  |cons r _ m=>exact .cons ((fitB_iff (l _ (by simp))).mp r) (m λx f=>l x (by simp[f]))
 .rintro⟨xs,e,h⟩;have p:d.Perm xs:=by rw[e];exact gY xs
  refine⟨xs,p,?_⟩;have l:∀x∈xs,∀c∈x,c∈bo:=λx f=>g.abc x (p.mem_iff.mpr f);clear p o e n
  induction h with
  |nil=>exact .nil
  |cons r _ m=>exact .cons ((fitB_iff (l _ (by simp))).mpr r) (m λx f=>l x (by simp[f]))
theorem fo_comp{w:Nat}(x:Tx)(s:List Tx)(i:x.length=w)(j:w<=4)(e:∀b∈s,b.length=w):gD [0] (dB (bh (a8 (lf a) (gV (dV 1) (gV (dV 0) (Pu.bD)))))) (dV 0) (am s) [] [↥x,.val (.lst (am s))]=.ok (am (s.filter (fitB x))) [↥x,.val (.lst (am s))]:=by
 have f:=kg (cap:=[0]) (dt:=(dB (bh (a8 (lf a) (gV (dV 1) (gV (dV 0) (Pu.bD))))))) (de:=dV 0) (ε:=[↥x,.val (.lst (am s))]) (λv=>match v with|.str b=>fitB x b|_=>aj) (λv=>v) (am s)
  (by
   intro v d;obtain⟨b,h,rfl⟩:=gK.mp d;have g:=e b h;have c:=fits_eq (a:=a) x b ∅ ∅;dsimp only;generalize fitB x b=F at c;generalize am s=SP;refine⟨?_,λ_=>?_⟩
   .simp![cc,cL,bL,c]
   .simp![cc,cL,bL]) []
 rw[f];congr 1;rw[jb,yz];unfold am;rw[uW];rfl
theorem fw_comp{w:Nat}(c s:List Tx)(r:w<=4)(o:∀x∈c,x.length=w)(n:∀b∈s,b.length=w)(h g f:Slot)(y:PV)(e:Slot):gD [4] (dB (d2 (Pu.eqT ah) (dF (cm [0] (bC (dV 1)) (dB (bh (a8 (lf a) (gV (dV 1) (gV (dV 0) (Pu.bD)))))) (dV 0))) (dF (dL cy (ax))))) (dV 0) (am c) [] [h,g,f,.val y,.val (.lst (am s)),e]=.ok (am (lfit c s)) [h,g,f,.val y,.val (.lst (am s)),e]:=by
 have q:=kg (cap:=[4]) (dt:=(dB (d2 (Pu.eqT ah) (dF (cm [0] (bC (dV 1)) (dB (bh (a8 (lf a) (gV (dV 1) (gV (dV 0) (Pu.bD)))))) (dV 0))) (dF (dL cy (ax)))))) (de:=dV 0) (ε:=[h,g,f,.val y,.val (.lst (am s)),e]) (λv=>match v with|.str x=>s.any (fitB x)|_=>aj) (λv=>v) (am c)
  (by
   intro v m;obtain⟨x,l,rfl⟩:=gK.mp m;have i:=fo_comp (a:=a) x s (o x l) r n;have d:=eqT_nil ah (s.filter (fitB x));have p:(ah^^decide (s.filter (fitB x)=[]))=s.any (fitB x):=by rw[nD,i9,ma];simp
   rw[p]at d;have j:gc (.lst (am s))=aa (am s):=rfl;dsimp only;generalize s.any (fitB x)=B at d;generalize am (s.filter (fitB x))=FS at i d;generalize am s=SP at i j;refine⟨?_,λ_=>?_⟩
   .simp![cc,cL,bL,cm,bC,j,i,d]
   .simp![cc,cL,bL]) []
 rw[q];congr 1;rw[jb,yz];unfold am lfit Nb;rw[uW];rfl
def clB(a:Ad):ak->R aL:=aX (bR 5 (dF (cm [4] (bC (d2 aO (dV 1) (dC (.int 1)))) (dB (d2 (Pu.eqT ah) (dF (cm [0] (bC (dV 1)) (dB (bh (a8 (lf a) (gV (dV 1) (gV (dV 0) (Pu.bD)))))) (dV 0))) (dF (dL cy (ax))))) (dV 0))))
 (cI (dB (d2 (fz λi j=>decide (i<j)) (dL bp (ap (dV 5) (ax))) (dL bp (ap (dV 4) (ax))))) (b0 (dC (.bl aj))) (dN))
theorem clB_eq{w:Nat}(c s:List Tx)(p:w<=4)(o:∀x∈c,x.length=w)(n:∀b∈s,b.length=w)(g f:Slot)(v:Nat)(y:PV)(l:Slot):clB a [g,.val (aD v c),f,.val y,.val (.lst (am s)),l]=.ok (if okS c s=ah then .next else .ret (.val (.bl aj))) [g,.val (aD v c),f,.val y,.val (.lst (am s)),.val (.lst (am (lfit c s)))]:=by
 have e:=fw_comp (a:=a) c s p o n g (.val (aD v c)) f y l;have j:aO (aD v c) (.int 1)=aa (.tup (am c)):=rfl;have m:gc (.tup (am c))=aa (am c):=rfl;have i:bp [.lst (am (lfit c s))]=aa (.int ((lfit c s).length:Nat)):=by simp[bp,f9]
 have h:bp [.lst (am s)]=aa (.int (s.length:Nat)):=by simp[bp,f9]
 have d:decide (((lfit c s).length:Int)<(s.length:Int))=!okS c s:=by unfold okS;rw[<-decide_not,decide_eq_decide];lia
 generalize okS c s=B at d;generalize (((lfit c s).length:Nat):Int)=L1 at i d;generalize ((s.length:Nat):Int)=L2 at h d;generalize am (lfit c s)=FF at e i;generalize am s=SS at e h;generalize am c=LL at e j m;generalize aD v c=V at e j;unfold clB;refine(cU (ε1:=[g,.val V,f,.val y,.val (.lst SS),.val (.lst FF)]) (by simp![cm,bC,j,m,e])).trans ?_;cases B <;> simp![i,h,d]
theorem cl_loop{w:Nat}(d:List Tx)(u:w<=4)(q:∀x∈d,x.length=w)(i h:Slot)(v:Nat)(y:PV):∀(S:List (List Tx)) (g f:Slot),(∀s∈S,∀b∈s,b.length=w) -> ∃j l,dj 4 (clB a) (lstsP S) [i,.val (aD v d),h,.val y,g,f]=.ok (if S.all (okS d)=ah then .next else .ret (.val (.bl aj))) [i,.val (aD v d),h,.val y,j,l]:=by
 intro S
 induction S with
 |nil=>intro g f _;exact⟨g,f,rfl⟩
 |cons s S o=>
  intro g f n;have A:=clB_eq (a:=a) d s u q (n s (by simp)) i h v y f;have e:dj 4 (clB a) (lstsP (s::S)) [i,.val (aD v d),h,.val y,g,f]=(match clB a [i,.val (aD v d),h,.val y,.val (.lst (am s)),f]with
   |.ok .next c=>dj 4 (clB a) (lstsP S) c
   |.ok .cont c=>dj 4 (clB a) (lstsP S) c
   |.ok .brk c=>.ok .next c
   |r=>r):=rfl
  rw[e,A];cases m:okS d s with
  |true=>obtain⟨j,l,z⟩:=o (.val (.lst (am s))) (.val (.lst (am (lfit d s)))) λt p=>n t (by simp[p]);refine⟨j,l,?_⟩;simp only[if_true,lm,m,pI];exact z
  |false=>refine⟨.val (.lst (am s)),.val (.lst (am (lfit d s))),?_⟩;simp only[kC,if_false,lm,m,Bool.false_and]
theorem su_comp(S:List (List Tx))(b:Tx)(h:∀s∈S,s.length<=50)(f e d c:Slot):gD [3] cZ (d2 a9 (dV 0) (dF (dL cy (ap (dV 1) (ax))))) (lstsP S) [] [f,e,.val (.lst (lstsP S)),↥b,d,c]=.ok (lstsP (S.map λs=>s++[b])) [f,e,.val (.lst (lstsP S)),↥b,d,c]:=by
 have i:=kg (cap:=[3]) (dt:=cZ) (de:=(d2 a9 (dV 0) (dF (dL cy (ap (dV 1) (ax)))))) (ε:=[f,e,.val (.lst (lstsP S)),↥b,d,c]) (λ_=>ah) (λx=>match x with|.lst xs=>.lst (xs++[.str b])|_=>.non) (lstsP S)
  (by
   intro v j;obtain⟨s,m,rfl⟩:=gK.mp j;have l:=h s m;have g:a9 (.lst (am s)) (.lst [.str b])=aa (.lst (am s++[.str b])):=by
    have:(am s).length+1<=bF:=by rw[f9];unfold bF;lia
    simp[a9,this]
   dsimp only;generalize lstsP S=SS;generalize am s++[.str b]=RX at g;generalize am s=RP at g;refine⟨by simp![cc,cL,bL,cZ],λ_=>?_⟩;simp![cc,cL,bL,g]) []
 rw[jb,rM.mpr (by simp)]at i;rw[i];congr 1;simp[lstsP,am,gn,yv]
def suB:ak->R aL:=bR 2 (d2 a9 (dV 2) (dF (cm [3] (bC (dV 2)) (cZ) (d2 a9 (dV 0) (dF (dL cy (ap (dV 1) (ax))))))))
theorem su_for(f:List Tx)(u:f.length<=9)(V W d:Slot):∃c,dj 3 suB (am f) [V,W,.val (.lst (lstsP [[]])),d,.none,.none]=.ok .next [V,W,.val (.lst (lstsP (subsF f))),c,.none,.none]/\(f≠[]->∃y,c=.val y):=by
 obtain⟨z,v,c,p,rest,g,A,rfl,o⟩:=pe (i:=3) (db:=suB)
  (I:=λr m=>∃(d:Slot) (p rest:List Tx),f=p++rest/\r=am rest/\m=[V,W,.val (.lst (lstsP (subsF p))),d,.none,.none]/\(p≠[]->∃y,d=.val y))
  (by
   rintro x r m ⟨d,p,rest,g,q,rfl,_⟩;cases rest with
   |nil=>cases q
   |cons b rest=>
    have n:x::r=.str b::am rest:=q;simp only[pP]at n;obtain⟨rfl,rfl⟩:=n;have E:p.length<=9:=by rw[g]at u;simp at u;lia
    have F:∀s∈subsF p,s.length<=50:=λs B=>cK (subs_mem.mp B).length_le ∅;have l:=su_comp (subsF p) b F V W .none .none;have e:subS (subsF p) b=subsF (p++[b]):=by unfold subsF;rw[yE];rfl
    have G:(subsF p).length<=512:=by have:=subsF_len p [[]];unfold subsF;rw[this];have:2^p.length<=2^9:=Nat.pow_le_pow_right (by decide) E;simp;lia
    have j:a9 (.lst (lstsP (subsF p))) (.lst (lstsP ((subsF p).map λs=>s++[b])))=aa (.lst (lstsP (subsF (p++[b])))):=by
     have C:(lstsP (subsF p)).length+(lstsP ((subsF p).map λs=>s++[b])).length<=bF:=by rw[lstsP_len,lstsP_len,cr];unfold bF;lia
     rw[<-e];unfold subS;rw[lstsP_app];simp only[a9,C,if_true]
    refine⟨_,?_,↥b,p++[b],rest,by rw[g];simp,rfl,rfl,λ_=>⟨_,rfl⟩⟩;have w:gc (.lst (lstsP (subsF p)))=aa (lstsP (subsF p)):=rfl;generalize lstsP (subsF (p++[b]))=R1 at j;generalize lstsP ((subsF p).map λs=>s++[b])=R2 at j l;generalize lstsP (subsF p)=R0 at j l w;simp![suB,cm,bC,w,l,j])
  (am f) [V,W,.val (.lst (lstsP (subsF []))),d,.none,.none] ⟨d,[],f,rfl,rfl,rfl,λh=>absurd rfl h⟩
 have D:rest=[]:=by cases rest with|nil=>rfl|cons=>cases A
 subst D;rw[i_]at g;rw[<-g]at v o;exact⟨c,v,o⟩
theorem d_law_clears_def:yaC a=aX (cI (kb (dB (d2 (Pu.eqT ah) (d2 aO (dV 0) (dC (.int 0))) (d2 aO (dV 1) (dC (.int 0))))) (dB (d2 (Pu.eqT ah) (dL bp (ap (d2 aO (dV 0) (dC (.int 1))) (ax))) (dL bp (ap (d2 aO (dV 1) (dC (.int 1))) (ax)))))) (b0 (dC (.bl aj))) (dN)) (aX (bR 2 (dF (dL cy (ap (dF (dL cy (ax))) (ax))))) (aX (λb=>d4 (cO 3 (bC (d2 aO (dV 0) (dC (.int 1)))) suB b)) (aX (λb=>d4 (cO 4 (bC (dV 2)) (clB a) b)) (b0 (dC (.bl ah)))))):=rfl
theorem lclears_eq{w v:Nat}{c d:List Tx}(G:Good eW w c)(M:w<=4)(g:Good bo v d)(D:d.Pairwise (λa b=>cb a b=ah)):pf a [.val (aD w c),.val (aD v d)]=.ok (.val (.bl (decide (w=v)&&decide (d∈waysF c)))) [.val (aD w c),.val (aD v d)]:=by
 have m:aO (aD w c) (.int 0)=aa (.int w):=rfl;have j:aO (aD v d) (.int 0)=aa (.int v):=rfl;have l:aO (aD w c) (.int 1)=aa (.tup (am c)):=rfl;have q:aO (aD v d) (.int 1)=aa (.tup (am d)):=rfl;have p:bp [.tup (am c)]=aa (.int (c.length:Nat)):=by simp[bp,f9]
 have o:bp [.tup (am d)]=aa (.int (d.length:Nat)):=by simp[bp,f9]
 have i:=iX ah (w:Nat) (v:Nat);have h:=iX ah (c.length:Nat) (d.length:Nat);by_cases x:w=v/\c.length=d.length
 .obtain⟨rfl,Z⟩:=x;rw[decide_eq_true rfl]at i;rw[decide_eq_true ∅]at h;have E:=G.few;have F:=G.some;obtain⟨Y,n,Q⟩:=su_for c E (.val (aD w c)) (.val (aD w d)) .none;obtain⟨y,rfl⟩:=Q (by rintro rfl;simp at F);obtain⟨C,A,f⟩:=cl_loop (a:=a) d M g.len (.val (aD w c)) (.val (.lst (lstsP (subsF c)))) w y (subsF c) .none .none λs D b T=>G.len b ((subs_mem.mp D).subset T);rw[okS_all g D ∅]at f;rw[decide_eq_true rfl,pI];have K:gc (.tup (am c))=aa (am c):=rfl;have I:gc (.lst (lstsP (subsF c)))=aa (lstsP (subsF c)):=rfl;have P:lstsP [[]]=[.lst []]:=rfl;rw[P]at n;have u:yaC a [.val (aD w c),.val (aD w d),.none,.none,.none,.none]=.ok (.ret (.val (.bl (decide (d∈waysF c))))) [.val (aD w c),.val (aD w d),.val (.lst (lstsP (subsF c))),.val y,C,A]:=by
   rw[d_law_clears_def];generalize decide (d∈waysF c)=B at f ⊢;generalize lstsP (subsF c)=SS at n f I ⊢;generalize ((w:Nat):Int)=WI at m j i;generalize ((c.length:Nat):Int)=L1 at p h;generalize ((d.length:Nat):Int)=L2 at o h;generalize am c=MP at l p n K;generalize am d=LP at q o;generalize aD w c=V at m l n f ⊢;generalize aD w d=W at j q n f ⊢;refine(cU (ε1:=[.val V,.val W,.none,.none,.none,.none]) (by simp![m,j,l,q,p,o,i,h])).trans ?_;refine(cU (ε1:=[.val V,.val W,.val (.lst [.lst []]),.none,.none,.none]) (by simp![])).trans ?_;refine(cU (ε1:=[.val V,.val W,.val (.lst SS),.val y,.none,.none]) (by simp![d4,cO,bC,l,K,n])).trans ?_;have J:cO 4 (bC (dV 2)) (clB a) [.val V,.val W,.val (.lst SS),.val y,.none,.none]=dj 4 (clB a) SS [.val V,.val W,.val (.lst SS),.val y,.none,.none]:=by unfold cO bC dV;simp only[CY,CL,R.bind_ok,I,cQ]
   cases B with
   |true=>simp only[if_true]at f;refine(cU (ε1:=[.val V,.val W,.val (.lst SS),.val y,C,A]) (by show d4 (cO _ _ _ _)=_;rw[J,f];rfl)).trans ?_;simp![]
   |false=>
    simp only[kC,if_false]at f;have X:(λL=>d4 (cO 4 (bC (dV 2)) (clB a) L)) [.val V,.val W,.val (.lst SS),.val y,.none,.none]=.ok (.ret (.val (.bl aj))) [.val V,.val W,.val (.lst SS),.val y,C,A]:=by show d4 (cO _ _ _ _)=_;rw[J,f];rfl
    unfold aX;rw[X]
  generalize decide (d∈waysF c)=B at u;generalize aD w c=V at u;generalize aD w d=W at u;simp[pf,bO,e_,bN,dq,u,back,gz,a_,R.bind]
 .have S:(decide (w=v)&&decide (d∈waysF c))=aj:=by
   by_cases r:w=v
   .have H:c.length≠d.length:=λz=>x ⟨r,z⟩;have:d∉waysF c:=λz=>H ((ways_shape z).1).symm;rw[decide_eq_false this,yb]
   .rw[decide_eq_false r,Bool.false_and]
  rw[S];have e:(!decide (w=v)||!decide (c.length=d.length))=ah:=by
   by_cases r:w=v
   .have H:c.length≠d.length:=λz=>x ⟨r,z⟩;simp[r,H]
   .simp[r]
  have O:(ah^^decide (((w:Nat):Int)=(v:Nat)))=!decide (w=v):=by rw[nD];congr 1;rw[decide_eq_decide];lia
  have N:(ah^^decide (((c.length:Nat):Int)=(d.length:Nat)))=!decide (c.length=d.length):=by rw[nD];congr 1;rw[decide_eq_decide];lia
  rw[O]at i;rw[N]at h;generalize (!decide (w=v))=B0 at i e;generalize (!decide (c.length=d.length))=B1 at h e;generalize ((w:Nat):Int)=WI at m i;generalize ((v:Nat):Int)=VI at j i;generalize ((c.length:Nat):Int)=L1 at p h;generalize ((d.length:Nat):Int)=L2 at o h;generalize am c=MP at l p;generalize am d=LP at q o;generalize aD w c=V at m l;generalize aD v d=W at j q;cases B0 with
  |true=>simp![pf,yaC,m,j,i]
  |false=>simp at e;subst e;simp![pf,yaC,m,j,l,q,p,o,i,h]
end
end Sh
namespace K07
open L2 Pu Mx Sh
section
variable{a:Ad}
def kZ(a:Ad):ak->R aL:=aX (bR 8 (bh (a8 (dW a) (gV (dV 0) (gO 1 (gV (g_ (λxs=>jB (bp xs)) 6) (Pu.bD)))))))
 (aX (bR 9 (bh (a8 (dW a) (gV (dV 0) (gO 1 (gV (d2 aO (dV 4) (dC (.int 0))) (Pu.bD)))))))
 (nc 6 (dV 8) (d2 a9 (d2 a9 (jf jg (lD aO 6 (dV 8)) (kR) (iE (dV 9))) (bh (a8 (lN a) (gV (dV 0) (gO 1 (gV (dF (dL cy (ap (dC (.str [97])) (ap (dC (.str [98])) (ap (dC (.str [99])) (ax)))))) (Pu.bD))))))) (jf jg (lD aO 6 (dV 8)) (iE (d2 a9 (dV 9) (dC (.int 1)))) (kR)))))
theorem J_(i:List Int)(w:Nat)(w1:1<=w)(w9:w<=9)(b:List Tx)(g:Good bo w b)(f:List PV)(hy:f.length<=500)(V B y s s5:PV)(W:aO V (.int 0)=aa (.int w))(r Y P h:Slot):∃(l:List Tx) (p:List PV) (G F:Slot),Good bo w l/\l.length=b.length/\p.length=f.length+3/\kZ a [aY i,.own (.lst f),.val y,.val s,.val V,.val B,.own (.lst (am b)),r,Y,P,h]=.ok .next [aY i,.own (.lst p),.val y,.val s,.val V,.val B,.own (.lst (am l)),r,G,F,h]:=by
 obtain⟨v,v0,X,I⟩:=i6 (a:=a) i f (b.length:Nat) (by have:=g.some;lia) ∅;obtain⟨u,u0,u1,z⟩:=i6 (a:=a) i (f++[.int 0]) (w:Nat) ∅ (by simp;lia);obtain⟨c,T,S⟩:=t6 (a:=a) i (f++[.int 0]++[.int 0]) [.str [97],.str [98],.str [99]] (by simp;lia) (by decide);obtain⟨d,hd,rfl⟩:∃d,d∈bo/\c=.str [d]:=by
  simp at T;rcases T with rfl|rfl|rfl
  .exact⟨97,by simp[bo],rfl⟩
  .exact⟨98,by simp[bo],rfl⟩
  .exact⟨99,by simp[bo],rfl⟩
 obtain⟨k,rfl⟩:∃k:Nat,v=k:=⟨v.toNat,∅⟩
 obtain⟨j,rfl⟩:∃j:Nat,u=j:=⟨u.toNat,∅⟩
 obtain⟨x,Q⟩:∃x,b[k]?=aa x:=⟨_,dY ∅⟩
 have m:x∈b:=kB Q;have hxl:=g.len x m;have L:(x.take j++[d]++x.drop (j+1)).length=w:=by simp;lia
 have Z:∀e∈x.take j++[d]++x.drop (j+1),e∈bo:=λe o=>by
  simp only[iw,jr]at o;rcases o with(o|rfl)|o
  .exact g.abc x m e (yB o)
  .exact hd
  .exact g.abc x m e (List.mem_of_mem_drop o)
 refine⟨b.set k (x.take j++[d]++x.drop (j+1)),f++[.int 0]++[.int 0]++[.int 0],⇑k,⇑j,g.put L Z,by simp,by simp,?_⟩;have E:fE (am b).length (k:Nat)=aa k:=by have:=ui (n:=(am b).length) (v:=((k:Nat):Int)) ∅ (by rw[f9];exact X);simpa using this
 have H:aO (.lst (am b)) (.int k)=aa (.str x):=by show eK (am b) (k:Nat)=_;rw[tX ∅ (by rw[f9];lia)];unfold am;obtain⟨iL,dv⟩:=bY.mp Q;simp[iL,dv]
 have M:bp [.lst (am b)]=aa (.int (b.length:Nat)):=by simp[bp,f9]
 have D:jg (.str x) ag (aa ((j:Nat):Int))=aa (.str (x.take j)):=by show aa (PV.str (d7 x ag (aa (j:Int))))=_;rw[Ac]
 have C:jg (.str x) (aa (((j+1:Nat):Int))) ag=aa (.str (x.drop (j+1))):=by show aa (PV.str (d7 x (aa ((j+1:Nat):Int)) ag))=_;rw[G_]
 have N:a9 (.int ((j:Nat):Int)) (.int 1)=aa (.int (((j+1:Nat):Int))):=rfl;have O:a9 (.str (x.take j)) (.str [d])=aa (.str (x.take j++[d])):=oJ (by simp[bF];lia);have A:a9 (.str (x.take j++[d])) (.str (x.drop (j+1)))=aa (.str (x.take j++[d]++x.drop (j+1))):=oJ (by simp[bF];lia);have q:(am b).set k (.str (x.take j++[d]++x.drop (j+1)))=am (b.set k (x.take j++[d]++x.drop (j+1))):=by simp[am,yC]
 simp only[nA,uU,jb]at z S;generalize am (b.set k (x.take j++[d]++x.drop (j+1)))=R1 at q;generalize x.take j++[d]++x.drop (j+1)=X1 at A q;generalize x.take j++[d]=X2 at O A;generalize x.take j=X3 at D O;generalize x.drop (j+1)=X4 at C A;generalize ((j+1:Nat):Int)=J1 at C N;generalize ((j:Nat):Int)=J at D N z;generalize hK:((k:Nat):Int)=K at I H E;generalize am b=LP at H M E q;generalize ((b.length:Nat):Int)=LL at M I;generalize ((w:Nat):Int)=WI at z W;unfold kZ;refine(cU (ε1:=[aY i,.own (.lst (f++[.int 0])),.val y,.val s,.val V,.val B,.own (.lst LP),r,⇑K,P,h]) (by simp![M,I])).trans ?_;refine(cU (ε1:=[aY i,.own (.lst (f++[.int 0,.int 0])),.val y,.val s,.val V,.val B,.own (.lst LP),r,⇑K,⇑J,h]) (by simp![W,z])).trans ?_;simp![nc,lD,jf,kR,iE,H,D,S,O,N,C,A,E,q]
theorem HJ(q:List Int)(w:Nat)(D:1<=w)(C:w<=9)(V B p m:PV)(O:aO V (.int 0)=aa (.int w))(c:Slot):∀(d:List PV) (h:List Tx) (f:List PV) (o j i:Slot),Good bo w h->f.length+3*d.length<=500 -> ∃(l:List Tx) (n:List PV) (v u s:Slot),Good bo w l/\l.length=h.length/\n.length<=f.length+3*d.length/\dj 7 (kZ a) d [aY q,.own (.lst f),.val p,.val m,.val V,.val B,.own (.lst (am h)),o,j,i,c]=.ok .next [aY q,.own (.lst n),.val p,.val m,.val V,.val B,.own (.lst (am l)),v,u,s,c]:=by
 intro d
 induction d with
 |nil=>intro h f o j i g x;exact⟨h,f,o,j,i,g,rfl,by simp,rfl⟩
 |cons z d L=>
  intro h f o j i g x;simp only[eP]at x;obtain⟨K,A,I,H,T,W,N,Q⟩:=J_ (a:=a) q w D C h g f ∅ V B p m m O (.val z) j i c;obtain⟨J,y,G,F,E,S,X,M,P⟩:=L K A (.val z) I H T ∅;refine⟨J,y,G,F,E,S,∅,by simp only[eP];lia,?_⟩;have e:dj 7 (kZ a) (z::d) [aY q,.own (.lst f),.val p,.val m,.val V,.val B,.own (.lst (am h)),o,j,i,c]=(match kZ a [aY q,.own (.lst f),.val p,.val m,.val V,.val B,.own (.lst (am h)),.val z,j,i,c]with
   |.ok .next b=>dj 7 (kZ a) d b
   |.ok .cont b=>dj 7 (kZ a) d b
   |.ok .brk b=>.ok .next b
   |r=>r):=rfl
  rw[e,Q];exact P
def xm(a:Ad):ak->R aL:=aX (fg 6 (dL ko (ap (d2 aO (dV 4) (dC (.int 1))) (ax))))
 (aX (λb=>d4 (cO 7 (dL gA (ap (d2 a9 (dC (.int 1)) (dV 2)) (ax))) (kZ a) b))
 (bR 4 (dL bE (ap (d2 aO (dV 4) (dC (.int 0))) (ap (dL f_ (ap (dF (g_ (λxs=>lS (ff xs)) 6)) (ax))) (ax))))))
def W1(a:Ad):ak->R aL:=cI (dB (d2 (fz λi j=>decide (i<j)) (dV 2) (dC (.int 4)))) (xm a) (dN)
def Bv(a:Ad):ak->R aL:=bR 4 (bh (a8 (lC a) (gV (dV 0) (gO 1 (gV (dC (.int 0)) (gV (dC (.int 8)) (Pu.bD)))))))
def W2(a:Ad):ak->R aL:=cI (dB (d2 (Pu.eqT aj) (dV 2) (dC (.int 4)))) (Bv a) (dN)
def zm:ak->R aL:=bR 4 (dL bE (ap (d2 aO (dV 4) (dC (.int 0))) (ap (dL f_ (ap (dF (dL ff (ap (d2 a9 (d2 aO (dV 4) (dC (.int 1))) (jf rj (d2 aO (dV 4) (dC (.int 1))) (kR) (iE (dC (.int 1))))) (ax)))) (ax))) (ax))))
def W3:ak->R aL:=cI (dB (d2 (Pu.eqT aj) (dV 2) (dC (.int 5)))) (zm) (dN)
theorem HB(c:List Int)(V o B b:PV)(e f d p g h:List PV)(M1 M n:Int)(l j i:Slot)(u:PV.tup [.int n,.tup d]=o)(z:ff [.lst f]=aa (.lst d))(q:t5 (.lst d)=ah)(s:f_ [.lst d]=aa (.tup d))(v:gA [.int M1]=aa p) (y:a9 (.int 1) (.int M)=aa (.int M1))(x:dj 7 (kZ a) p [aY c,.own (.lst g),⇑M,.val b,.val V,.val B,.own (.lst e),.none,.none,.none,.none]=.ok .next [aY c,.own (.lst h),⇑M,.val b,.val V,.val B,.own (.lst f),l,j,i,.none])(w:aO V (.int 0)=aa (.int n)) (r:aO V (.int 1)=aa (.tup e)) (m:ko [.tup e]=aa (.lst e)):xm a [aY c,.own (.lst g),⇑M,.val b,.val V,.val B,.none,.none,.none,.none,.none]=.ok .next [aY c,.own (.lst h),⇑M,.val b,.val o,.val B,.own (.lst f),l,j,i,.none]:=by
 unfold xm;refine(cU (ε1:=[aY c,.own (.lst g),⇑M,.val b,.val V,.val B,.own (.lst e),.none,.none,.none,.none]) (by simp![r,m])).trans ?_;refine(cU (ε1:=[aY c,.own (.lst h),⇑M,.val b,.val V,.val B,.own (.lst f),l,j,i,.none]) ?_).trans ?_
 .simp![d4,cO,y,v,x]
 .simp![w,z,q,s,u,lS]
theorem KW(j:List Int)(m:Nat)(T:m<4)(w:Nat)(x:1<=w)(P:w<=4)(d:List Tx)(g:Good bo w d)(h:List PV)(S:h.length<=400)(B i:PV):∃(e:List Tx) (f:List PV) (C A z y:Slot),Good bo w e/\e.Pairwise (λa b=>cb a b=ah)/\f.length<=h.length+12 /\ W1 a [aY j,.own (.lst h),⇑m,.val i,.val (aD w d),.val B,.none,.none,.none,.none,.none]=.ok .next [aY j,.own (.lst f),⇑m,.val i,.val (aD w e),.val B,C,A,z,y,.none]:=by
 have u:aO (aD w d) (.int 0)=aa (.int w):=rfl;have E:aO (aD w d) (.int 1)=aa (.tup (am d)):=rfl;have I:(c9 0 (m+1)).length=m+1:=by simp[c9]
 obtain⟨c,o,r,q,p,v,Q,H,L⟩:=HJ (a:=a) j w x ∅ (aD w d) B (.int m) i u .none (c9 0 (m+1)) d h .none .none .none g ∅;have K:=gY c;refine⟨aZ c,o,.own (.lst (am c)),r,q,p,v.perm K,kr c,∅,?_⟩;have N:a9 (.int 1) (.int ((m:Nat):Int))=aa (.int ((m+1:Nat):Int)):=by show aa (PV.int (1+(m:Int)))=_;congr 2;lia
 have J:gA [.int ((m+1:Nat):Int)]=aa (c9 0 (m+1)):=oZ ∅;have O:ff [.lst (am c)]=aa (.lst (am (aZ c))):=we (by have:=v.few;lia);have n:ko [.tup (am d)]=aa (.lst (am d)):=rfl;have s:decide (((m:Nat):Int)<4)=ah:=decide_eq_true ∅;have D:t5 (.lst (am (aZ c)))=ah:=Ak _;have F:f_ [.lst (am (aZ c))]=aa (.tup (am (aZ c))):=rfl;have G:PV.tup [.int w,.tup (am (aZ c))]=aD w (aZ c):=rfl;have l:=HB (a:=a) j (aD w d) (aD w (aZ c)) B i (am d) (am c) (am (aZ c)) (c9 0 (m+1)) h o ((m+1:Nat):Int) (m:Nat) (w:Nat) r q p G O D F J N L u E n;generalize ((m:Nat):Int)=M at s l ⊢;generalize aD w (aZ c)=VE at l ⊢;generalize aD w d=V at l ⊢;simp![W1,s,l]
theorem xL(M:Int)(h:4<=M)(m l j i g f e d c b:Slot):W1 a [m,l,⇑M,j,i,g,f,e,d,c,b]=.ok .next [m,l,⇑M,j,i,g,f,e,d,c,b]:=by have n:decide (M<4)=aj:=decide_eq_false ∅;simp![W1,n]
theorem vt(M:Int)(h:M≠4)(m l j i g f e d c b:Slot):W2 a [m,l,⇑M,j,i,g,f,e,d,c,b]=.ok .next [m,l,⇑M,j,i,g,f,e,d,c,b]:=by have n:=iX aj M 4;rw[decide_eq_false h]at n;simp![W2,n]
theorem wf(M:Int)(h:M≠5)(m l j i g f e d c b:Slot):W3 [m,l,⇑M,j,i,g,f,e,d,c,b]=.ok .next [m,l,⇑M,j,i,g,f,e,d,c,b]:=by have n:=iX aj M 5;rw[decide_eq_false h]at n;simp![W3,n]
theorem Gr(f:List Int)(e:List PV)(v:e.length<=300)(V B p:PV)(o n m l:Slot):∃(w:Nat) (c:List Tx) (d:List PV),1<=w/\w<=4/\Good bo w c/\c.Pairwise (λa b=>cb a b=ah)/\d.length<=e.length+60 /\ W2 a [aY f,.own (.lst e),⇑4,.val p,.val V,.val B,o,n,m,l,.none]=.ok .next [aY f,.own (.lst d),⇑4,.val p,.val (aD w c),.val B,o,n,m,l,.none]:=by obtain⟨w,h,j,u,s,_,g,y,_,_,i,x⟩:=AS (a:=a) f e 0 8 (by decide) (by decide) (by decide) v;refine⟨w,h,j,u,s,g,y,i,?_⟩;have q:lC a [aY f,.own (.lst e),⇑0,⇑8]=.ok (.val (aD w h)) [aY f,.own (.lst j),⇑0,⇑8]:=x;have r:=iX aj 4 4;rw[decide_eq_true rfl]at r;generalize aD w h=VE at q ⊢;simp![W2,Bv,r,q]
theorem KQ(A z:Slot)(w:Nat)(c:List Tx)(g:Good bo w c)(J:c.length<=8)(B y:PV)(v u s r:Slot):∃(i:List Tx),Good bo w i/\i.Pairwise (λa b=>cb a b=ah) /\ W3 [A,z,⇑5,.val y,.val (aD w c),.val B,v,u,s,r,.none]=.ok .next [A,z,⇑5,.val y,.val (aD w i),.val B,v,u,s,r,.none]:=by
 have C:=g.some;have G:Good bo w (c++c.take 1):=⟨λx d=>by
   rcases iw.mp d with d|d
   .exact g.len x d
   .exact g.len x (yB d),λx d=>by
   rcases iw.mp d with d|d
   .exact g.abc x d
   .exact g.abc x (yB d),by simp;lia,by simp;lia⟩
 refine⟨aZ (c++c.take 1),G.perm (gY _),kr _,?_⟩;have o:aO (aD w c) (.int 0)=aa (.int w):=rfl;have m:aO (aD w c) (.int 1)=aa (.tup (am c)):=rfl;have j:rj (.tup (am c)) ag (aa 1)=aa (.tup (am (c.take 1))):=by
  show(if HT.sIx (am c).length 0 ag=0/\HT.sIx (am c).length (am c).length (aa 1)=(am c).length then aa (PV.tup (am c))else aa (PV.tup (d7 (am c) ag (aa 1))))=_;by_cases n:HT.sIx (am c).length 0 ag=0/\HT.sIx (am c).length (am c).length (aa 1)=(am c).length
  .rw[if_pos n];have I:c.length<=1:=by have:=n.2;rw[f9]at this;have e:HT.sIx c.length c.length (aa 1)=min 1 c.length:=rfl;rw[e]at this;lia
   rw[rH I]
  .have H:d7 c ag (aa (1:Int))=c.take 1:=Ac c 1;rw[if_neg n,Hl,H]
 have f:a9 (.tup (am c)) (.tup (am (c.take 1)))=aa (.tup (am (c++c.take 1))):=by
  have q:am c≠[]/\am (c.take 1)≠[]/\(am c).length+(am (c.take 1)).length<=1000:=by
   have E:c≠[]:=λh=>by rw[h]at C;simp at C
   refine⟨by simpa[am]using E,by simpa[am]using E,?_⟩;rw[f9,f9,l4];lia
  show(if am c≠[]/\am (c.take 1)≠[]/\(am c).length+(am (c.take 1)).length<=1000 then aa (PV.tup (am c++am (c.take 1)))else ag)=_;rw[if_pos q,B3]
 have p:ff [.tup (am (c++c.take 1))]=aa (.lst (am (aZ (c++c.take 1)))):=by show(fH (am (c++c.take 1))).bind _=_;rw[mD,fm,if_pos (by have:=G.few;lia)]
 have D:f_ [.lst (am (aZ (c++c.take 1)))]=aa (.tup (am (aZ (c++c.take 1)))):=rfl;have l:PV.tup [.int w,.tup (am (aZ (c++c.take 1)))]=aD w (aZ (c++c.take 1)):=rfl;have F:=iX aj 5 5;rw[decide_eq_true rfl]at F;generalize aD w (aZ (c++c.take 1))=VE at l ⊢;generalize am (aZ (c++c.take 1))=SE at p D l;generalize am (c++c.take 1)=AE at f p;generalize am (c.take 1)=TE at j f;generalize am c=LP at m j f;generalize ((w:Nat):Int)=WI at o l;generalize aD w c=V at o m ⊢;simp![W3,zm,jf,kR,iE,F,o,m,j,f,p,D,l]
end
section
variable{a:Ad}
def mS:PV:=.tup [.str [114,101,102,117,115,101,100],.int 2]
theorem AK(b:Bool):Pu.eqT b mS (.tup [.str [114,101,102,117,115,101,100],.int 2])=aa (.bl (!b)):=by cases b <;> rfl
def Wh(a:Ad):Prop:=qP a [.val (.exc (.ref a.NoView))]=.ok (.val mS) [.val (.exc (.ref a.NoView))]
theorem LB(h:qP a [.val (.exc (.ref a.NoView))]=.ok (.val mS) [.val (.exc (.ref a.NoView))]):Wh a:=h
theorem qQ(b:Wh a){x y:PV}(h:jD a [.val x,.val y]=.er (.ref a.NoView) [.val x,.val y]):lT a [.val x,.val y]=.ok (.val mS) [.val x,.val y]:=by
 have c:qP a _=_:=b;have d:og a (.ref a.NoView)=ah:=by simp[og,hG]
 simp![lT,yaz,qL,tP,bL,h,d,c]
theorem vr{x y:PV}(h:iT a [.val x]=.ok (.val (.bl aj)) [.val x]):jD a [.val x,.val y]=.er (.ref a.NoView) [.val x,.val y]:=by have b:=Jp h;simp![jD,yaq,b]
theorem yY{w:Nat}{c:List Tx}(b:Blur w c){y:PV}(h:jJ a [.val y]=.ok (.val (.bl aj)) [.val y]):jD a [.val (aD w c),.val y]=.er (.ref a.NoView) [.val (aD w c),.val y]:=by have d:=blur_yes (a:=a) b;have e:=DD h;generalize aD w c=V at d;simp![jD,yaq,d,e]
theorem BW(s:Tx):fe a [.val (.tup [.int 2,.tup [.str [97,98],.str [97,46]]]),↥s]=.ok (.val (.bl aj)) [.val (.tup [.int 2,.tup [.str [97,98],.str [97,46]]]),↥s]:=by
 refine kW s (w:=2) (ls:=[[97,98],[97,46]]) ?_;have:¬[[97,98],[97,46]]=aZ [[97,98],[97,46]]:=λh=>by have r:=kr [[97,98],[97,46]];rw[<-h]at r;simp[cb]at r;exact absurd r (by decide)
 simp[eX,this]
def mF:List PV:=(.tup [.int 2,.tup [.str [97,98],.str [97,46]]])::mX
theorem Kz:∀x∈mF,jJ a [.val x]=.ok (.val (.bl aj)) [.val x]:=λx b=>by
 rcases dm.mp b with rfl|b
 .exact AB (BW bo)
 .exact Kf x b
theorem Af:∀x∈mF,iT a [.val x]=.ok (.val (.bl aj)) [.val x]:=λx b=>by
 rcases dm.mp b with rfl|b
 .exact wk _ (BW eW)
 .exact HS x b
theorem KU:iT a [.val (.tup [.int 2,.tup [.str [46,46],.str [46,46],.str [46,46],.str [46,46]]])]=.ok (.val (.bl aj)) [.val (.tup [.int 2,.tup [.str [46,46],.str [46,46],.str [46,46],.str [46,46]]])]:=by
 have h:=BF (a:=a) 2 [[46,46],[46,46],[46,46],[46,46]] (by decide);have e:decide (cn [[46,46],[46,46],[46,46],[46,46]]<=6)=aj:=by decide
 rw[e,yb]at h;exact h
theorem IB:jJ a [.val (.tup [.int 1,.tup [.str [46]]])]=.ok (.val (.bl aj)) [.val (.tup [.int 1,.tup [.str [46]]])]:=by
 have h:=z8 (a:=a) 1 [[46]];have e:vw 1 [[46]]=aj:=by simp[eX,fq,bo]
 rw[e]at h;exact h
def tO:List PV:=[.non,.int 5,.tup [.int 1,.tup []],.tup [.int 2,.tup [.str [97]]],.lst [.int 1,.tup [.str [97]]],.tup [.int 1,.tup [.str [100]]],.tup [.int 2,.tup [.str [97,98],.str [97,46]]]]
def qp(x:PV):List PV:=[x,x,.tup [.int 5,.tup [.str [97,97,97,97,97]]],.tup [.bl ah,.tup [.str [97]]],.tup [.int 1,.tup [.str [98],.str [97]]],.tup [.int 1,.lst [.str [97]]]]
theorem Ft:∀x∈tO,x∈mF:=by intro x b;simp only[tO,dm,yA,or_false]at b;rcases b with rfl|rfl|rfl|rfl|rfl|rfl|rfl <;> simp[mF,mX]
theorem G8{x:PV}(h:x∈mF):∀y∈qp x,y∈mF:=by
 intro y b;simp only[qp,dm,yA,or_false]at b;rcases b with rfl|rfl|rfl|rfl|rfl|rfl
 .exact h
 .exact h
 all_goals simp[mF,mX]
theorem Kc(f:List Int)(m:Nat)(T:m<8)(w:Nat)(u:1<=w)(s:w<=4)(c:List Tx)(g:Good bo w c)(F:c.Pairwise (λa b=>cb a b=ah))(G:c.length<=8)(d:List PV)(E:d.length<=300)(B e:PV):∃(v:Nat) (o r q:List Tx) (S:Nat) (p n:List PV) (l j i h:Slot),1<=v/\v<=4/\Good bo v q/\q.Pairwise (λa b=>cb a b=ah)/\n.length<=400 /\ W1 a [aY f,.own (.lst d),⇑m,.val e,.val (aD w c),.val B,.none,.none,.none,.none,.none]=.ok .next [aY f,.own (.lst p),⇑m,.val e,.val (aD w o),.val B,l,j,i,h,.none] /\ W2 a [aY f,.own (.lst p),⇑m,.val e,.val (aD w o),.val B,l,j,i,h,.none]=.ok .next [aY f,.own (.lst n),⇑m,.val e,.val (aD v r),.val B,l,j,i,h,.none] /\ W3 [aY f,.own (.lst n),⇑m,.val e,.val (aD v r),.val B,l,j,i,h,.none]=.ok .next [aY f,.own (.lst n),⇑m,.val e,.val (aD v q),.val B,l,j,i,h,.none]:=by
 by_cases J:m<4
 .obtain⟨o,p,l,j,i,h,Q,A,D,M⟩:=KW (a:=a) f m J w u s c g d ∅ B e;exact⟨w,o,o,o,w,p,p,l,j,i,h,u,s,Q,A,∅,M,vt _ ∅ ..,wf _ ∅ ..⟩
 .by_cases I:m=4
  .subst I;obtain⟨v,r,n,y,x,P,z,C,L⟩:=Gr (a:=a) f d E (aD w c) B e .none .none .none .none;exact⟨v,c,r,r,w,d,n,.none,.none,.none,.none,y,x,P,z,∅,xL _ ∅ ..,L,wf _ ∅ ..⟩
  .by_cases H:m=5
   .subst H;obtain⟨q,O,N,K⟩:=KQ (aY f) (.own (.lst d)) w c g G B e .none .none .none .none;exact⟨w,c,c,q,w,d,d,.none,.none,.none,.none,u,s,O,N,∅,xL _ ∅ ..,vt _ ∅ ..,K⟩
   .exact⟨w,c,c,c,w,d,d,.none,.none,.none,.none,u,s,g,F,∅,xL _ ∅ ..,vt _ ∅ ..,wf _ ∅ ..⟩
theorem GV(F:Wh a)(b:List Int):qh a [aY b]=.ok (.val (.bl ah)) [aY b]:=by
 obtain⟨f,f0,f5,hd⟩:=i6 (a:=a) b [] 8 (by decide) (by simp);obtain⟨m,rfl⟩:∃n:Nat,f=n:=⟨f.toNat,∅⟩
 obtain⟨p,p0,p5,hp⟩:=i6 (a:=a) b ([]++[.int 0]) 3 (by decide) (by simp);obtain⟨sp,rfl⟩:∃n:Nat,p=n:=⟨p.toNat,∅⟩
 obtain⟨w,d,H,w1,w4,_,g,hs,h8,_,X,hv⟩:=AS (a:=a) b ([]++[.int 0]++[.int 0]) sp 8 ∅ (by decide) (by decide) (by simp);obtain⟨c,N,bl,hdm,hlw,hzs,hb⟩:=blurredN_eq (a:=a) b H w d 6 ∅ w1 w4 (by simp at X;lia) g hs;obtain⟨v,l1,l2,e,w',y1,i,A,z,u,s,J,I,D,C,hy2,r,q,l⟩:=Kc (a:=a) b m ∅ w w1 w4 d g hs h8 N ∅ (aD w c) (.int sp);have h:=clears_eq (a:=a) bl D J I C;have L:=lclears_eq (a:=a) bl.g bl.w4 D C;have O:=clears_eq (a:=a) (D.blur J I C) D J I C;have yM:(decide (v=v)&&decide (e∈waysF e))=ah:=by rw[ways_self D C];simp
 rw[yM]at O;have he:=Jq ah (decide (w=v)&&decide (e∈waysF c)) (decide (w=v)&&decide (e∈waysF c));rw[decide_eq_true rfl]at he;obtain⟨x,hx,G⟩:=t6 (a:=a) b i tO ∅ (by decide);have Z:=Ft x hx;obtain⟨o,ho,P⟩:=t6 (a:=a) b (i++[.int 0]) (qp x) (by simp;lia) (by simp[qp]);have j:=G8 Z o ho;have a1:=qQ F (vr (a:=a) (y:=o) (Af o j));have a2:=qQ F (yY (a:=a) (D.blur J I C) (Kz o j));have a3:=qQ F (vr (a:=a) (y:=aD v e) KU);have a4:=qQ F (yY (a:=a) bl IB);have a5:=qQ F (vr (a:=a) (y:=aD v e) (Af o j));have K:=AK ah;have r2:=AK aj;have T:lC a [aY b,.own (.lst [.int 0,.int 0]),⇑sp,⇑8]=.ok (.val (aD w d)) [aY b,.own (.lst H),⇑sp,⇑8]:=hv;have S:qK a [aY b,.own (.lst H),.val (aD w d),⇑6]=.ok (.val (aD w c)) [aY b,.own (.lst N),.val (aD w d),⇑6]:=hb;simp only[jb]at hd hp;have dr:dW a [aY b,.own (.lst [.int 0]),⇑3]=.ok (⇑sp) [aY b,.own (.lst [.int 0,.int 0]),⇑3]:=hp;obtain⟨ε',W⟩:∃s1 s4 s5 E,yay a [aY b,.none,.none,.none,.none,.none,.none,.none,.none,.none,.none]=.ok (.ret (.val (.bl ah))) [aY b,s1,⇑m,⇑sp,s4,s5,A,z,u,s,E]:=by
  refine⟨.own (.lst (i++[.int 0]++[.int 0])),.val (aD v e),.val (aD w c),.val o,?_⟩;unfold yay;generalize ((m:Nat):Int)=M at hd r q l ⊢;generalize ((sp:Nat):Int)=SP at dr T r q l ⊢;refine(cU (ε1:=[aY b,.own (.lst []),.none,.none,.none,.none,.none,.none,.none,.none,.none]) (by simp![])).trans ?_;refine(cU (ε1:=[aY b,.own (.lst [.int 0]),⇑M,.none,.none,.none,.none,.none,.none,.none,.none]) (by simp![hd])).trans ?_;refine(cU (ε1:=[aY b,.own (.lst [.int 0,.int 0]),⇑M,⇑SP,.none,.none,.none,.none,.none,.none,.none]) (by simp![dr])).trans ?_;refine(cU (ε1:=[aY b,.own (.lst H),⇑M,⇑SP,.val (aD w d),.none,.none,.none,.none,.none,.none]) ?_).trans ?_
  .generalize aD w d=V at T;simp![T]
  refine(cU (ε1:=[aY b,.own (.lst N),⇑M,⇑SP,.val (aD w d),.val (aD w c),.none,.none,.none,.none,.none]) ?_).trans ?_
  .generalize aD w d=V at S;generalize aD w c=B at S;simp![S]
  refine(cU r).trans ?_;refine(cU q).trans ?_;refine(cU l).trans ?_;generalize (decide (w=v)&&decide (e∈waysF c))=Q at h L he;generalize aD w c=B at h L a4 ⊢;generalize aD v e=V at h L O a2 a3 a5 ⊢;refine(cU (ε1:=[aY b,.own (.lst i),⇑M,⇑SP,.val V,.val B,A,z,u,s,.none]) (by simp![h,L,O,he])).trans ?_;refine(cU (ε1:=[aY b,.own (.lst (i++[.int 0])),⇑M,⇑SP,.val V,.val B,A,z,u,s,.val x]) (by unfold tO at G;simp![G])).trans ?_;refine(cU (ε1:=[aY b,.own (.lst (i++[.int 0]++[.int 0])),⇑M,⇑SP,.val V,.val B,A,z,u,s,.val o]) (by unfold qp at P;generalize i++[PV.int 0]=Y at P ⊢;simp![P])).trans ?_;generalize i++[PV.int 0]++[PV.int 0]=Y;refine(cU (ε1:=[aY b,.own (.lst Y),⇑M,⇑SP,.val V,.val B,A,z,u,s,.val o]) (by generalize mS=RF at a1 a2 K;simp![a1,a2,K])).trans ?_;refine(cU (ε1:=[aY b,.own (.lst Y),⇑M,⇑SP,.val V,.val B,A,z,u,s,.val o]) (by generalize mS=RF at a3 K;simp![a3,K])).trans ?_;generalize mS=RF at a4 a5 r2;simp![a4,a5,r2]
 obtain⟨s4,s5,E,W⟩:=W;simp[qh,bO,e_,bN,dq,W,back,gz,a_,R.bind]
end
open L2 Pu Sh
def qV(K:ar)(a:Ad):Bool:=l9 K a.SlitError qH "ValueError.__new__" && (hG a).all (λx=>l9 K x qH "ValueError.__new__" && subB K a.SlitError x&&tF K x&&(hG a).all (λd=>dQ K (.ref x) (.ref d) == aa (x == d))&&dQ K (.ref x) (.type "ValueError") == aa ah)&&vc K&&decide (hG a).Nodup
section
variable{K:ar}{h g:aB}{i:Str->Option ai}{a:Ad}
theorem qm(h:qV K a=ah):l9 K a.SlitError qH "ValueError.__new__"=ah/\(∀x∈hG a,l9 K x qH "ValueError.__new__"=ah/\subB K a.SlitError x=ah/\tF K x=ah/\(∀d∈hG a,dQ K (.ref x) (.ref d)=aa (x == d))/\dQ K (.ref x) (.type "ValueError")=aa ah)/\vc K=ah/\(hG a).Nodup:=by unfold qV at h;simp only[fP,jV,beq_iff_eq,decide_eq_true_eq]at h;obtain⟨⟨⟨j,c⟩,f⟩,e⟩:=h;exact⟨j,λx b=>⟨(c x b).1.1.1.1,(c x b).1.1.1.2,(c x b).1.1.2,(c x b).1.2,(c x b).2⟩,f,e⟩
theorem HG(h:qV K a=ah):vS K (ip a):=by
 obtain⟨_,l,_,_⟩:=qm h;intro c D b e;unfold ip at e;split at e
 .rename_i x d;split at e
  .rename_i f;rw[fP]at f;cases e;have j:x∈hG a:=by simpa using f.1
   have m:d∈hG a:=by simpa using f.2
   exact⟨x,.ref d,rfl,zV (l x j).2.2.1,rfl,(l x j).2.2.2.1 d m⟩
  .cases e
 .rename_i x T;split at e
  .rename_i f;rw[fP]at f;cases e;have j:x∈hG a:=by simpa using f.1
   have n:T = "ValueError":=by simpa using f.2
   subst n;exact⟨x,.type "ValueError",rfl,zV (l x j).2.2.1,rfl,(l x j).2.2.2.2⟩
  .cases e
 .cases e
theorem Is(X:K.In g)(h:qV K a=ah):∀c,og a c=ah->Under g a.SlitError c:=by
 obtain⟨_,d,_,_⟩:=qm h;intro c e;unfold og at e;split at e
 .rename_i x;have b:x∈hG a:=by simpa using e
  exact Fa X (d x b).1 (d x b).2.1
 .cases e
structure Top(K:ar)(a:Ad):Prop where
 yaB:df K "_law_cell_at" vq
 yaF:df K "_law_mixed" vg
 yaD:df K "_law_draw" wq
 yaH:df K "_law_seen" sH
 yaG:df K "_law_pick" xx
 yaI:df K "_law_text" v8
 yaJ:df K "_law_view" vI
 yaA:df K "_law_blurred" qc
 yav:df K "is_whole_number" vN
 yaw:df K "is_width" xH
 yar:df K "has_only" sY
 yax:df K "is_window" xg
 yam:df K "are_windows" tq
 yau:df K "is_view_with" wY
 yas:df K "is_blurred_view" wK
 yan:df K "check_blurred_view" xC
 yat:df K "is_view" wC
 yao:df K "check_view" xJ
 yaL:df K "windows_that_fit" tj
 yap:df K "clearing_views" sK
 yaq:df K "clears" wd
 yaK:df K "_law_which" vX
 yaz:df K "_law_ask" vL
 yaE:df K "_law_fits" tm
 yaC:df K "_law_clears" rk
 yay:df K "law" sE
 yaM:cH K bQ "ValueError"=aa ag
 yaN:cH K bQ "all"=aa ag
 yaO:cH K bQ "bool"=aa ag
 yaP:cH K bQ "int"=aa ag
 yaQ:cH K bQ "isinstance"=aa ag
 yaR:cH K bQ "len"=aa ag
 yaS:cH K bQ "list"=aa ag
 yaT:cH K bQ "range"=aa ag
 yaU:cH K bQ "sorted"=aa ag
 yaV:cH K bQ "str"=aa ag
 yaW:cH K bQ "tuple"=aa ag
 yaY:∃t,cH K bQ "LETTERS"=aa (aa (.str (tS [97,98,99]) t))
 yaZ:∃t,cH K bQ "MOST_POINTS"=aa (aa (.int 6 t))
 ya0:∃t,cH K bQ "MOST_WINDOWS"=aa (aa (.int 9 t))
 ya1:∃t,cH K bQ "POINT"=aa (aa (.str (tS [46]) t))
 ya2:∃t,cH K bQ "WIDEST"=aa (aa (.int 4 t))
 yak:cH K bQ "SlitError"=aa (aa (.ref a.SlitError))
 yaf:cH K bQ "NoText"=aa (aa (.ref a.NoText))
 yah:cH K bQ "NoWidth"=aa (aa (.ref a.NoWidth))
 yag:cH K bQ "NoView"=aa (aa (.ref a.NoView))
 yai:cH K bQ "NoWindow"=aa (aa (.ref a.NoWindow))
 yac:cH K bQ "Never"=aa (aa (.ref a.Never))
 yab:cH K bQ "Full"=aa (aa (.ref a.Full))
 yaj:cH K bQ "Nothing"=aa (aa (.ref a.Nothing))
 yal:cH K bQ "Unlike"=aa (aa (.ref a.Unlike))
 yae:cH K bQ "NoPlace"=aa (aa (.ref a.NoPlace))
 yad:cH K bQ "NoLetters"=aa (aa (.ref a.NoLetters))
 yaa:cH K bQ "BadText"=aa (aa (.ref a.BadText))
 ck:qV K a=ah
 z0:nj K "road"=ag
 wh:Wh a
theorem Fi(T:Top K a)(X:K.In g)(G:g.Ns bQ i):dz K i g a where
 yaB:=T.yaB.at X G
 yaF:=T.yaF.at X G
 yaD:=T.yaD.at X G
 yaH:=T.yaH.at X G
 yaG:=T.yaG.at X G
 yaI:=T.yaI.at X G
 yaJ:=T.yaJ.at X G
 yaA:=T.yaA.at X G
 yav:=T.yav.at X G
 yaw:=T.yaw.at X G
 yar:=T.yar.at X G
 yax:=T.yax.at X G
 yam:=T.yam.at X G
 yau:=T.yau.at X G
 yas:=T.yas.at X G
 yan:=T.yan.at X G
 yat:=T.yat.at X G
 yao:=T.yao.at X G
 yaL:=T.yaL.at X G
 yap:=T.yap.at X G
 yaq:=T.yaq.at X G
 yaK:=T.yaK.at X G
 yaz:=T.yaz.at X G
 yaE:=T.yaE.at X G
 yaC:=T.yaC.at X G
 yay:=T.yay.at X G
 yaM:=kF X G T.yaM
 yaN:=kF X G T.yaN
 yaO:=kF X G T.yaO
 yaP:=kF X G T.yaP
 yaQ:=kF X G T.yaQ
 yaR:=kF X G T.yaR
 yaS:=kF X G T.yaS
 yaT:=kF X G T.yaT
 yaU:=kF X G T.yaU
 yaV:=kF X G T.yaV
 yaW:=kF X G T.yaW
 yaY:=T.yaY.imp λ_ e=>fQ X G e
 yaZ:=T.yaZ.imp λ_ e=>fQ X G e
 ya0:=T.ya0.imp λ_ e=>fQ X G e
 ya1:=T.ya1.imp λ_ e=>fQ X G e
 ya2:=T.ya2.imp λ_ e=>fQ X G e
 yak:=fQ X G T.yak
 yaf:=fQ X G T.yaf
 yah:=fQ X G T.yah
 yag:=fQ X G T.yag
 yai:=fQ X G T.yai
 yac:=fQ X G T.yac
 yab:=fQ X G T.yab
 yaj:=fQ X G T.yaj
 yal:=fQ X G T.yal
 yae:=fQ X G T.yae
 yad:=fQ X G T.yad
 yaa:=fQ X G T.yaa
 yaX:=EM X (fQ X G T.yag) ((qm T.ck).2.1 a.NoView (by simp[hG])).1
 err_SlitError:=Jz X (qm T.ck).1
 und:=Is X T.ck
 tab:=HG T.ck
theorem Gp{l:x_}{w:aK}{d:af}(X:K.In h)(G:h.Ns bQ i)(b:i "law"=aa (.ref d))(T:Top K a):∃c:gi,(∀(s:ao) (v:ai),BindsTo s c ⟨[v],[]⟩ [("_law_script",v)])/\∀g:aB,K.In g->g.Ns bQ i->jC l.prog w K i g (cx l.prog w) 9 d c ["_law_script"] (bS K (qh a)):=by
 obtain⟨f,oc,x,kV,y,u,B,A,z,r,o,n,m,j⟩:=T.yay;have e:=b.symm.trans (fQ X G o);cases e;exact⟨_,λs v=>.of_eq rfl,λg p q=>G4 (Fi T p q) (Bq n m j)⟩
theorem FP{l:x_}{q:aT}{j:List Str}{XP:(Str->Option ai)->aB->Prop}{o:aK->aB->Prop}{d:DefRec}{K:Params->ar}(y:l.most=aa 63)(v:d.params.defaults=[])(m:d.name = "law")(A:∀(w:aK) (h:aB),o w h->(K w.params).In h) {a:Ad} (T:∀w:aK,Top (K w.params) a):PySem.W.WalkO q j XP o l.row.toRowW d [] (λf p=>PySem.call f p) :=
 L2.LH (n:=63) (k:=9) (x:="_law_script") (K:=K) (CX:=λw=>cx l.prog w) (sp:=λw=>bS (K w.params) (qh a)) y (by decide) v ⟨rfl,by decide,by decide⟩ (λw h Y=>⟨A w h Y,λc P e=>by rw[(T w).z0]at e;cases e⟩)
  (λw i F h C G r=>Gp C G (by rw[<-m];exact r) (T w))
  (λw H b u E _ B=>JT (Jh (qm (T w).ck).2.2.1 B) (GV (T w).wh u))
  (λw H s e D z=>by obtain⟨_,_,_,_,_,_,_,_,_,_,_,f⟩:=z;exact f)
theorem LC{l:x_}{q:aT}{b:List Str}{XP:(Str->Option ai)->aB->Prop}{e:aK->aB->Prop}{d:DefRec}{K:Params->ar}{yak yaf yah yag yai yac yab yaj yal yae yad yaa:af}(n:l.most=aa 63)(m:d.params.defaults=[])(c:d.name = "law")(o:∀(w:aK) (h:aB),e w h->(K w.params).In h) (T:∀w:aK,Top (K w.params) ⟨yak,yaf,yah,yag,yai,yac,yab,yaj,yal,yae,yad,yaa,0,0⟩):PySem.W.WalkO q b XP e l.row.toRowW d [] (λf j=>PySem.call f j):=FP n m c o T
end
end K07
def PySem.W.Fast.tw16240010496339438143:Nat:=0
def PySem.W.Fast.tw16493707372516115664:Nat:=0
def PySem.W.Fast.tw10445463656071313719:Nat:=0
def PySem.W.Fast.tw13894943729882720437:Nat:=0
def PySem.W.Fast.tw821002055572258964:Nat:=0
def PySem.W.Fast.tw15460704502157757277:Nat:=0
def PySem.W.Fast.tw10254831752858059250:Nat:=0
def PySem.W.Fast.tw2057037519878416565:Nat:=0
def PySem.W.Fast.tw17794886979747547968:Nat:=0
def PySem.W.Fast.tw4457906831216426922:Nat:=0
def PySem.W.Fast.tw5113063435719961284:Nat:=0
def PySem.W.Fast.tw9817676702435596203:Nat:=0
def PySem.W.Fast.tw16665229628274993786:Nat:=0
def PySem.W.Fast.tw9869605655830339169:Nat:=0
def PySem.W.Fast.tw3532878425571983787:Nat:=0
def PySem.W.Fast.tw2238668615206967623:Nat:=0
def PySem.W.Fast.tw10065139033234498606:Nat:=0
def PySem.W.Fast.tw4233362128909789957:Nat:=0
def PySem.W.Fast.tw15718455740366372318:Nat:=0
def PySem.W.Fast.tw3833614024979661724:Nat:=0
def PySem.W.Fast.tw4456631934430042575:Nat:=0
def PySem.W.Fast.tw16595611027314017731:Nat:=0
def PySem.W.Fast.tw581619239701947400:Nat:=0
def PySem.W.Fast.tw10304836944816221307:Nat:=0
def PySem.W.Fast.tw6168757870796753365:Nat:=0
def PySem.W.Fast.tw4369850239107860392:Nat:=0
def PySem.W.Fast.tw3067512908362170374:Nat:=0
def PySem.W.Fast.tw12004053444232374395:Nat:=0
def PySem.W.Fast.tw17320328316557607636:Nat:=0
def PySem.W.Fast.tw15109731204318213447:Nat:=0
def PySem.W.Fast.tw12885770360031081130:Nat:=0
def PySem.W.Fast.tw2152803768499834501:Nat:=0
def PySem.W.Fast.tw12087095964485877160:Nat:=0
def PySem.W.Fast.tw12256785582474123522:Nat:=0
def PySem.W.Fast.tw16075077636466863444:Nat:=0
def PySem.W.Fast.tw10498895567395216051:Nat:=0
def PySem.W.Fast.tw18124926380660401183:Nat:=0
def PySem.W.Fast.tw9015471717187589910:Nat:=0
def PySem.W.Fast.tw13508281000229462616:Nat:=0
def PySem.W.Fast.tw11399890462269113332:Nat:=0
def PySem.W.Fast.tw17822413436192963623:Nat:=0
def PySem.W.Fast.tw17607931588359601209:Nat:=0
def PySem.W.Fast.tw9186068329402327143:Nat:=0
def PySem.W.Fast.tw12958109500286295565:Nat:=0
def PySem.W.Fast.tw6819564559049415394:Nat:=0
def PySem.W.Fast.tw796604439630265474:Nat:=0
def PySem.W.Fast.tw17882149772689754207:Nat:=0
def PySem.W.Fast.tw3158871941679835837:Nat:=0
def PySem.W.Fast.tw8973852810136506268:Nat:=0
def PySem.W.Fast.tw12317129785276503527:Nat:=0
def PySem.W.Fast.tw6148249331084828202:Nat:=0
def PySem.W.Fast.tw12726636145416046713:Nat:=0
def PySem.W.Fast.tw15362664404640274425:Nat:=0
def PySem.W.Fast.tw18032175093896064859:Nat:=0
def PySem.W.Fast.tw12325778476953788301:Nat:=0
def PySem.W.Fast.tw1908801028868423192:Nat:=0
def PySem.W.Fast.tw5091559736391824182:Nat:=0
def PySem.W.Fast.tw8915536734095832531:Nat:=0
def PySem.W.Fast.tw12599191522000542450:Nat:=0
def PySem.W.Fast.tw13891554124986281548:Nat:=0
open PySem PySem.W PyProof.Rows
set_option maxRecDepth 100000 in
set_option maxHeartbeats 0 in
theorem PySem.Challenge.cw_slitview_k07_whole_clears_holds : PySem.Challenge.rw_slitview_k07_whole_clears.Holds := by
 w_on; o_law; k_head; (case hw=>w_witness2)
 k_fill
 refine' K07.LC (l:=PySem.Challenge.rw_slitview_k07_whole_clears) rfl rfl rfl (fun w h Y=>PySem.W.kIn_of Y) ?T
 case T =>
  intro w
  refine' { yaB:=?yaB,yaF:=?yaF,yaD:=?yaD,yaH:=?yaH,yaG:=?yaG,yaI:=?yaI,yaJ:=?yaJ,yaA:=?yaA,yav:=?yav,yaw:=?yaw,yar:=?yar,yax:=?yax,yam:=?yam,yau:=?yau,yas:=?yas,yan:=?yan,yat:=?yat,yao:=?yao,yaL:=?yaL,yap:=?yap,yaq:=?yaq,yaK:=?yaK,yaz:=?yaz,yaE:=?yaE,yaC:=?yaC,yay:=?yay,yaM:=?yaM,yaN:=?yaN,yaO:=?yaO,yaP:=?yaP,yaQ:=?yaQ,yaR:=?yaR,yaS:=?yaS,yaT:=?yaT,yaU:=?yaU,yaV:=?yaV,yaW:=?yaW,yaY:=?yaY,yaZ:=?yaZ,ya0:=?ya0,ya1:=?ya1,ya2:=?ya2,yak:=?yak,yaf:=?yaf,yah:=?yah,yag:=?yag,yai:=?yai,yac:=?yac,yab:=?yab,yaj:=?yaj,yal:=?yal,yae:=?yae,yad:=?yad,yaa:=?yaa,ck:=?ck,z0:=?z0,wh:=?wh }
  (case yak=>k_is)
  (case yaf=>k_is)
  (case yah=>k_is)
  (case yag=>k_is)
  (case yai=>k_is)
  (case yac=>k_is)
  (case yab=>k_is)
  (case yaj=>k_is)
  (case yal=>k_is)
  (case yae=>k_is)
  (case yad=>k_is)
  (case yaa=>k_is)
  (case yaB=>and_intros)
  (case yaF=>and_intros)
  (case yaD=>and_intros)
  (case yaH=>and_intros)
  (case yaG=>and_intros)
  (case yaI=>and_intros)
  (case yaJ=>and_intros)
  (case yaA=>and_intros)
  (case yav=>and_intros)
  (case yaw=>and_intros)
  (case yar=>and_intros)
  (case yax=>and_intros)
  (case yam=>and_intros)
  (case yau=>and_intros)
  (case yas=>and_intros)
  (case yan=>and_intros)
  (case yat=>and_intros)
  (case yao=>and_intros)
  (case yaL=>and_intros)
  (case yap=>and_intros)
  (case yaq=>and_intros)
  (case yaK=>and_intros)
  (case yaz=>and_intros)
  (case yaE=>and_intros)
  (case yaC=>and_intros)
  (case yay=>and_intros)
  (case yaM=>k_is)
  (case yaN=>k_is)
  (case yaO=>k_is)
  (case yaP=>k_is)
  (case yaQ=>k_is)
  (case yaR=>k_is)
  (case yaS=>k_is)
  (case yaT=>k_is)
  (case yaU=>k_is)
  (case yaV=>k_is)
  (case yaW=>k_is)
  (case yaY=>refine' Pu.Lu ?e; (case e=>k_is))
  (case yaZ=>refine' Pu.LA ?e; (case e=>k_is))
  (case ya0=>refine' Pu.LA ?e; (case e=>k_is))
  (case ya1=>refine' Pu.Lu ?e; (case e=>k_is))
  (case ya2=>refine' Pu.LA ?e; (case e=>k_is))
  (case ck=>kernel_rfl)
  (case z0=>kernel_rfl)
  (case wh=>refine K07.LB ?_; kernel_rfl)
