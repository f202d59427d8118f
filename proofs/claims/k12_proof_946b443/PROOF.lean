import PyProof.Rows.All
import Wide.All
import OpenK.AllK
import Wide.FinOn
import Lean
import PyProof.EqAt
import PyProof.EqKinds
import PyProof.TupleCall
import KE.KIntText
import KE.KDictList
import KE.KDictSum
import PyProof.Rows.Range3
import PyProof.DictWalks
import KE.KMinKey
import KE.KSortTup
import PyProof.EnumStmt
import PyProof.EnumMake
import PyProof.EnumFor
import PyProof.Draws
import PyProof.Rows.TupDisplay
import PySem.Challenge.RW_slitview_k12_whole_shortest
noncomputable section
set_option compiler.extract_closed false
local macro_rules | `(tactic| eq_refl) => `(tactic| first | exact Or.inl rfl | exact Or.inr (Or.inl rfl) | exact Or.inr (Or.inr rfl))
local macro_rules | `(∅) => `(by first | lia | omega)
set_option Elab.async false
set_option bootstrap.genMatcherCode false
set_option genSizeOf false
set_option linter.all false
set_option maxRecDepth 100000
local macro_rules | `(tactic| ac_nf) => `(tactic| exact ⟨rfl,rfl,rfl,by decide +kernel,rfl,by decide +kernel,by decide +kernel⟩)
open Option renaming some->aa,none->ae,bind_some->jn,map_eq_some_iff->ma,map_some->xq,bind_eq_some_iff->AD,getD_none->Fm,isSome_map->Ft
open PySem renaming Addr->af,Value->ah,Shared->ao,wpAny_bind->ap,wpAny->aq,model->aw,Expr->az,Heap->aB,wpAny_pure->aC,World->aE,Program->aL,eval->aM,starEach->aP,Around->aS,sizeLine->aX,Stmt->bi,mainGlobals->cn,rawInt->cP,Scope->cU,compareOp->dr,backTo->dA,bootBuiltins->dW,wpAny_mono->eP,bindArgs->eQ,cellsFrom->fe,binaryOp->fG,NameKind->fR,FuncData->gw,sysModules->ip,Paired->iK,swapsWith->iM,wpAny_holding->iN,strKind->iQ,SetTable->jm,Keyword->jH,wpAny_newObj_type->jI,mem_of_lookup->j8,setField->ka,argBest->kg,hashStr->k6,wpAny_truthy_bool->k8,pyNext->k_,pyIter->lc,isTrue->l9,IsPart->l_,wpAny_rule->me,setNext->mh,builtinsNs->mU,holding->mV,assign->mW,foldedSetIterable->mX,sizeLine_eq->mY,codeAny->mZ,wpAny_call_entry->m_,attributeBase->ni,codeAny_builtin->nq,behindInMarks->oQ,getItem->oU,plainId_quiet->oZ,wpAny_setField->o0,reduceHash->qx,assignEach->qy,backToKw->qz,keywordEach->qA,Arguments->qB,wpAny_field->qC,sliceBounds->qD,valueAt->qH,callerA->qI,relayAll->qO,wpAny_setState_of->qP,wpAny_askSetting->qR,tupleKind->tj,codeAmong->tm,DictEntry->tD,wpAny_of_eq->tG,pickOrder->tI,eqIsQuiet->tQ,wpAny_tryCatch->tR,wpAny_Name->wO,wpAny_passesOwn->wP,recursionLimit->wS,codeAny_mono->wU,wpAny_Call_Name_kw->wV,wpAny_loadPart'->wX,wpAny_specialOf->w6,closureFor->xf,wpAny_pyIter_list->xk,setsByText->xp,wpAny_seqItems->xr,wpAny_ite_split->xt,letOwnedTupleGo->Ac,IsRangeIter->Ae,wpAny_callSpecial?_slot->Ai,subscripted->Ak,wpAny_attempt->Au,firstArgMember->Av,wpAny_isInstance->Aw,wpAny_forIn_list->AJ,wpAny_typeNameOfWhole_keyiter->AL,wpAny_typeNameOf_keyiter->AM,richCompare->AN,wpAny_letGo->AO,wpAny_loadName_local->Fd,noFill_tuple_add->Fh,tupleKind_room_in1->Fu,wpAny_pyIter_slot->FD,wpAny_dictEntries->FU
open Bool renaming true->ai,false->aj,false_ne_true->dX,and_eq_true->fU,false_eq_true->jL,eq_iff_iff->lg,or_eq_true->xn,not_eq_true'->FK
open PySem.W renaming Frag->ax,nsIn->eX,kitOne->iO,fnOf->jl,tabIn->j7,mg_none_of->kj,kia_one->lh,mg_of->nr,excIn->qS,keepIn->tw,findIn->wR,codeIn->wW,codeHdIn->w8,OpenLaw->Ao,kla_obj->AI,methodObj->Fc
open PyProof.Rows renaming wpS_bind->aD,wpS_pure->aJ,pendingOf->bg,SortSt->bw,StrsAre->dY,seqObj->et,wpS_mono->fV,wpS_forRange->fW,SortKind->gU,size_push'->iR,envOfC->jj,wpS_get->kh,pairsOf->lu,AllBare->l7,wpS_modify->mj,wpS_lift->qT,get?_update_seq->xw,callWith_type1->Ag,listUpdate_at->Ay,callWith_builtin1->Pi,slot_tuple_getitem->Pj
open Nat renaming le_refl->aZ,le_trans->cA,ne_of_lt->cT,lt_irrefl->eO,lt_of_lt_of_le->fc,lt_succ_of_lt->jM,zero_le->j9,ne_of_gt->k9,le_of_eq->ln,lt_succ_self->lq,le_of_lt->l8,succ_mul->oX,add_assoc->o4,zero_add->tL,lt_of_le_of_lt->w_,le_succ->xg,mul_le_mul->xo,lt_trans->An,add_right_comm->FJ,le_succ_of_le->FN,lt_or_eq_of_le->F9
open PySem.Heap renaming get?_push_of_some->bh,lt_size->bo,get?_push_size->cf,SameBut->jF,get?_update_self->nh,get?_update_other->oW,get?_none_of_le->wN,size_push->Ap,get?_update_ne->FG,size_update->FI
open List renaming mem_cons->br,range->bI,size_toArray->bJ,mem_map->cp,length_append->cK,getElem?_eq_some_iff->cY,replicate->df,length_map->dD,length_cons->dE,map_cons->dO,getElem?_set_ne->ef,getElem?_eq_getElem->eh,map_map->eu,mem_singleton->eR,nil_append->fH,getElem?_set_self->gh,getElem?_map->gx,length_set->gQ,find?_cons->gR,length_nil->gT,mem_append->iq,getElem?_append_left->ir,cons_append->iu,mem_filter->iL,append_nil->iP,range'->iS,length_take->jk,mem_cons_self->jD,mem_cons_of_mem->jE,lookup_cons->jJ,eq_nil_of_length_eq_zero->jK,not_mem_nil->jN,mem_range->j6,foldl_cons->j_,append_assoc->kc,all_eq_true->ke,mem_append_right->lf,nodup_cons->lj,length->lm,take_of_length_le->lp,length_drop->m8,map_congr_left->nk,filter_map->nt,getElem?_append_right->oR,mem_of_getElem?->oS,mem_reverse->o5,all_cons->qE,any_cons->qF,length_singleton->qG,take_append_drop->qJ,range_succ->qK,map_append->qL,length_range->qM,lt_irrefl->qU,length_erase_of_mem->qW,filterMap_cons->tq,getD->tE,take_length->tN,map_nil->wZ,drop_append_of_le_length->xh,range_succ_eq_map->xi,all_map->xj,drop_zero->xm,getElem?_eq_none->xu,drop_eq_getElem_cons->xx,getD_eq_getElem?_getD->xz,getElem_of_mem->xA,flatMap_cons->xC,mem_append_left->Ab,lookup->Aq,le_antisymm->Ar,getElem_mem->As,foldl_append->At,ext_getElem?->Ax,nodup_append->Az,take_zero->AA,getElem_drop->AE,getElem_take->AF,singleton_append->AG,drop_eq_nil_iff->AH,not_lt->AQ,cons_lt_cons_iff->AS,take_append_of_le_length->AT,dropLast->AU,drop_of_length_le->AV,filter_eq_self->AW,replicate_succ->Fs,lookup_append->Fw,drop_succ_cons->Fx,getElem?_range->Fy,toList_toArray->Fz,pairwise_cons->FA,mem_iff_getElem?->FH,length_dropLast->FM,take_succ_eq_append_getElem->FO,pairwise_append->FP,reverse_append->FQ,reverse_perm->FR,pairwise_reverse->FS,map_eq_nil_iff->FW,range'_succ->FX,filter_append->FY,length_filter_le->FZ,filter_flatMap->F6,filter_cons->F7,count_cons_self->F_,count_cons_of_ne->Ga,perm_cons_erase->Gb,find?_eq_none->Gc,ne_nil_of_mem->Gd,findIdx?_eq_some_iff_getElem->Pk
open Option.some renaming inj->dz
open Ne renaming symm->fF
open PySem.Str renaming empty->gi,length->ng,ofString->oV
open PySem.Obj renaming mapSeq->gk,mapFields->mi,data_mapFields->tK,isFreed_of_fields->AB
open Int renaming toNat_natCast->gy,natCast_nonneg->Ff,emod_lt_of_pos->F8
open Array renaming toList_append->gz,length_toList->jG,getElem_extract->ml,getElem?_eq_some_iff->nj,toList_push->tF,getElem?_eq_getElem->tJ,getElem?_toList->tP,perm_iff_toList_perm->FT
open PyProof.Rows.KeyOrd renaming kle_of_klt->ki,kle_refl->lr,kle_trans->tO
open PySem.Builtin.Tuple renaming tupleHashOf->k7,tupleExact->Aj
open False renaming elim->li
open PySem.Heap.SameBut renaming update->mf
open PySem.PassesOwn renaming never->mn
open PySem.Value renaming isStrOf->oP
open PySem.Around renaming under_plainId->oY
open List.Perm renaming refl->qN,append_left->FE
open PySem.SetTable renaming grown->qQ,below->Pm
open PySem.F renaming plain_min_loop->qV,slot_dict_keyiterator_next->AK,slot_tuple_add->Fi,entry_tuple_add->Fj,args_tuple_add_2->Fk,slot_dict_get->Fv,entry_min_loop->FV,entry_dict_keyiterator_next->Pn,args_dict_keyiterator_next_1->Po,slot_tuple_hash->Pp
open PySem.Builtin renaming bitAnd->tt,bitOr->wQ
open PySem.Calls renaming spliced_cons->tu,spliced_nil->wT,evalArgs_plain->Am,Name_function_global->Fe,callWith_builtin->Fp
open PySem.SeqAt renaming EqAt->tz
open PySem.Paired renaming length->wM,snoc->wY
open PySem.Walks renaming list->xl
open Nat.succ renaming inj->xy
open Function renaming comp->xD
open PySem.Builtin.Range renaming rangeSize->Af
open PySem.Builtin.Slice renaming slicePlaces->Ah,sliceAdjust->Fl
open PySem.Builtin.Str renaming occurrences->Fg
open PySem.SeqAt.EqAt renaming str_str->Fo
open PySem.Builtin.List renaming listTooLong->Fq
open PyProof.Rows.F renaming plain_set_update_loop->FC,entry_set_update_loop->Pl
open PySem.SetTable.below renaming go->FF
open Std.Legacy renaming Range->Qg
open PySem PySem.Spec PyProof.Rows
namespace L2
abbrev aR:=Sum Int Str
def qh:aR->ah->Bool
 |.inl k,v=>Value.isInt k v
 |.inr x,v=>oP x v
def OZ(w:aE):aR->Int
 |.inl k=>hashInt k
 |.inr x=>k6 w x
theorem lY:∀{k:aR}{v:ah},qh k v=ai->(∃i t,k=Sum.inl i/\v=Value.int i t)\/(∃x t,k=Sum.inr x/\v=Value.str x t)
 |.inl i,v,h=>by obtain⟨t,e⟩:=Value.isInt_shape (k:=i) (v:=v) h;exact .inl ⟨i,t,rfl,e⟩
 |.inr x,v,h=>by obtain⟨t,e⟩:=Value.isStrOf_shape (x:=x) (v:=v) h;exact .inr ⟨x,t,rfl,e⟩
theorem Hc(i:Int)(t:Tok):qh (.inl i) (.int i t)=ai:=by simp[qh,Value.isInt]
theorem MC(x:Str)(t:Tok):qh (.inr x) (.str x t)=ai:=by simp[qh,oP]
theorem N_(a b:Int):decide ((Sum.inl a:aR)=Sum.inl b)=(a == b):=by
 by_cases e:a=b
 .subst e;simp
 .have h:¬(Sum.inl a:aR)=Sum.inl b:=λq=>e (Sum.inl.inj q);rw[decide_eq_false h];exact(beq_eq_false_iff_ne.mpr e).symm
theorem Ov(a b:Str):decide ((Sum.inr a:aR)=Sum.inr b)=decide (a=b):=by
 by_cases e:a=b
 .subst e;simp
 .have h:¬(Sum.inr a:aR)=Sum.inr b:=λq=>e (Sum.inr.inj q);rw[decide_eq_false h,decide_eq_false e]
theorem Iz(a:Int)(b:Str):decide ((Sum.inl a:aR)=Sum.inr b)=aj:=decide_eq_false (λq=>nomatch q)
theorem IM(a:Str)(b:Int):decide ((Sum.inr a:aR)=Sum.inl b)=aj:=decide_eq_false (λq=>nomatch q)
def h_(c:aL)(w:aE):PySem.KeyKind c w aR where
 is:=qh
 hash:=OZ w
 inj:=λv a b l f=>by
  rcases lY l with⟨i,t,rfl,rfl⟩|⟨x,t,rfl,rfl⟩
  .rcases lY f with⟨j,u,rfl,e⟩|⟨y,u,rfl,e⟩
   .injection e with e1 _;rw[e1]
   .exact nomatch e
  .rcases lY f with⟨j,u,rfl,e⟩|⟨y,u,rfl,e⟩
   .exact nomatch e
   .injection e with e1 _;rw[e1]
 byValue:=λk v h=>by rcases lY h with⟨i,t,rfl,rfl⟩|⟨x,t,rfl,rfl⟩ <;> rfl
 pyHash:=λd h=>by
  rcases lY d with⟨i,t,rfl,rfl⟩|⟨x,t,rfl,rfl⟩
  .exact wpAny_pyHash_int h
  .exact wpAny_pyHash_str h
 eqBool:=λg d h=>by
  rcases lY g with⟨i,t,rfl,rfl⟩|⟨x,t,rfl,rfl⟩
  .rcases lY d with⟨j,u,rfl,rfl⟩|⟨y,u,rfl,rfl⟩
   .rw[N_]at h;exact wpAny_eqBool_int h
   .rw[Iz]at h;exact SeqAt.EqAt.int_str i t y u _ _ _ _ h
  .rcases lY d with⟨j,u,rfl,rfl⟩|⟨y,u,rfl,rfl⟩
   .rw[IM]at h;exact SeqAt.EqAt.str_int x t j u _ _ _ _ h
   .rw[Ov]at h;exact wpAny_eqBool_str h
 «strs»:=λk x t v h=>by
  rcases lY h with⟨i,u,rfl,e⟩|⟨y,u,rfl,e⟩
  .exact nomatch e
  .injection e with e1 _;subst e1;cases v <;> rfl
theorem GO(a:aL)(w:aE)(i:Int)(t:Tok):(h_ a w).is (.inl i) (.int i t)=ai:=Hc i t
theorem IN(a:aL)(w:aE)(x:Str)(t:Tok):(h_ a w).is (.inr x) (.str x t)=ai:=MC x t
inductive V where
 |non|bl (b:Bool)|int (i:Int)|str (x:Str)|byt (b:Array UInt8)|flt (b:UInt64)|ref (a:af)|ty (n:String)
 deriving DecidableEq
def RelV:V->ah->Prop
 |.non,u=>u=Value.none
 |.bl b,u=>u=Value.bool b
 |.int i,u=>∃t,u=Value.int i t
 |.str x,u=>∃t,u=Value.str x t
 |.byt b,u=>∃t,u=Value.bytes b t
 |.flt b,u=>∃t,u=Value.float b t
 |.ref a,u=>u=Value.ref a
 |.ty n,u=>u=Value.type n
abbrev bq:List V->List ah->Prop:=iK RelV
theorem bq.length{xs:List V}{a:List ah}(r:bq xs a):xs.length=a.length:=wM r
theorem bq.get:∀{a:List V}{b:List ah}{i:Nat}{x:V},bq a b->a[i]?=aa x->∃u,b[i]?=aa u/\RelV x u
 |_,_,_,_,.nil,e=>by simp at e
 |_,_,0,_,.cons r _,e=>by simp at e;subst e;exact⟨_,rfl,r⟩
 |_,_,i+1,x,.cons _ t,e=>by obtain⟨u,d,c⟩:=bq.get (i:=i) (x:=x) t (by simpa using e);exact⟨u,by simpa using d,c⟩
theorem bq.set{x:V}{u:ah}(r:RelV x u):∀{a:List V}{b:List ah} (i:Nat),bq a b->bq (a.set i x) (b.set i u)
 |_,_,_,.nil=>.nil
 |_,_,0,.cons _ t=>.cons r t
 |_,_,i+1,.cons q t=>.cons q (bq.set r i t)
theorem bq.append:∀{b a:List V}{d c:List ah},bq b d->bq a c->bq (b++a) (d++c)
 |_,_,_,_,.nil,s=>s
 |_,_,_,_,.cons r t,s=>.cons r (bq.append t s)
theorem bq.take:∀{a:List V}{b:List ah} (n:Nat),bq a b->bq (a.take n) (b.take n)
 |_,_,0,_=>.nil
 |_,_,_+1,.nil=>.nil
 |_,_,n+1,.cons r t=>.cons r (bq.take n t)
theorem bq.drop:∀{a:List V}{b:List ah} (n:Nat),bq a b->bq (a.drop n) (b.drop n)
 |_,_,0,r=>r
 |_,_,_+1,.nil=>.nil
 |_,_,n+1,.cons _ t=>bq.drop n t
def l5:Option V->Option ah->Prop
 |some v,aa u=>RelV v u
 |none,ae=>True
 |_,_=>False
def KV{a:Type}:List (a×V)->List (a×ah)->Prop:=iK λ(p:a×V) (q:a×ah)=>p.1=q.1/\RelV p.2 q.2
def kV:aR->V
 |.inl i=>.int i
 |.inr x=>.str x
inductive HO where
 |lst (xs:List V)
 |tup (xs:List V)
 |dK (kvs:List (aR×V))|dT (kvs:List (List aR×V))|dN (kvs:List ((Str×List Str)×V))
 |set (S:Int->Bool) (n:Nat)
 |ins (C dx:af) (fs:List (Str×V))
 |own (x:af)
 |xd (fs:List (Str×V))
 |met (f x:af)
 |rng (lo hi:Int)
 |frz (o:Obj) (u:HO)
 |tbl (q:Str)
 |ext (φ:aB->Prop)
abbrev Hp:=af->Option HO
def upd(H:Hp)(a:af)(o:HO):Hp:=λb=>if b=a then aa o else H b
theorem bW{H:Hp}{a:af}{o:HO}:upd H a o a=aa o:=by unfold upd;rw[if_pos rfl]
theorem bj{H:Hp}{a b:af}{o:HO}(h:b≠a):upd H a o b=H b:=by unfold upd;rw[if_neg h]
theorem u5{H:Hp}{a b:af}{o u:HO}(h:H a=aa o)(c:H b=aa u)(d:o≠u):a≠b:=by intro e;subst e;rw[h]at c;exact d (dz c)
theorem n9{H:Hp}{a b:af}{o:HO}(h:H a=aa o)(c:H b=ae):a≠b:=by
 intro e;subst e;rw[h]at c;cases c
def Fa(h:aB)(a:af)(b:Array ah):Prop:=IsTup h a b/\∃o,h.get? a=aa o/\o.dict=ae
theorem Fa.new(h:aB)(its:Array ah):Fa (h.push {cls:=.type "tuple",data:=.seq its}) h.objs.size its:=⟨IsTup.new _ _,_,cf _ rfl,rfl⟩
section
variable(P:aL)(w:aE)
def BZ(k:Str×List Str):Int:=qx (k7 [k6 w k.1,qx (k7 (k.2.map (k6 w)))])
def nX(H:Hp)(k:Str×List Str)(a:af):Prop:=∃b,H a=aa (.tup [.str k.1,.ref b])/\H b=aa (.tup (k.2.map .str))
def ca(H:Hp)(h:aB)(a:af):HO->Prop
 |.lst d=>d.length<=aX/\∃(g:List ah) (n:Nat),bq d g/\h.get? a=aa {cls:=.type "list",data:=.seq g.toArray n}
 |.tup d=>d.length<=aX/\∃g:List ah,bq d g/\Fa h a g.toArray
 |.dK b=>b.length<=aX/\(a == ip)=aj/\∃A,KV b A/\h.DictOf (h_ P w) a A
 |.dT b=>b.length<=aX/\(a == ip)=aj/\∃d:List (List aR×af×ah),
   iK (λ(p:List aR×V) (q:List aR×af×ah)=>p.1=q.1/\H q.2.1=aa (.tup (p.1.map kV))/\RelV p.2 q.2.2) b d /\
   ∃o j y,h.get? a=aa o/\o.ExactDict/\o.data=.dict j y/\j.toList=d.map (entryOfKey (tj (h_ P w)))/\(d.map (·.1)).Nodup
 |.dN b=>b.length<=aX/\(a == ip)=aj/\∃d:List ((Str×List Str)×af×ah),
   iK (λ(p:(Str×List Str)×V) (q:(Str×List Str)×af×ah)=>p.1=q.1/\nX H p.1 q.2.1/\RelV p.2 q.2.2) b d /\
   ∃o j y,h.get? a=aa o/\o.ExactDict/\o.data=.dict j y/\j.toList=d.map (λx=>⟨BZ w x.1,.ref x.2.1,x.2.2⟩)/\(d.map (·.1)).Nodup
 |.set S n=>h.SetOf (intKind P w) a S n
 |.ins C l fs=>H l=aa (.own a)/\fs.length<=1000/\l≠a/\h.get? a=aa (PySem.W.instObj C l) /\
   ∃i,h.Ns1 l i/\(∀f,l5 (fs.lookup f) (i f))/\PySem.Within i (fs.map (·.1))
 |.own _=>∃o,h.get? a=aa o
 |.xd fs=>∃i,h.Ns1 a i/\∀f,l5 (fs.lookup f) (i f)
 |.rng E F=>∃t u v,h.get? a=aa {cls:=.type "range",data:=.fields #[.int E t,.int F u,.int 1 v]}
 |.frz o u=>h.get? a=aa o/\ca H h a u
 |.tbl q=>∃r:Array ah,h.get? a=aa {cls:=.none,data:=.fields r}/\TriplesOk r.toList/\∀s z,tm s r.toList=aa z->∃c,z=.ref c/\H c=aa (.own a)/\h.CodeRec z q
 |.met f x=>h.get? a=aa (Fc (.ref f) (.ref x))
 |.ext m=>m h/\(∃o,h.get? a=aa o)/\∀D B:aB,m D->(∀o,D.get? a=aa o->B.get? a=aa o)->m B
def cM(H:Hp)(h:aB):Prop:=∀a o,H a=aa o->ca P w H h a o
end
section
variable{P:aL}{w:aE}{H j:Hp}{h i:aB}{a:af}{o:HO}
theorem ca.lt(x:ca P w H h a o):a<h.objs.size:=by
 cases o with
 |lst c=>obtain⟨_,_,_,_,e⟩:=x;exact bo e
 |tup c=>obtain⟨_,_,_,p,_⟩:=x;exact p.lt
 |dK b=>obtain⟨_,_,_,_,o,_,_,e,_⟩:=x;exact bo e
 |dT b=>obtain⟨_,_,_,_,o,_,_,e,_⟩:=x;exact bo e
 |dN b=>obtain⟨_,_,_,_,o,_,_,e,_⟩:=x;exact bo e
 |set S n=>obtain⟨o,_,_,_,e,_⟩:=x;exact bo e
 |ins C r fs=>obtain⟨_,_,_,e,_⟩:=x;exact bo e
 |own y=>obtain⟨_,e⟩:=x;exact bo e
 |xd fs=>obtain⟨_,⟨_,_,_,e,_⟩,_⟩:=x;exact bo e
 |rng l m=>obtain⟨_,_,_,e⟩:=x;exact bo e
 |frz g u=>obtain⟨e,_⟩:=x;exact bo e
 |tbl q=>obtain⟨_,e,_⟩:=x;exact bo e
 |met f y=>exact bo (show h.get? a=aa _ from x)
 |ext d=>obtain⟨_,⟨_,e⟩,_⟩:=x;exact bo e
theorem Paired.mapP{l g:Type}{F G:l->g->Prop}:∀{d:List l}{c:List g},iK F d c->(∀a b,F a b->G a b)->iK G d c
 |_,_,.nil,_=>.nil
 |_,_,.cons r t,f=>.cons (f _ _ r) (Paired.mapP t f)
theorem ca.stay(x:ca P w H h a o)(k:∀b u,(b=a\/H b=aa (.own a))->h.get? b=aa u->i.get? b=aa u)(N:∀b,H b=aa (.own a)->j b=aa (.own a)) (L:∀b A,H b=aa (.tup A)->j b=aa (.tup A)):ca P w j i a o:=by
 induction o with
 |lst A=>obtain⟨z,B,n,r,e⟩:=x;exact⟨z,B,n,r,k _ _ (.inl rfl) e⟩
 |tup A=>obtain⟨z,B,r,⟨l,e,c⟩,W,E,O⟩:=x;exact⟨z,B,r,⟨l,k _ _ (.inl rfl) e,c⟩,W,k _ _ (.inl rfl) E,O⟩
 |dK D=>obtain⟨z,y,G,r,l,m,s,e,c⟩:=x;exact⟨z,y,G,r,l,m,s,k _ _ (.inl rfl) e,c⟩
 |dT D=>obtain⟨z,y,A,r,l,m,s,e,c⟩:=x;exact⟨z,y,A,Paired.mapP r λp q z=>⟨z.1,L _ _ z.2.1,z.2.2⟩,l,m,s,k _ _ (.inl rfl) e,c⟩
 |dN D=>obtain⟨z,y,A,r,l,m,s,e,c⟩:=x;exact⟨z,y,A,Paired.mapP r λp q z=>⟨z.1,(let ⟨b,F,h2⟩:=z.2.1;⟨b,L _ _ F,L _ _ h2⟩),z.2.2⟩,l,m,s,k _ _ (.inl rfl) e,c⟩
 |set S n=>obtain⟨l,m,s,t,e,c⟩:=x;exact⟨l,m,s,t,k _ _ (.inl rfl) e,c⟩
 |ins C dx fs=>obtain⟨d,z,X,e,K,⟨J,m,s,E,c⟩,r⟩:=x;exact⟨N _ d,z,X,k _ _ (.inl rfl) e,K,⟨J,m,s,k _ _ (.inr d) E,c⟩,r⟩
 |own y=>obtain⟨l,e⟩:=x;exact⟨l,k _ _ (.inl rfl) e⟩
 |xd fs=>obtain⟨K,⟨J,m,s,e,c⟩,r⟩:=x;exact⟨K,⟨J,m,s,k _ _ (.inl rfl) e,c⟩,r⟩
 |rng lo hi=>obtain⟨t,u,v,e⟩:=x;exact⟨t,u,v,k _ _ (.inl rfl) e⟩
 |frz l u Y=>obtain⟨e,q⟩:=x;exact⟨k _ _ (.inl rfl) e,Y q⟩
 |tbl q=>
  obtain⟨T,e,t,g⟩:=x;refine⟨T,k a _ (.inl rfl) e,t,λI cv Z=>?_⟩;obtain⟨c,rfl,F,O,o,G,Q,E,e3,r⟩:=g I cv Z;cases E;exact⟨c,rfl,N c F,c,o,G,Q,rfl,k c _ (.inr F) e3,r⟩
 |met f y=>have e:h.get? a=aa (Fc (.ref f) (.ref y)):=x;show i.get? a=aa (Fc (.ref f) (.ref y));exact k a _ (.inl rfl) e
 |ext φ=>obtain⟨p,⟨o,e⟩,M⟩:=x;exact⟨M _ _ p λo q=>k _ _ (.inl rfl) q,⟨o,k _ _ (.inl rfl) e⟩,M⟩
theorem cM.lt(x:cM P w H h)(e:H a=aa o):a<h.objs.size:=(x a o e).lt
theorem cM.fresh(x:cM P w H h)(e:h.objs.size<=a):H a=ae:=by
 cases q:H a with
 |none=>rfl
 |some u=>exact absurd (fc (x.lt q) e) (eO _)
theorem cM.kept(x:cM P w H h)(k:∀b u,h.get? b=aa u->i.get? b=aa u):cM P w H i:=λa o e=>(x a o e).stay (λb u _ q=>k b u q) (λ_ q=>q) λ_ _ q=>q
theorem cM.laid(x:cM P w H h)(k:∀b u,h.get? b=aa u->i.get? b=aa u)(g:h.objs.size<=a)(new:ca P w (upd H a o) i a o):cM P w (upd H a o) i:=λb u e=>by
 have d:=x.fresh g;by_cases f:b=a
 .subst f;rw[bW]at e;cases e;exact new
 .rw[bj f]at e;exact(x b u e).stay (λc v _ q=>k c v q) (λc q=>by rw[bj (n9 q d)];exact q) λc l q=>by rw[bj (n9 q d)];exact q
end
def Rd(H:Hp)(a:af)(u:HO):Prop:=H a=aa u\/∃o,H a=aa (.frz o u)
theorem Rd.ok{P:aL}{w:aE}{H:Hp}{h:aB}{a:af}{u:HO}(r:Rd H a u)(x:cM P w H h):ca P w H h a u:=by
 rcases r with r|⟨o,r⟩
 .exact x a u r
 .obtain⟨_,q⟩:=x a _ r;exact q
def r_:Option HO->Prop
 |some (.lst _)=>True
 |some (.dK _)=>True
 |some (.dT _)=>True
 |some (.dN _)=>True
 |some (.set _ _)=>True
 |some (.ins _ _ _)=>True
 |some (.ext _)=>True
 |_=>False
section
variable{P:aL}{w:aE}{H:Hp}{h a:aB}{x e:af}{d:HO}
theorem cM.write(ok:cM P w H h)(j:r_ (H x))(p:e=x\/H e=aa (.own x))(k:∀b u,b≠e->h.get? b=aa u->a.get? b=aa u)(s:∃u,a.get? e=aa u)(new:ca P w (upd H x d) a x d):cM P w (upd H x d) a:=λb u q=>by
 have f:∀c y,H c=aa (.own y)->c≠x:=λc y r z=>by subst z;rw[r]at j;exact j
 have g:∀c i,H c=aa (.tup i)->c≠x:=λc i r z=>by subst z;rw[r]at j;exact j
 by_cases n:b=x
 .subst n;rw[bW]at q;cases q;exact new
 .rw[bj n]at q;by_cases l:b=e
  .have o:H b=aa (.own x):=by
    rcases p with z|z
    .exact absurd (l.trans z) n
    .rw[l];exact z
   rw[q]at o;cases o;obtain⟨v,A⟩:=s;exact⟨v,by rw[l];exact A⟩
  .refine(ok b u q).stay (λc v m r=>k c v ?_ r) (λc r=>by rw[bj (f c b r)];exact r) λc i r=>by rw[bj (g c i r)];exact r
   rcases m with rfl|m
   .exact l
   .rintro rfl;rcases p with z|z
    .exact f c b m z
    .rw[m]at z;cases z;exact n rfl
end
structure Un(fs ex:List af)(H H':Hp)(h h':aB):Prop where
 keep:∀b o,h.get? b=aa o->H b=ae->b∉fs->b∉ex->h'.get? b=aa o
 slot:∀b o,h.get? b=aa o->H b=ae->b∈fs->b∉ex->∃sl,h'.get? b=aa {o with slots:=sl}
 free:∀b o,h.get? b=aa o->H b=ae->b∉ex->H' b=ae
 there:∀b o,h.get? b=aa o->b∉ex->∃o',h'.get? b=aa o'
 tups:∀b xs,H b=aa (.tup xs)->H' b=aa (.tup xs)
 frzs:∀b o u,H b=aa (.frz o u)->H' b=aa (.frz o u)
 tbls:∀b q,H b=aa (.tbl q)->H' b=aa (.tbl q)
section
variable{fs d ex f:List af}{H g j:Hp}{h c i h':aB}{a x e:af}{o:HO}
theorem Un.any(u:Un fs ex H g h c){b:af}{l:Obj}(q:h.get? b=aa l)(n:H b=ae)(m:b∉ex):∃r,c.get? b=aa {l with slots:=r}:=by
 by_cases p:b∈fs
 .exact u.slot b l q n p m
 .exact⟨l.slots,u.keep b l q n p m⟩
theorem Un.kept(k:∀b u,h.get? b=aa u->h'.get? b=aa u):Un fs ex H H h h' :=⟨λb l q _ _ _=>k b l q,λb l q _ _ _=>⟨l.slots,k b l q⟩,λ_ _ _ n _=>n,λb l q _=>⟨l,k b l q⟩,λ_ _ q=>q,λ_ _ _ q=>q,λ_ _ q=>q⟩
theorem Un.refl:Un fs ex H H h h:=Un.kept λ_ _ q=>q
theorem Un.laid(k:∀b u,h.get? b=aa u->h'.get? b=aa u)(p:h.objs.size<=a)(l:H a=ae):Un fs ex H (upd H a o) h h' where
 keep:=λb u q _ _ _=>k b u q
 slot:=λb u q _ _ _=>⟨u.slots,k b u q⟩
 free:=λb u q n _=>by rw[bj (cT (fc (bo q) p))];exact n
 there:=λb u q _=>⟨u,k b u q⟩
 tups:=λb m q=>by rw[bj (n9 q l)];exact q
 frzs:=λb u m q=>by rw[bj (n9 q l)];exact q
 tbls:=λb r q=>by rw[bj (n9 q l)];exact q
theorem Un.write(l:r_ (H x))(B:e=x\/H e=aa (.own x))(k:∀b u,b≠e->h.get? b=aa u->h'.get? b=aa u)(y:∃u,h'.get? e=aa u):Un fs ex H (upd H x o) h h':=by
 have s:∀b,H b=ae->b≠x:=λb n z=>by subst z;rw[n]at l;exact l
 have v:∀b,H b=ae->b≠e:=λb n z=>by
  subst z;rcases B with r|r
  .exact s b n r
  .rw[n]at r;cases r
 have m:∀b u,H b=aa u->¬r_ (aa u)->b≠x:=λb u q A z=>by subst z;rw[q]at l;exact A l
 refine⟨λb u q n _ _=>k b u (v b n) q,λb u q n _ _=>⟨u.slots,k b u (v b n) q⟩,λb u q n _=>by rw[bj (s b n)];exact n,λb u q _=>?_,
  λb w q=>by rw[bj (m b _ q λz=>z)];exact q,λb u w q=>by rw[bj (m b _ q λz=>z)];exact q,λb C q=>by rw[bj (m b _ q λz=>z)];exact q⟩
 by_cases p:b=e
 .subst p;exact y
 .exact⟨u,k b u p q⟩
end
def wd(h:aB)(H:Hp):List af:=(bI h.objs.size).filter λa=>(H a).isSome
def lR(h:aB)(H:Hp):aB:=PySem.W.hideAll h (wd h H)
theorem Gt(h:aB)(H:Hp):(lR h H).objs.size=h.objs.size:=PySem.W.hideAll_size _ _
theorem Kr{h:aB}{H:Hp}{b:af}{o:Obj}(e:h.get? b=aa o)(n:H b=ae):(lR h H).get? b=aa o :=PySem.W.hideAll_get _ e λa=>by have q:(H b).isSome=ai:=(iL.mp a).2;rw[n]at q;simp at q
theorem Pe{h:aB}{H:Hp}{b:af}{o:Obj}(e:(lR h H).get? b=aa o):h.get? b=aa o/\H b=ae:=by
 have a:h.get? b=aa o:=PySem.W.of_hideAll (wd h H) e;refine⟨a,?_⟩;cases q:H b with
 |none=>rfl
 |some x=>
  have c:b∈wd h H:=iL.mpr ⟨j6.mpr (bo a),by simp[q]⟩;have z:(lR h H).get? b=ae:=PySem.W.hideAll_none (wd h H) c;rw[z]at e;cases e
def Mp(g h:aB)(L:af):List (af×Obj):=(bI h.objs.size).filterMap λa=>if a=L\/(g.get? a).isSome=ai then ae else(h.get? a).map λo=>(a,o)
def rest(g h:aB)(L d:af):List (af×Obj):=(Mp g h L).filter λp=>decide (p.1≠d)
structure Mod(K:ax)(mg:Str->Option ah)(base:aB):Prop where
 kin:K.In base
 glob:base.Ns cn mg
 blt:∃mb,base.Ns mU mb/\∀x:Str,x≠"__name__"->mb x=dW x
 nolimit:base.NoLimit
 bm:∃bm ob,mg "__builtins__"=aa (.ref bm)/\bm≠mU/\base.get? bm=aa ob/\ob.cls=.type "module"/\ob.dict=aa mU/\ob.data=.plain
set_option genInjectivity false in
structure Cx where
 prog:aL
 w:aE
 K:ax
 mg:Str->Option ah
 base:aB
 A:aS
 N:List Str
 s₀:ao
 H₀:Hp
 env:Env
 outer:List Env
 stack:List Env
 ex:List af
 fn:Str->Bool
 calm:Bool
 pn:List (af×Obj)
 xe:ah->ao->Prop
def fz(l:List Env):List af:=l.filterMap (·.frame)
abbrev Cx.fs(X:Cx):List af:=fz X.outer
def fu(a:cU)(x:Str):Prop:=a.names.lookup x=aa .local\/a.names.lookup x=aa .cell\/a.names.lookup x=aa .free
def Loc(a:cU)(x:Str):Prop:=a.names.lookup x=aa .local\/a.names.lookup x=aa .cell
def Look(a:Env)(h:aB)(m:Str->Option ah)(x:Str)(u:ah):Prop :=(a.kindOf x=aa .local/\m x=aa u)\/((a.kindOf x=aa .cell\/a.kindOf x=aa .free)/\∃c,a.cells.lookup x=aa c/\h.IsCell c (aa u))
def sS:List Str:=["least_ending"]
def uZ(K:ax)(H:Hp):Prop:=∀x∈sS,∀c P,j7 K x=aa (c,P)->H P=aa (.tbl (x++".<locals>.<lambda>"))
set_option genInjectivity false in
structure Cx.Ok(X:Cx):Prop where
 mod:Mod X.K X.mg X.base
 kind:X.env.scope.kind=.function
 glob:X.env.globals=cn
 blt:X.env.builtins=mU
 above:X.s₀.heap.objs.size<=X.env.locals
 inj:∀x y c,X.env.cells.lookup x=aa c->X.env.cells.lookup y=aa c->x=y
 has:∀x,(X.env.kindOf x=aa .cell\/X.env.kindOf x=aa .free)->∃c,X.env.cells.lookup x=aa c
 cab:∀x c,X.fn x=ai->X.env.cells.lookup x=aa c->X.s₀.heap.objs.size<=c
 hd:X.calm=ai->X.A.handled=ae
 frames:X.A.frames=aa X.stack
 stk:X.stack=X.outer\/(X.stack=X.env::X.outer/\X.env.frame=aa X.env.locals)
 exf:∀b∈X.ex,b≠X.env.locals/\∀x c,X.env.cells.lookup x=aa c->c≠b
 bs:∀b o,X.base.get? b=aa o->X.s₀.heap.get? b=aa o/\X.H₀ b=ae
 bsz:X.base.objs.size<=X.s₀.heap.objs.size
 noex:∀b o,X.base.get? b=aa o->b∉X.ex
 exfs:∀b∈X.ex,b∉X.fs
 funs:X.s₀.heap.FunFrames X.base X.outer
 frf:∀b∈X.fs,X.H₀ b=ae
 tab:uZ X.K X.H₀
structure Inv(X:Cx)(ag:List (af×Obj))(σ:List (Option V))(H:Hp)(s:ao):Prop where
 ok:X.Ok
 os:s.os=X.s₀.os
 bare:l7 s.gens
 base:Un X.fs X.ex X.H₀ H X.s₀.heap s.heap
 loc:∃m,s.heap.Ns X.env.locals m/\∀(i:Nat) (x:Str) (v:V),X.N[i]?=aa x->σ[i]?=aa (aa v)->fu X.env.scope x->∃u,RelV v u/\Look X.env s.heap m x u
 cell:∀x c,X.env.cells.lookup x=aa c->∃v,s.heap.IsCell c v
 free:H X.env.locals=ae
 freeC:∀x c,X.env.cells.lookup x=aa c->H c=ae
 pin:∀p∈X.pn++ag,s.heap.get? p.1=aa p.2/\H p.1=ae/\p.1≠X.env.locals/\p.1∉X.fs/\∀v,p.2.data≠.cell v
 hok:cM X.prog X.w H s.heap
 len:σ.length=X.N.length
section
variable{X:Cx}{f:List (af×Obj)}{g:List (Option V)}{H w:Hp}{s:ao}{h':aB}
theorem Cx.Ok.nofr(ok:X.Ok){b:af}{o:Obj}(e:X.base.get? b=aa o):b∉X.fs:=λa=>by
 have:=(ok.funs.mem a).1;rw[e]at this;cases this
theorem Inv.bs(I:Inv X f g H s):∀b o,X.base.get? b=aa o->s.heap.get? b=aa o/\H b=ae:=λb o e=>⟨I.base.keep b o (I.ok.bs b o e).1 (I.ok.bs b o e).2 (I.ok.nofr e) (I.ok.noex b o e),I.base.free b o (I.ok.bs b o e).1 (I.ok.bs b o e).2 (I.ok.noex b o e)⟩
theorem Inv.bk(I:Inv X f g H s):∀b o,X.base.get? b=aa o->s.heap.get? b=aa o:=λb o e=>(I.bs b o e).1
theorem Inv.mod(I:Inv X f g H s):Mod X.K X.mg X.base:=I.ok.mod
theorem Inv.kIn(I:Inv X f g H s):X.K.In s.heap:=I.ok.mod.kin.keeps I.bk
theorem Inv.lt(I:Inv X f g H s):X.env.locals<s.heap.objs.size:=let ⟨_,hn,_⟩:=I.loc;hn.lt
theorem Inv.sz(I:Inv X f g H s):X.s₀.heap.objs.size<=s.heap.objs.size:=cA I.ok.above (l8 I.lt)
theorem Inv.nofs(I:Inv X f g H s){a:af}(h:s.heap.objs.size<=a):a∉X.fs:=λc=>by obtain⟨_,o,b,_⟩:=I.ok.funs.mem c;exact absurd (fc (bo b) (cA I.sz h)) (eO _)
theorem Inv.cne(I:Inv X f g H s):∀x c,X.env.cells.lookup x=aa c->c≠X.env.locals:=λx c e z=>by
 obtain⟨v,o,b,d⟩:=I.cell x c e;obtain⟨m,⟨i,j,l,h,a,_⟩,_⟩:=I.loc;rw[z,h]at b;cases b;rw[a]at d;cases d
theorem Inv.tab(I:Inv X f g H s):uZ X.K H:=λx a c P h=>I.base.tbls P _ (I.ok.tab x a c P h)
theorem Inv.funs(I:Inv X f g H s):s.heap.FunFrames X.base X.outer:=by
 have all:∀(l:List Env),(∀b∈fz l,b∈X.fs)->X.s₀.heap.FunFrames X.base l->s.heap.FunFrames X.base l:=by
  intro l
  induction l with
  |nil=>intro _ _;trivial
  |cons v r i=>intro h p;obtain⟨q,⟨L,o,a,n,m,u⟩,j⟩:=p;have d:L∈X.fs:=h L (by unfold fz;rw[tq,a];exact jD);obtain⟨x,e⟩:=I.base.slot L o m (I.ok.frf L d) d λz=>I.ok.exfs L z d;exact⟨q,⟨L,_,a,n,e,u⟩,i (λb c=>h b (by unfold fz;rw[tq,a];exact jE _ c)) j⟩
 exact all X.outer (λ_ c=>c) I.ok.funs
theorem Inv.stack(I:Inv X f g H s):s.heap.FunFrames X.base X.stack:=by
 rcases I.ok.stk with e|⟨e,b⟩
 .rw[e];exact I.funs
 .rw[e];obtain⟨m,a,_⟩:=I.loc;refine .cons (by rw[I.ok.kind];decide) b a ?_ I.funs;exact wN (cA I.ok.bsz I.ok.above)
theorem Inv.stkSub(I:Inv X f g H s):∀b∈fz X.stack,b∈X.env.locals::X.fs:=λb a=>by
 rcases I.ok.stk with e|⟨e,c⟩
 .rw[e]at a;exact jE _ a
 .rw[e]at a;unfold fz at a;rw[tq,c]at a;exact a
theorem Inv.stkFree(I:Inv X f g H s):∀b∈fz X.stack,H b=ae:=λb a=>by
 rcases br.mp (I.stkSub b a)with e|a
 .rw[e];exact I.free
 .obtain⟨_,o,c,_⟩:=I.ok.funs.mem a;exact I.base.free b o c (I.ok.frf b a) λz=>I.ok.exfs b z a
theorem Inv.step{g':Array GenState}{t':Nat}{d':Drawn}{ch:List af}(I:Inv X f g H s)(M:∀b∈ch,(b∈X.ex\/X.s₀.heap.objs.size<=b)/\b≠X.env.locals/\(∀x c,X.env.cells.lookup x=aa c->c≠b)/\∀p∈X.pn++f,p.1≠b)(keep:∀b o,b≠X.env.locals->b∉X.fs->b∉ch->s.heap.get? b=aa o->H b=ae->h'.get? b=aa o)(B:∀b o,b≠X.env.locals->b∈X.fs->b∉ch->s.heap.get? b=aa o->H b=ae->∃P,h'.get? b=aa {o with slots:=P}) (free:∀b o,b∉ch->s.heap.get? b=aa o->H b=ae->w b=ae)(C:∀b o,b∉ch->s.heap.get? b=aa o->∃K,h'.get? b=aa K)(G:∀b A,H b=aa (.tup A)->w b=aa (.tup A)) (N:∀b o u,H b=aa (.frz o u)->w b=aa (.frz o u)) (J:∀b q,H b=aa (.tbl q)->w b=aa (.tbl q))(ns:∀m,s.heap.Ns X.env.locals m->h'.Ns X.env.locals m) (Q:cM X.prog X.w w h') (hg:l7 g'):Inv X f g w {s with heap:=h',gens:=g',drawn:=d',toks:=t'}:=by
 have L:∀b o,X.s₀.heap.get? b=aa o->b≠X.env.locals:=λb o e=>cT (fc (bo e) I.ok.above);have y:∀b o,X.s₀.heap.get? b=aa o->b∉X.ex->b∉ch:=λb o e a D=>by
  rcases(M b D).1 with z|z
  .exact a z
  .exact absurd (fc (bo e) z) (eO _)
 have j:∀x c,X.env.cells.lookup x=aa c->∀v,s.heap.IsCell c v->h'.IsCell c v:=λx c e v ⟨o,F,S⟩=>by
  have h:c∉ch:=λz=>(M c z).2.2.1 x c e rfl;by_cases hc:c∈X.fs
  .obtain⟨P,q⟩:=B c o (I.cne x c e) hc h F (I.freeC x c e);exact⟨_,q,S⟩
  .exact⟨o,keep c o (I.cne x c e) hc h F (I.freeC x c e),S⟩
 refine⟨I.ok,I.os,hg,⟨λb o e n D a=>?_,λb o e n D a=>?_,λb o e n a=>?_,λb o e a=>?_,λb A e=>G b A (I.base.tups b A e),λb o A e=>N b o A (I.base.frzs b o A e),λb ps e=>?_⟩,?_,λx c e=>?_,?_,λx c e=>?_,λp Z=>?_,Q,I.len⟩
 .exact keep b o (L b o e) D (y b o e a) (I.base.keep b o e n D a) (I.base.free b o e n a)
 .obtain⟨P,E⟩:=I.base.slot b o e n D a;obtain⟨O,T⟩:=B b _ (L b o e) D (y b o e a) E (I.base.free b o e n a);exact⟨O,T⟩
 .obtain⟨K,E⟩:=I.base.there b o e a;exact free b K (y b o e a) E (I.base.free b o e n a)
 .obtain⟨K,E⟩:=I.base.there b o e a;exact C b K (y b o e a) E
 .exact J b _ (I.base.tbls b ps e)
 .obtain⟨m,hn,hl⟩:=I.loc;refine⟨m,ns m hn,λi x v E T e3=>?_⟩;obtain⟨u,r,l⟩:=hl i x v E T e3;refine⟨u,r,?_⟩;rcases l with l|⟨k,c,e,z⟩
  .exact .inl l
  .exact .inr ⟨k,c,e,j x c e _ z⟩
 .obtain⟨v,z⟩:=I.cell x c e;exact⟨v,j x c e v z⟩
 .obtain⟨m,⟨o,_,_,F,_⟩,_⟩:=I.loc;exact free _ o (λz=>(M _ z).2.1 rfl) F I.free
 .obtain⟨v,o,F,S⟩:=I.cell x c e;exact free c o (λz=>(M c z).2.2.1 x c e rfl) F (I.freeC x c e)
 .obtain⟨e,n,Y,W,d⟩:=I.pin p Z;have h:p.1∉ch:=λz=>(M p.1 z).2.2.2 p Z rfl;exact⟨keep p.1 p.2 Y W h e n,free p.1 p.2 h e n,Y,W,d⟩
theorem Inv.un{t':Nat}(I:Inv X f g H s)(u:Un X.fs [] H w s.heap h')(a:cM X.prog X.w w h'):Inv X f g w {s with heap:=h',toks:=t'}:=by
 obtain⟨m,⟨o,A,B,i,r⟩,_⟩:=id I.loc;obtain⟨v,q⟩:=u.any i I.free (by simp);exact I.step (g':=s.gens) (d':=s.drawn) (ch:=[]) (λ_ z=>nomatch z) (λb o _ c _ e n=>u.keep b o e n c (by simp)) (λb o _ c _ e n=>u.slot b o e n c (by simp)) (λb o _ e n=>u.free b o e n (by simp)) (λb o _ e=>u.there b o e (by simp)) u.tups u.frzs u.tbls (λy p=>by
  obtain⟨x,d,h,j,l⟩:=p;rw[i]at j;cases j;exact⟨_,d,h,q,l⟩) a I.bare
theorem Inv.call{g':Array GenState}{t':Nat}{d':Drawn}{ch:List af}(I:Inv X f g H s)(u:Un (fz X.stack) ch H w s.heap h')(d:cM X.prog X.w w h')(B:l7 g')(l:∀b∈ch,(b∈X.ex\/X.s₀.heap.objs.size<=b)/\b≠X.env.locals/\(∀x c,X.env.cells.lookup x=aa c->c≠b)/\∀p∈X.pn++f,p.1≠b):Inv X f g w {s with heap:=h',gens:=g',drawn:=d',toks:=t'}:=by
 obtain⟨m,⟨o,G,J,q,r⟩,_⟩:=id I.loc;obtain⟨D,h⟩:=u.any q I.free λz=>(l _ z).2.1 rfl;exact I.step (ch:=ch) l (λb o h C a e n=>u.keep b o e n (λz=>(br.mp (I.stkSub b z)).elim h C) a) (λb o _ _ a e n=>u.any e n a) (λb o a e n=>u.free b o e n a) (λb o a e=>u.there b o e a) u.tups u.frzs u.tbls (λF A=>by
  obtain⟨E,i,j,v,y⟩:=A;rw[q]at v;cases v;exact⟨_,i,j,h,y⟩) d B
theorem Inv.turned{t':Nat}{it:af}(I:Inv X f g H s)(k:∀b o,b≠it->s.heap.get? b=aa o->h'.get? b=aa o)(j:H it=ae)(h:it≠X.env.locals)(C:it∈X.ex\/X.s₀.heap.objs.size<=it) (B:∀x c,X.env.cells.lookup x=aa c->c≠it) (A:∀p∈X.pn++f,p.1≠it):Inv X f g H {s with heap:=h',toks:=t'}:=by
 have d:∀b u,H b=aa u->b≠it:=λb u e z=>by rw[z,j]at e;cases e
 refine I.step (g':=s.gens) (d':=s.drawn) (ch:=[it]) (λb y=>?_) (λb o _ _ a e _=>k b o (λz=>a (by simp[z])) e) (λb o _ _ a e _=>⟨o.slots,k b o (λz=>a (by simp[z])) e⟩) (λ_ _ _ _ n=>n)
  (λb o a e=>⟨o,k b o (λz=>a (by simp[z])) e⟩) (λ_ _ e=>e) (λ_ _ _ e=>e) (λ_ _ e=>e) (λm l=>?_) (λb u e=>?_) I.bare
 .have e:b=it:=by simpa using y
  subst e;exact⟨C,h,B,A⟩
 .obtain⟨o,D,E,i,r⟩:=l;exact⟨o,D,E,k _ o (fF h) i,r⟩
 .refine(I.hok b u e).stay (λc v a q=>k c v ?_ q) (λ_ q=>q) λ_ _ q=>q;rcases a with z|z
  .rw[z];exact d b u e
  .exact d c _ z
theorem Inv.tok(I:Inv X f g H s)(t:Nat):Inv X f g H {s with toks:=t}:=I.un (h':=s.heap) (t':=t) Un.refl I.hok
theorem Inv.kept{t':Nat}(I:Inv X f g H s)(k:∀b u,s.heap.get? b=aa u->h'.get? b=aa u):Inv X f g H {s with heap:=h',toks:=t'}:=I.un (Un.kept k) (I.hok.kept k)
theorem Inv.laid{a:af}{o:HO}{t':Nat}(I:Inv X f g H s)(k:∀b u,s.heap.get? b=aa u->h'.get? b=aa u)(c:s.heap.objs.size<=a)(new:ca X.prog X.w (upd H a o) h' a o):Inv X f g (upd H a o) {s with heap:=h',toks:=t'}:=I.un (Un.laid k c (I.hok.fresh c)) (I.hok.laid k c new)
theorem Inv.write{x e:af}{o:HO}{h:Nat}(I:Inv X f g H s)(c:r_ (H x))(d:e=x\/H e=aa (.own x))(k:∀b u,b≠e->s.heap.get? b=aa u->h'.get? b=aa u)(a:∃u,h'.get? e=aa u)(new:ca X.prog X.w (upd H x o) h' x o):Inv X f g (upd H x o) {s with heap:=h',toks:=h}:=I.un (Un.write c d k a) (I.hok.write c d k a new)
theorem Inv.pins_of{a:List (af×Obj)}(I:Inv X f g H s)(h:∀p∈a,s.heap.get? p.1=aa p.2/\H p.1=ae/\p.1≠X.env.locals/\p.1∉X.fs/\∀v,p.2.data≠.cell v):Inv X a g H s :=⟨I.ok,I.os,I.bare,I.base,I.loc,I.cell,I.free,I.freeC,λp b=>(iq.mp b).elim (λz=>I.pin p (Ab _ z)) (h p),I.hok,I.len⟩
theorem BL{N:List Str}(c:N.Nodup){i j:Nat}{x:Str}(a:N[i]?=aa x)(b:N[j]?=aa x):i=j:=by obtain⟨m,h⟩:=cY.mp a;obtain⟨l,d⟩:=cY.mp b;exact(List.getElem_inj c).mp (h.trans d.symm)
theorem D9{M:Model}{A:aS}{E:ah->ao->Prop}{i:Nat}{x:Str}{v:V}{u:ah}{Q:Unit->ao->Prop}(I:Inv X f g H s)(hN:X.N.Nodup)(S:X.N[i]?=aa x)(F:Loc X.env.scope x)(r:RelV v u)(h:∀s',Inv X f (g.set i (aa v)) H s'->(∃a,jF a s.heap s'.heap/\(a=X.env.locals\/X.env.cells.lookup x=aa a))->Q () s') (hf:X.fn x=ai\/X.env.scope.names.lookup x=aa .local:=by first|exact .inl rfl|exact .inr rfl|assumption):aq M A (storeName X.env x u) Q E s:=by
 obtain⟨m,hn,hl⟩:=id I.loc;have AZ:(X.env.scope.kind == .class||(X.env.scope.kind == .module&&X.env.locals != X.env.globals))=aj:=by rw[I.ok.kind];rfl
 have K:i<g.length:=by rw[I.len];exact(cY.mp S).1
 have cne:=I.cne;have B:∀{a:af}{h':aB},(∃o,s.heap.get? a=aa o/\H a=ae)->jF a s.heap h'->cM X.prog X.w H h':=λ{a h'} ha l b ob e=>by
  obtain⟨_,_,tU⟩:=ha;refine(I.hok b ob e).stay (λc W D q=>(l.2 c ?_).trans q) (λ_ q=>q) λ_ _ q=>q;rintro rfl;rcases D with rfl|D
  .rw[tU]at e;cases e
  .rw[tU]at D;cases D
 rcases F with J|J
 .refine wpAny_storeName_local J hn (λh' hn' l=>?_) AZ;obtain⟨oL,_,_,uc,_⟩:=id hn;refine h _ ⟨I.ok,I.os,I.bare,⟨λb o e n O F=>?_,λb o e n O F=>?_,I.base.free,λb o e F=>?_,I.base.tups,I.base.frzs,I.base.tbls⟩,⟨_,hn',λj y v' C G e3=>?_⟩,λy c e=>?_,I.free,I.freeC,λp hp=>?_,B ⟨oL,uc,I.free⟩ l,by simpa using I.len⟩ ⟨_,l,.inl rfl⟩
  .exact(l.2 b (cT (fc (bo e) I.ok.above))).trans (I.base.keep b o e n O F)
  .obtain⟨sl,C⟩:=I.base.slot b o e n O F;exact⟨sl,(l.2 b (cT (fc (bo e) I.ok.above))).trans C⟩
  .obtain⟨o',C⟩:=I.base.there b o e F;exact⟨o',(l.2 b (cT (fc (bo e) I.ok.above))).trans C⟩
  .by_cases L:j=i
   .subst L;rw[S]at C;cases C;rw[gh K]at G;cases G;exact⟨u,r,.inl ⟨J,by simp⟩⟩
   .rw[ef (fF L)]at G;obtain⟨u',r',q⟩:=hl j y v' C G e3;refine⟨u',r',?_⟩;rcases q with⟨k,e⟩|⟨k,c,e,z⟩
    .refine .inl ⟨k,?_⟩;have:y≠x:=λe=>L (BL hN C (e ▸ S));simp[this,e]
    .exact .inr ⟨k,c,e,z.sameBut l (cne y c e)⟩
  .obtain⟨W,z⟩:=I.cell y c e;exact⟨W,z.sameBut l (cne y c e)⟩
  .obtain⟨e,n,Y,nf,d⟩:=I.pin p hp;exact⟨(l.2 p.1 Y).trans e,n,Y,nf,d⟩
 .have N:X.fn x=ai:=by
   rcases hf with z|z
   .exact z
   .rw[z]at J;cases J
  obtain⟨c,D⟩:=I.ok.has x (.inl J);obtain⟨W,z⟩:=I.cell x c D;refine wpAny_storeName_cell I.ok.kind J D z (λh' gB l=>?_);obtain⟨oc,o8,P⟩:=id z;refine h {s with heap:=h'} ⟨I.ok,I.os,I.bare,⟨λb o e n O F=>?_,λb o e n O F=>?_,I.base.free,λb o e F=>?_,I.base.tups,I.base.frzs,I.base.tbls⟩,⟨m,hn.sameBut l (fF (cne x c D)),λj y v' C G e3=>?_⟩,λy Z e=>?_,I.free,I.freeC,λp hp=>?_,B ⟨oc,o8,I.freeC x c D⟩ l,by simpa using I.len⟩ ⟨c,l,.inr D⟩
  .exact(l.2 b (cT (fc (bo e) (I.ok.cab x c N D)))).trans (I.base.keep b o e n O F)
  .obtain⟨sl,C⟩:=I.base.slot b o e n O F;exact⟨sl,(l.2 b (cT (fc (bo e) (I.ok.cab x c N D)))).trans C⟩
  .obtain⟨o',C⟩:=I.base.there b o e F;exact⟨o',(l.2 b (cT (fc (bo e) (I.ok.cab x c N D)))).trans C⟩
  .by_cases L:j=i
   .subst L;rw[S]at C;cases C;rw[gh K]at G;cases G;exact⟨u,r,.inr ⟨.inl J,c,D,gB⟩⟩
   .rw[ef (fF L)]at G;obtain⟨u',r',q⟩:=hl j y v' C G e3;refine⟨u',r',?_⟩;rcases q with q|⟨k,Z,e,z'⟩
    .exact .inl q
    .refine .inr ⟨k,Z,e,z'.sameBut l ?_⟩;rintro rfl;exact L (BL hN C (I.ok.inj _ _ _ e D ▸ S))
  .by_cases T:Z=c
   .subst T;exact⟨_,gB⟩
   .obtain⟨w2,z2⟩:=I.cell y Z e;exact⟨w2,z2.sameBut l T⟩
  .obtain⟨e,n,Y,nf,d⟩:=I.pin p hp;refine⟨(l.2 p.1 ?_).trans e,n,Y,nf,d⟩;intro q;rw[q,o8]at e;have q':oc=p.2:=dz e;exact d W (by rw[<-q'];exact P)
theorem DL{M:Model}{A:aS}{E:ah->ao->Prop}{i:Nat}{x:Str}{v:V}{u:ah}{Q:Unit->ao->Prop}(I:Inv X f g H s)(j:X.N.Nodup)(c:X.N[i]?=aa x)(b:Loc X.env.scope x)(r:RelV v u)(h:∀a,Inv X f (g.set i (aa v)) H a->Q () a) (d:X.fn x=ai\/X.env.scope.names.lookup x=aa .local:=by first|exact .inl rfl|exact .inr rfl|assumption):aq M A (storeName X.env x u) Q E s :=D9 I j c b r (λa l _=>h a l) d
theorem Inv.call'{s':ao}{ch:List af}(I:Inv X f g H s)(i:s'.os=s.os)(u:Un (fz X.stack) ch H w s.heap s'.heap)(a:cM X.prog X.w w s'.heap)(j:l7 s'.gens)(h:∀b∈ch,(b∈X.ex\/X.s₀.heap.objs.size<=b)/\b≠X.env.locals/\(∀x c,X.env.cells.lookup x=aa c->c≠b)/\∀p∈X.pn++f,p.1≠b):Inv X f g w s':=by obtain⟨h',g',d',t',d⟩:=s';have e:d=s.os:=i;subst e;exact I.call (g':=g') (t':=t') (d':=d') u a j h
end
abbrev XK:=ah->Option af->Hp->Prop
abbrev St:=List (Option V)
abbrev VK:=V->Hp->Prop
abbrev TE:=St->Hp->VK->Prop
abbrev TT:=St->Hp->(Bool->Hp->Prop)->Prop
abbrev TA:=St->Hp->(List V->Hp->Prop)->Prop
structure jx where
 nx:St->Hp->Prop
 rt:VK
 bk:St->Hp->Prop:=λ_ _=>False
 ct:St->Hp->Prop:=λ_ _=>False
abbrev TS:=jx->St->Hp->Prop
def EP(X:Cx)(d:List (af×Obj))(b:St)(Q:VK)(u:ah)(c:ao):Prop:=∃v a,Inv X d b a c/\RelV v u/\Q v a
def TP(X:Cx)(f:List (af×Obj))(c:St)(Q:Bool->Hp->Prop)(b:Bool)(d:ao):Prop:=∃a,Inv X f c a d/\Q b a
def AP(X:Cx)(g:List (af×Obj))(c:St)(Q:List V->Hp->Prop)(d:List ah)(f:ao):Prop:=∃a b,Inv X g c b f/\bq a d/\Q a b
def SP(X:Cx)(c:List (af×Obj))(D:jx)(f:Flow)(s':ao):Prop :=
 match f with
 |.next=>∃a b,Inv X c a b s'/\D.nx a b
 |.brk=>∃a b,Inv X c a b s'/\D.bk a b
 |.cont=>∃a b,Inv X c a b s'/\D.ct a b
 |.ret u=>∃v a b,Inv X c a b s'/\RelV v u/\D.rt v b
def PE(X:Cx)(e:az)(t:TE):Prop :=
 ∀(b:List (af×Obj)) (s:ao) (a:St) (H:Hp) (Q:VK),Inv X b a H s->t a H Q->aq (aw X.prog X.w) X.A (aM e X.env) (EP X b a Q) X.xe s
def PT(X:Cx)(e:az)(t:TT):Prop :=
 ∀(b:List (af×Obj)) (s:ao) (a:St) (H:Hp) (Q:Bool->Hp->Prop),Inv X b a H s->t a H Q->aq (aw X.prog X.w) X.A (l9 e X.env (aM e X.env)) (TP X b a Q) X.xe s
def PW(X:Cx)(e:az)(t:TT):Prop :=
 ∀(c:Sem ah) (b:List (af×Obj)) (s:ao) (a:St) (H:Hp) (Q:Bool->Hp->Prop),Inv X b a H s->t a H Q->aq (aw X.prog X.w) X.A (l9 e X.env c) (TP X b a Q) X.xe s
def PA(X:Cx)(d:List az)(t:TA):Prop :=
 ∀(b:Pos) (c:List (af×Obj)) (s:ao) (a:St) (H:Hp) (Q:List V->Hp->Prop),Inv X c a H s->t a H Q->aq (aw X.prog X.w) X.A (spliced (dA b (aP d X.env))) (AP X c a Q) X.xe s
def PS(X:Cx)(c:bi)(t:TS):Prop :=
 ∀(b:List (af×Obj)) (s:ao) (a:St) (H:Hp) (D:jx),Inv X b a H s->t D a H->aq (aw X.prog X.w) X.A (exec c X.env) (SP X b D) X.xe s
def kR(X:Cx)(c:List bi)(t:TS):Prop :=
 ∀(b:List (af×Obj)) (s:ao) (a:St) (H:Hp) (D:jx),Inv X b a H s->t D a H->aq (aw X.prog X.w) X.A (execs c X.env) (SP X b D) X.xe s
theorem aI{b:Type}{t:Sem b}{Q c:b->ao->Prop}{M:Model}{A:aS}{E:ah->ao->Prop}{s:ao}(h:aq M A t Q E s)(d:∀a s,Q a s->c a s):aq M A t c E s:=eP h d λ_ _ x=>x
section
variable{X:Cx}
theorem EA{a b:az}{n o:TE}(D:PE X a n)(C:PE X b o){l:List (af×Obj)}{s:ao}{c:St}{H:Hp}{R:V->V->Hp->Prop}(I:Inv X l c H s)(h:n c H λx m=>o c m λy d=>R x y d){p:Type}{Q:p->ao->Prop}{f:ah->ah->Sem p}(B:∀v u j x y d,Inv X l c d j->RelV x v->RelV y u->R x y d->aq (aw X.prog X.w) X.A (f v u) Q X.xe j):aq (aw X.prog X.w) X.A (aM a X.env) (λv i=>aq (aw X.prog X.w) X.A (aM b X.env) (λu g=>aq (aw X.prog X.w) X.A (f v u) Q X.xe g) X.xe i) X.xe s:=by refine aI (D l s c H _ I h) λv q ⟨x,m,F,w,A⟩=>?_;refine aI (C l q c m _ F A) λu j ⟨y,d,E,r,z⟩=>?_;exact B v u j x y d E w r z
def kW(i:Nat):TE:=λa H Q=>∃v,a[i]?=aa (aa v)/\Q v H
def tC(v:V):TE:=λ_ H Q=>Q v H
theorem gK{i:Nat}{x:Str}{g:Pos}(p:X.N[i]?=aa x)(j:fu X.env.scope x)(d:(x==("__debug__":Str))=aj:=by decide)(q:(x==("__classdict__":Str))=aj:=by decide):PE X (.Name x g) (kW i):=by
 intro w s f H Q I h;obtain⟨v,e,h⟩:=h;obtain⟨m,n,o⟩:=I.loc;obtain⟨u,r,l⟩:=o i x v p e j;have b:EP X w f Q u s:=⟨v,H,I,r,h⟩
 rcases l with⟨a,hm⟩|⟨a,c,hc,xE⟩
 .exact wO (Fd I.ok.kind a n hm b) d
 .rcases a with a|a
  .exact wO (wpAny_loadName_cell I.ok.kind a hc xE b) d
  .exact wO (wpAny_loadName_free I.ok.kind a hc xE b q) d
theorem wB{i j g}:PE X (.Constant (.int i) j g) (tC (.int i)):=λ_ _ _ H _ I h=>wpAny_Constant_int ⟨.int i,H,I.tok _,⟨_,rfl⟩,h⟩
theorem LV{b j g}:PE X (.Constant (.bool b) j g) (tC (.bl b)):=λ_ _ _ H _ I h=>Constant_bool ⟨.bl b,H,I,rfl,h⟩
theorem L_{j g}:PE X (.Constant .none j g) (tC .non):=λ_ _ _ H _ I h=>Constant_none ⟨.non,H,I,rfl,h⟩
theorem KC{x j g}:PE X (.Constant (.str x) j g) (tC (.str x)):=λ_ _ _ H _ I h=>Calls.Constant_str ⟨.str x,H,I.tok _,⟨_,rfl⟩,h⟩
def Gl(X:Cx)(x:Str):Prop:=X.env.kindOf x=aa .globalImplicit
theorem zX{E:ah->ao->Prop}{f:List (af×Obj)}{s:ao}{a:St}{H:Hp}{x:Str}{u:ah}{g:Pos}{Q:ah->ao->Prop}(I:Inv X f a H s)(c:Gl X x)(b:X.mg x=aa u)(h:Q u s)(d:(x==("__debug__":Str))=aj:=by decide):aq (aw X.prog X.w) X.A (aM (.Name x g) X.env) Q E s :=Fe I.ok.kind c (Calls.loadGlobal_global (by rw[I.ok.glob];exact I.mod.glob.keeps I.bk) b h) d
theorem oN{E:ah->ao->Prop}{m:List (af×Obj)}{s:ao}{a:St}{H:Hp}{x:Str}{u:ah}{g:Pos}{Q:ah->ao->Prop}(I:Inv X m a H s)(f:Gl X x)(d:X.mg x=ae)(b:dW x=aa u)(h:Q u s)(c:x≠"__name__":=by decide) (i:(x==("__debug__":Str))=aj:=by decide):aq (aw X.prog X.w) X.A (aM (.Name x g) X.env) Q E s:=by obtain⟨n,l,j⟩:=I.mod.blt;exact Fe I.ok.kind f (Calls.loadGlobal_builtin (by rw[I.ok.glob];exact I.mod.glob.keeps I.bk) d (by rw[I.ok.blt];exact l.keeps I.bk) ((j x c).trans b) h) i
theorem DH{x:Str}{v:V}{u:ah}{g:Pos}(b:Gl X x)(a:X.mg x=aa u)(r:RelV v u)(c:(x==("__debug__":Str))=aj:=by decide):PE X (.Name x g) (tC v) :=λ_ _ _ H _ I h=>zX I b a ⟨v,H,I,r,h⟩ c
theorem J7{x:Str}{v:V}{u:ah}{g:Pos}(d:Gl X x)(c:X.mg x=ae)(a:dW x=aa u)(r:RelV v u)(b:x≠"__name__":=by decide)(f:(x==("__debug__":Str))=aj:=by decide):PE X (.Name x g) (tC v) :=λ_ _ _ H _ I h=>oN I d c a ⟨v,H,I,r,h⟩ b f
def D7(n o:TE)(k:Int->Int->Hp->Prop):St->Hp->Prop:=λa H=>n a H λx c=>o a c λy b=>∃i j,x=.int i/\y=.int j/\k i j b
def Bm(n o:TE):TE:=λa H Q=>D7 n o (λi j b=>Q (.int (i-j)) b) a H
variable{a b:az}{n o:TE}{g:Pos}
theorem L7(l:PE X a n)(f:PE X b o):PE X (.BinOp a .Sub b g) (Bm n o):=by intro A s r H Q I h;refine wpAny_BinOp (EA l f I h λv u z x y p m d c q=>?_);obtain⟨i,j,rfl,rfl,q⟩:=q;obtain⟨t,rfl⟩:=d;obtain⟨w,rfl⟩:=c;exact sub_int ⟨.int _,p,m.tok _,⟨_,rfl⟩,q⟩
def PC(X:Cx)(i:CmpOp)(a b:az)(t:TE):Prop :=
 ∀(h:List (af×Obj)) (s:ao) (f:St) (H:Hp) (Q:VK),Inv X h f H s->t f H Q ->
  aq (aw X.prog X.w) X.A (aM a X.env) (λv d=>aq (aw X.prog X.w) X.A (aM b X.env) (λu c=>aq (aw X.prog X.w) X.A (dr i v u) (EP X h f Q) X.xe c) X.xe d) X.xe s
theorem OM(b:az){c:CmpOp}(h:c≠.In)(d:c≠.NotIn):oQ c b=aj:=by
 have i:(c == CmpOp.In)=aj:=by cases c <;> first|rfl|exact absurd rfl h
 have f:(c == CmpOp.NotIn)=aj:=by cases c <;> first|rfl|exact absurd rfl d
 cases b <;> simp[oQ,i,f]
def BI(p:Int->Int->Bool)(n o:TE):TE:=λc H Q=>D7 n o (λi j d=>Q (.bl (p i j)) d) c H
abbrev EM:TE->TE->TE:=BI λi j=>decide (i=j)
theorem Mq{d:CmpOp}{p:Int->Int->Bool}(z:PE X a n)(w:PE X b o)(c:∀(i j:Int) (t u:Tok) (Q:ah->ao->Prop) (s:ao),Q (.bool (p i j)) s->aq (aw X.prog X.w) X.A (dr d (.int i t) (.int j u)) Q X.xe s):PC X d a b (BI p n o):=by intro D s C H Q I h;refine EA z w I h λv u l x y B A r m q=>?_;obtain⟨i,j,rfl,rfl,q⟩:=q;obtain⟨t,rfl⟩:=r;obtain⟨f,rfl⟩:=m;exact c i j t f _ l ⟨.bl _,B,A,rfl,q⟩
theorem G6(d:PE X a n)(c:PE X b o):PC X .Eq a b (EM n o):=Mq d c λ_ _ _ _ _ _ h=>eq_int (by rw[Bool.beq_eq_decide_eq];exact h)
def tB(t:TE):TT:=λd H Q=>t d H λx f=>∃c,x=.bl c/\Q c f
theorem En{f:CmpOp}{t:TE}(h:PC X f a b t)(i:oQ f b=aj:=by first|exact OM _ (by decide) (by decide)|rfl):PT X (.Compare a [f] [b] g) (tB t):=by
 intro w s j H Q I p;refine wpAny_isTrue_Compare1 (aI (h w s j H _ I p) λv C i=>aI i λu B r=>aI r λc A ⟨x,z,y,l,m⟩=>?_) i;obtain⟨d,rfl,q⟩:=m;cases l;exact k8 ⟨z,y,q⟩
theorem Nb{e:az}{t:TE}(h:PE X e t)(m:∀c,l9 e X.env c=(do let v <-c;standAt e.pos;mV [v] (truthy v)):=by intro _;rfl):PT X e (tB t):=by
 intro p s f H Q I l;refine isTrue_plain (aI (h p s f H _ I l) λv w ⟨x,u,r,i,j⟩=>?_) (m _);obtain⟨d,rfl,q⟩:=j;cases i;exact k8 ⟨u,r,q⟩
variable{w z:TT}{rest:List az}
def He(t u:TT):TT:=λd H Q=>t d H λc f=>if c=ai then Q ai f else u d f Q
def Ob(t:TT):TT:=λd H Q=>t d H λc f=>Q (!c) f
theorem Kj(f:PT X a w):PW X (.BoolOp .Or [a] g) w:=by
 intro j i s d H Q I h;refine isTrue_or (aI (f i s d H Q I h) λc l e=>?_);cases c with
 |false=>exact isTrue_or_nil e
 |true=>exact e
theorem L4(r:PT X a w)(q:PW X (.BoolOp .Or (b::rest) g) z):PW X (.BoolOp .Or (a::b::rest) g) (He w z):=by
 intro m i s d H Q I h;refine isTrue_or (aI (r i s d H _ I h) λc p ⟨l,j,f⟩=>?_);cases c with
 |true=>exact⟨l,j,f⟩
 |false=>exact q m i p d l Q j f
theorem Io(f:PT X a w):PT X (.UnaryOp .Not a g) (Ob w):=by intro i s d H Q I h;exact isTrue_not (f i s d H (λc j=>Q (!c) j) I h)
def Ie(n o:TE):TE:=λd H Q=>n d H λx f=>∃c,x=.bl c/\if c=ai then o d f Q else Q (.bl aj) f
def Mu(n o:TE):TE:=λd H Q=>n d H λx f=>∃c,x=.bl c/\if c=ai then Q (.bl ai) f else o d f Q
def K9(n:TE):TE:=λd H Q=>n d H λx f=>∃c,x=.bl c/\Q (.bl (!c)) f
theorem Jj{op}{t:TE}(h:PE X a t):PE X (.BoolOp op [a] g) t:=λf s c H Q I d=>BoolOp_one (h f s c H Q I d)
theorem GF(r:PE X a n)(q:PE X (.BoolOp .And (b::rest) g) o):PE X (.BoolOp .And (a::b::rest) g) (Ie n o):=by
 intro i s f H Q I h;refine BoolOp_and (aI (r i s f H _ I h) λv m ⟨x,l,j,p,d⟩=>?_);obtain⟨c,rfl,d⟩:=d;cases p;refine k8 ?_;cases c with
 |true=>exact q i m f l Q j d
 |false=>exact⟨.bl aj,l,j,rfl,d⟩
theorem Mb(r:PE X a n)(q:PE X (.BoolOp .Or (b::rest) g) o):PE X (.BoolOp .Or (a::b::rest) g) (Mu n o):=by
 intro i s f H Q I h;refine BoolOp_or (aI (r i s f H _ I h) λv m ⟨x,l,j,p,d⟩=>?_);obtain⟨c,rfl,d⟩:=d;cases p;refine k8 ?_;cases c with
 |false=>exact q i m f l Q j d
 |true=>exact⟨.bl ai,l,j,rfl,d⟩
theorem Nz(j:PE X a n):PE X (.UnaryOp .Not a g) (K9 n):=by
 intro l s f H Q I h;refine UnaryOp_ (aI (j l s f H _ I h) λv q ⟨x,p,m,i,d⟩=>?_);obtain⟨c,rfl,d⟩:=d;cases i;exact not_of (k8 ⟨.bl (!c),p,m,rfl,d⟩)
def Kv(t:TT)(n o:TE):TE:=λd H Q=>t d H λc f=>if c=ai then n d f Q else o d f Q
theorem Ka{c:az}(q:PT X c w)(u:PE X a n)(r:PE X b o):PE X (.IfExp c a b g) (Kv w n o):=by
 intro i s f H Q I h;refine wpAny_IfExp (aI (q i s f H _ I h) λd j ⟨p,m,l⟩=>?_);cases d with
 |true=>exact u i j f p Q m l
 |false=>exact r i j f p Q m l
end
def bP(K:ax)(H:Hp)(a:af)(c:List V):Prop :=
 Rd H a (.lst c) \/
  ∃(o:Obj) (b:Array ah) (n:Nat),K.lookup a=aa o/\o.cls=.type "list"/\o.dict=ae/\o.data=.seq b n/\b.size<=aX/\bq c b.toList
def bR(K:ax)(H:Hp)(a:af)(c:List V):Prop :=
 Rd H a (.tup c) \/
  ∃(o:Obj) (b:Array ah) (n:Nat),K.lookup a=aa o/\o.cls=.type "tuple"/\o.data=.seq b n/\b.size<=aX/\bq c b.toList
def Ph:ah->Option V
 |.none=>aa .non
 |.bool b=>aa (.bl b)
 |.int i _=>aa (.int i)
 |.str x _=>aa (.str x)
 |.bytes b _=>aa (.byt b)
 |.float b _=>aa (.flt b)
 |.ref a=>aa (.ref a)
 |.type n=>aa (.ty n)
 |_=>ae
theorem RelV.abs{x:V}{u:ah}(r:RelV x u):Ph u=aa x:=by
 cases x with
 |non=>cases r;rfl
 |bl _=>cases r;rfl
 |int _=>obtain⟨t,rfl⟩:=r;rfl
 |str _=>obtain⟨t,rfl⟩:=r;rfl
 |byt _=>obtain⟨t,rfl⟩:=r;rfl
 |flt _=>obtain⟨t,rfl⟩:=r;rfl
 |ref _=>cases r;rfl
 |ty _=>cases r;rfl
theorem RelV.inj{x y:V}{u:ah}(r:RelV x u)(q:RelV y u):x=y:=dz (r.abs.symm.trans q.abs)
theorem bq.inj:∀{b a:List V}{c:List ah},bq b c->bq a c->b=a
 |_,_,_,.nil,.nil=>rfl
 |_,_,_,.cons r t,.cons f d=>by rw[r.inj f,bq.inj t d]
section
variable{X:Cx}{g:List (af×Obj)}{c:St}{H:Hp}{s:ao}{a:af}{b f:List V}
theorem bP.of{K:ax}(h:H a=aa (.lst b)):bP K H a b:=.inl (.inl h)
theorem bR.of{K:ax}(h:H a=aa (.tup b)):bR K H a b:=.inl (.inl h)
theorem Inv.list(I:Inv X g c H s)(h:bP X.K H a b):∃its:List ah,bq b its/\PlainL s.heap a its.toArray/\b.length<=aX:=by
 rcases h with h|⟨o,its,n,i,l,j,d,m,r⟩
 .obtain⟨z,its,n,r,e⟩:=h.ok I.hok;exact⟨its,r,⟨_,n,e,rfl,rfl,rfl⟩,z⟩
 .refine⟨its.toList,r,⟨o,n,I.kIn a o i,l,j,by simpa using d⟩,?_⟩;have e:=r.length;simp only[jG]at e;lia
theorem Inv.tuple(I:Inv X g c H s)(h:bR X.K H a b):∃d:List ah,bq b d/\IsTup s.heap a d.toArray/\b.length<=aX:=by
 rcases h with h|⟨o,d,n,j,l,i,m,r⟩
 .obtain⟨z,d,r,p,_⟩:=h.ok I.hok;exact⟨d,r,p,z⟩
 .refine⟨d.toList,r,⟨o,I.kIn a o j,l,n,by simpa using i⟩,?_⟩;have e:=r.length;simp only[jG]at e;lia
theorem Inv.list_inj(I:Inv X g c H s)(h:bP X.K H a b)(q:bP X.K H a f):b=f:=by
 obtain⟨j,r,⟨o,n,e,_,_,d⟩,_⟩:=I.list h;obtain⟨i,p,⟨u,v,l,_,_,m⟩,_⟩:=I.list q;rw[e]at l;cases l;rw[d]at m;injection m with d1 _;have:j=i:=by simpa using congrArg Array.toList d1
 subst this;exact r.inj p
theorem Inv.tuple_inj(I:Inv X g c H s)(h:bR X.K H a b)(q:bR X.K H a f):b=f:=by
 obtain⟨j,r,⟨o,e,_,n,d⟩,_⟩:=I.tuple h;obtain⟨i,p,⟨u,l,_,v,m⟩,_⟩:=I.tuple q;rw[e]at l;cases l;rw[d]at m;injection m with d1 _;have:j=i:=by simpa using congrArg Array.toList d1
 subst this;exact r.inj p
end
abbrev Cx.wish(X:Cx)(E:ah->ao->Prop):Cx:={X with xe:=E}
abbrev Cx.nox(X:Cx):Cx:=X.wish λ_ _=>False
theorem Cx.Ok.wish{X:Cx}(ok:X.Ok)(E:ah->ao->Prop):(X.wish E).Ok :=⟨ok.mod,ok.kind,ok.glob,ok.blt,ok.above,ok.inj,ok.has,ok.cab,ok.hd,ok.frames,ok.stk,ok.exf,ok.bs,ok.bsz,ok.noex,ok.exfs,ok.funs,ok.frf,ok.tab⟩
theorem Cx.Ok.unwish{X:Cx}{E:ah->ao->Prop}(ok:(X.wish E).Ok):X.Ok :=⟨ok.mod,ok.kind,ok.glob,ok.blt,ok.above,ok.inj,ok.has,ok.cab,ok.hd,ok.frames,ok.stk,ok.exf,ok.bs,ok.bsz,ok.noex,ok.exfs,ok.funs,ok.frf,ok.tab⟩
section
variable{X:Cx}{a:List (af×Obj)}{b:St}{H:Hp}{s:ao}{E:ah->ao->Prop}
theorem Inv.wish(I:Inv X a b H s)(E:ah->ao->Prop):Inv (X.wish E) a b H s:=⟨I.ok.wish E,I.os,I.bare,I.base,I.loc,I.cell,I.free,I.freeC,I.pin,I.hok,I.len⟩
theorem Inv.unwish(I:Inv (X.wish E) a b H s):Inv X a b H s:=⟨I.ok.unwish,I.os,I.bare,I.base,I.loc,I.cell,I.free,I.freeC,I.pin,I.hok,I.len⟩
theorem SP.unwish{D:jx}{f:Flow}{g:ao}(h:SP (X.wish E) a D f g):SP X a D f g:=by
 cases f with
 |next=>obtain⟨c,d,I,q⟩:=h;exact⟨c,d,I.unwish,q⟩
 |brk=>obtain⟨c,d,I,q⟩:=h;exact⟨c,d,I.unwish,q⟩
 |cont=>obtain⟨c,d,I,q⟩:=h;exact⟨c,d,I.unwish,q⟩
 |ret u=>obtain⟨v,c,d,I,r,q⟩:=h;exact⟨v,c,d,I.unwish,r,q⟩
end
section
variable{X:Cx}{j:bi}{rest:List bi}{t u:TS}{e:az}{i:TE}{g:Pos}
def JD:TS:=λD a H=>D.nx a H
def Il(t u:TS):TS:=λD a H=>t {D with nx:=u D} a H
theorem HP:kR X [] JD:=λ_ _ a H _ I h=>wpAny_execs_nil ⟨a,H,I,h⟩
theorem GQ(m:PS X j t)(l:kR X rest u):kR X (j::rest) (Il t u):=by
 intro b s c H D I h;refine wpAny_execs_cons (aI (m b s c H {D with nx:=u D} I h) λf d q=>?_);cases f with
 |next=>obtain⟨a,o,n,q⟩:=q;exact l b d a o D n q
 |ret v=>exact q
 |brk=>exact q
 |cont=>exact q
theorem HH(b:PS X j t):kR X [j] t:=by
 intro c s a H D I h;refine wpAny_execs_cons (aI (b c s a H D I h) λf d q=>?_);cases f with
 |next=>exact wpAny_execs_nil q
 |ret v=>exact q
 |brk=>exact q
 |cont=>exact q
theorem Inv.quiet{b:List (af×Obj)}{a:St}{H:Hp}{s:ao}(I:Inv X b a H s):interactive X.env=aj:=by simp[interactive,I.ok.kind]
def Ln(i:TE):TS:=λD a H=>i a H λ_ b=>D.nx a b
theorem y0(d:PE X e i)(c:iM e ae g.line X.env=pure aj:=by rfl):PS X (.Expr e g) (Ln i):=by intro f s a H D I h;exact wpAny_Expr_any (aI (d f s a H _ I h) λv n ⟨x,m,l,o,b⟩=>⟨a,m,l,b⟩) I.quiet c
def KW(i:TE):TS:=λD a H=>i a H D.rt
theorem yr(d:PE X e i):PS X (.Return (aa e) g) (KW i):=by intro f s a H D I h;exact wpAny_Return_some (aI (d f s a H _ I h) λv n ⟨x,m,l,b,c⟩=>⟨x,a,m,l,b,c⟩)
def OG(c:TT)(t u:TS):TS:=λD a H=>c a H λb d=>if b=ai then t D a d else u D a d
theorem Op{c:az}{a b:List bi}{m:TT}(r:PT X c m)(w:kR X a t)(v:kR X b u):PS X (.If c a b g) (OG m t u):=by
 intro l s f H D I h;refine wpAny_If (aI (r l s f H _ I h) λd n ⟨q,p,o⟩=>?_);cases d with
 |true=>exact w l n f q D p o
 |false=>exact v l n f q D p o
end
abbrev TG:=V->St->Hp->(St->Hp->Prop)->Prop
abbrev oG:=List V->St->Hp->(St->Hp->Prop)->Prop
def PG(X:Cx)(a:az)(t:TG):Prop :=
 ∀(d:List (af×Obj)) (s:ao) (c:St) (H:Hp) (v:V) (u:ah) (Q:St->Hp->Prop),Inv X d c H s->RelV v u->t v c H Q ->
  aq (aw X.prog X.w) X.A (mW a X.env u) (λ_ s'=>∃b f,Inv X d b f s'/\Q b f) X.xe s
def vg(X:Cx)(h:List az)(t:oG):Prop :=
 ∀(f:List (af×Obj)) (s:ao) (b:St) (H:Hp) (c:List V) (d:List ah) (Q:St->Hp->Prop),Inv X f b H s->bq c d->t c b H Q ->
  aq (aw X.prog X.w) X.A (assignInOrder ((qy h X.env).map (·.2)) d) (λ_ i=>∃a g,Inv X f a g i/\Q a g) X.xe s
abbrev zk:=V->V->V->Hp->(Hp->Prop)->Prop
def DQ(X:Cx)(t:zk):Prop :=
 ∀(c:List (af×Obj)) (s:ao) (a:St) (H:Hp) (o i v:V) (ov b u:ah) (Q:Hp->Prop),Inv X c a H s->RelV o ov->RelV i b->RelV v u->t o i v H Q ->
  aq (aw X.prog X.w) X.A (setItem ov b u) (λ_ f=>∃d,Inv X c a d f/\Q d) X.xe s
section
variable{X:Cx}{c:Pos}
def Bz(i:Nat):TG:=λv a H Q=>Q (a.set i (aa v)) H
theorem wK{i:Nat}{x:Str}(f:X.N.Nodup)(b:X.N[i]?=aa x)(a:Loc X.env.scope x)(d:X.fn x=ai\/X.env.scope.names.lookup x=aa .local:=by first|exact .inl rfl|exact .inr rfl|assumption):PG X (.Name x c) (Bz i):=by intro m s j H v u Q I r h;exact wpAny_assign_Name (DL I f b a r (λl g=>⟨_,H,g,h⟩) d)
def cb:oG:=λb a H Q=>b=[]/\Q a H
def KU(t:TG)(u:oG):oG:=λd b H Q=>∃v r,d=v::r/\t v b H λa f=>u r a f Q
theorem MJ:vg X [] cb:=by
 intro f s a H b d Q I r h;obtain⟨e,h⟩:=h;subst e;cases r;exact assignInOrder_nil ⟨a,H,I,h⟩
theorem EY{e:az}{a:List az}{t:TG}{u:oG}(n:PG X e t)(m:vg X a u)(l:(qy (e::a) X.env).map (·.2)=mW e X.env::(qy a X.env).map (·.2):=by rfl):vg X (e::a) (KU t u):=by
 intro d s f H w y Q I r h;obtain⟨v,x,o,h⟩:=h;subst o;cases r with
 |cons r i=>rw[l];refine assignInOrder_cons (aI (n d s f H _ _ _ I r h) λ_ g ⟨b,q,p,j⟩=>?_);exact m d g b q _ _ Q p i j
def MN(K:ax)(n:Nat)(t:oG):TG:=λv d H Q=>∃a b,v=.ref a/\bR K H a b/\b.length=n/\t b d H Q
theorem MX{d:List az}{k:Nat}{t:oG}{n:Nat}(z:X.calm=ai)(h:vg X d t)(x:(qy d X.env).length=n:=by rfl) (C:(qy d X.env).findIdx? (·.1)=ae:=by rfl):PG X (.Tuple d k c) (MN X.K n t):=by
 intro j s g H v u Q I r f;obtain⟨a,l,B,w,y,f⟩:=f;subst B;cases r;obtain⟨m,i,q,E⟩:=I.tuple w;refine assign_Tuple_tuple (I.ok.hd z) q (by simp[x,<-y,i.length]) C λA p=>?_;have D:Inv X j g H {s with heap:=A}:=I.kept (t':=s.toks) λb o e=>p b o (cT (bo e)) e;exact h j _ g H l _ Q D (by simpa using i) f
def NP(b d:TE)(t:zk):TG:=λv a H Q=>b a H λo h=>d a h λi g=>t o i v g λf=>Q a f
theorem Gp{o i:az}{f g:TE}{t:zk}(A:PE X o f)(B:PE X i g)(z:DQ X t)(C:∀v,mW (.Subscript o i c) X.env v=(do
   let ov <-mV [v] (aM o X.env)
   let a <-mV [v,ov] (aM i X.env)
   standAt c
   mV [v,ov,a] (setItem ov a v)
   release [v,ov,a] []):=by intro _;rfl):PG X (.Subscript o i c) (NP f g t):=by
 intro d s b H v u Q I r h;rw[C];refine ap (iN (aI (A d s b H _ I h) λov l ⟨x,K,F,n,w⟩=>?_));refine ap (iN (aI (B d l b K _ F w) λa j ⟨y,J,E,m,q⟩=>?_));refine ap (wpAny_standAt (ap (iN (aI (z d j b J x y v ov a u _ E n m r q) λ_ L ⟨G,D,p⟩=>?_))));exact wpAny_release ⟨b,G,D,p⟩
def B3(b:TE)(g:TG):TS:=λD a H=>b a H λx d=>g x a d D.nx
theorem CU{a e:az}{d:TE}{g:TG}(p:PE X e d)(o:PG X a g)(n:swapsWithSole [a] e c.line X.env=pure aj:=by rfl)(m:swappedStores [a] e X.env=pure ae:=by rfl)(r:(qy [a] X.env).map (·.2)=[mW a X.env]:=by rfl):PS X (.Assign [a] e c) (B3 d g):=by intro f s b H D I h;refine wpAny_Assign_stores (aI (p f s b H _ I h) λv i ⟨x,w,u,j,l⟩=>?_) n m;rw[r];exact aI (o f i b w x v _ u j l) λ_ y q=>q
theorem EG{i:Nat}{x:Str}{e:az}{b:TE}{a:Pos}(p:X.N.Nodup)(m:X.N[i]?=aa x)(j:Loc X.env.scope x)(o:PE X e b)(l:iM e (aa (.Name x a)) c.line X.env=pure aj:=by rfl)(n:X.fn x=ai\/X.env.scope.names.lookup x=aa .local:=by first|exact .inl rfl|exact .inr rfl|assumption):PS X (.Assign [.Name x a] e c) (B3 b (Bz i)):=by intro q s d H D I h;refine wpAny_Assign_Name (aI (o q s d H _ I h) λv A ⟨y,w,u,f,g⟩=>?_) l;exact DL u p m j f (λz r=>⟨_,w,r,g⟩) n
end
structure It where
 go:Nat->Hp->Prop
 yld:Nat->Hp->V->Hp->Prop
 stop:Nat->Hp->Prop
def j5(X:Cx)(a:List (af×Obj))(H:Hp)(b:af):Prop :=
 H b=ae/\b≠X.env.locals/\b∉X.fs/\(b∈X.ex\/X.s₀.heap.objs.size<=b)/\(∀x c,X.env.cells.lookup x=aa c->c≠b)/\∀p∈X.pn++a,p.1≠b
theorem Inv.fpOk{X:Cx}{d:List (af×Obj)}{g:St}{H f:Hp}{s:ao}{b:af}(I:Inv X d g H s)(a:s.heap.objs.size<=b)(i:f b=ae):j5 X d f b:=by
 refine⟨i,k9 (fc I.lt a),I.nofs a,.inr (cA I.sz a),λx c e z=>?_,λp h z=>?_⟩
 .obtain⟨v,q⟩:=I.cell x c e;exact absurd (fc q.lt (by rw[z];exact a)) (eO _)
 .exact absurd (fc (bo (I.pin p h).1) (by rw[z];exact a)) (eO _)
structure oh(P:aL)(w:aE)(K:ax)(tg:az)(J:It)(fp:List af)(it:af)(tn:Nat->aB->Prop):Prop where
 mem:it∈fp
 obj:∀i h,tn i h->∀b∈fp,∃o,h.get? b=aa o/\∀v,o.data≠.cell v
 keep:∀i h h',tn i h->(∀b∈fp,∀o,h.get? b=aa o->h'.get? b=aa o)->tn i h'
 item:∀(X:Cx),X.prog=P->X.w=w->X.K=K->X.calm=ai->∀(i:Nat) (ag:List (af×Obj)) (s:ao) (σ:St) (H:Hp) (E:ah->ao->Prop),Inv X ag σ H s->(∀b∈fp,j5 X ag H b)->tn i s.heap->J.go i H ->
  aq (aw P w) X.A (k_ (.ref it)) (λr s1=>∃u,r=aa u /\ aq (aw P w) X.A (Ac tg (.ref it) u) (λ_ s2=>∃x H',Inv X ag σ H' s2/\RelV x u/\J.yld i H x H'/\tn (i+1) s2.heap/\∀b∈fp,H' b=ae) E s1) E s
 done:∀(X:Cx),X.prog=P->X.w=w->X.K=K->X.calm=ai->∀(i:Nat) (ag:List (af×Obj)) (s:ao) (σ:St) (H:Hp) (E:ah->ao->Prop),Inv X ag σ H s->(∀b∈fp,j5 X ag H b)->tn i s.heap->J.stop i H ->
  aq (aw P w) X.A (k_ (.ref it)) (λr s1=>r=ae/\Inv X ag σ H s1) E s
 self:∀(A:aS) (i:Nat) (s:ao) (Q:ah->ao->Prop) (E:ah->ao->Prop),tn i s.heap->Q (.ref it) s->aq (aw P w) A (lc (.ref it)) Q E s
abbrev TI:=St->Hp->(It->Hp->Prop)->Prop
def rG(X:Cx)(i:List (af×Obj))(j:St)(l:az)(R:It->Hp->Prop)(a:ah)(f:ao):Prop :=
 ∃(g:af) (h:List af) (d:Nat->aB->Prop) (J:It) (c:Hp),a=.ref g/\Inv X i j c f/\oh X.prog X.w X.K l J h g d/\d 0 f.heap/\(∀b∈h,j5 X i c b)/\R J c
def PI(X:Cx)(f a:az)(d:TI):Prop :=
 ∀(c:List (af×Obj)) (s:ao) (b:St) (H:Hp) (R:It->Hp->Prop),Inv X c b H s->d b H R ->
  aq (aw X.prog X.w) X.A (aM a X.env) (λv g=>aq (aw X.prog X.w) X.A (lc v) (rG X c b f R) X.xe g) X.xe s
theorem pM{M:Model}{A:aS}{E:ah->ao->Prop}{s:ao}{c:az}{d:af}{u:ah}{o:Obj}{n:String}{b:Array ah}{Q:Unit->ao->Prop}(f:s.heap.get? d=aa o)(j:o.cls=.type n)(i:o.data=.fields b)(g:["enumerate","zip","dict_itemiterator","dict_reverseitemiterator","odict_iterator","itertools.zip_longest","itertools.pairwise"].contains n=aj) (a:Q () s):aq M A (Ac c (.ref d) u) Q E s:=by
 unfold Ac;cases c <;> first
  |exact aC a
  | (cases u <;> first
    |exact aC a
    | (refine ap (wpAny_load f ?_)
       rw[j,i];show aq M A (if(["enumerate","zip","dict_itemiterator","dict_reverseitemiterator","odict_iterator","itertools.zip_longest","itertools.pairwise"].contains n&&b[0]? == aa (cP _))=ai then _ else _) Q E s;rw[if_neg (by intro h;rw[g,Bool.false_and]at h;cases h)];exact aC a))
def yi(K:ax)(a:af):It :=⟨λi H=>∃b x,bP K H a b/\b[i]?=aa x,λi H x c=>c=H/\∀b,bP K H a b->b[i]?=aa x,λi H=>∃b,bP K H a b/\b.length<=i⟩
def zi(K:ax)(a:af):It :=⟨λi H=>∃b x,bR K H a b/\b[i]?=aa x,λi H x c=>c=H/\∀b,bR K H a b->b[i]?=aa x,λi H=>∃b,bR K H a b/\b.length<=i⟩
def sy(a:Int)(n:Nat):It:=⟨λi _=>i<n,λi H x b=>b=H/\x=.int (a+i),λi _=>n<=i⟩
theorem Lj{P:aL}{w:aE}{K:ax}{S:az}(a g:af):oh P w K S (yi K a) [g] g (λi h=>h.IsListIter g a i) where
 mem:=by simp
 obj:=λi h f b j=>by
  have e:b=g:=by simpa using j
  subst e;obtain⟨o,e,c,d⟩:=f;exact⟨o,e,λv z=>by rw[d]at z;cases z⟩
 keep:=λi h n f k=>f.at λo e=>k g (by simp) o e
 item:=by intro X C A D M i O s L H E I m f B;subst C A D;obtain⟨Q,x,l,y⟩:=B;obtain⟨r,q,p,W⟩:=I.list l;obtain⟨u,Z,T⟩:=q.get y;obtain⟨J,G,f2,f3,f4,F⟩:=m g (by simp);refine wpAny_pyNext_list_item f p.isList (x:=u) (by simpa using Z) λn N sb=>?_;have I1:Inv X O L H {s with heap:=n}:=I.turned (t':=s.toks) (λb o j e=>(sb.2 b j).trans e) J G f3 f4 F;obtain⟨o,e,c,d⟩:=id N;exact⟨u,rfl,pM (s:={s with heap:=n}) e c d (by decide) ⟨x,H,I1,T,⟨rfl,λys Y=>by rw[I.list_inj Y l];exact y⟩,N,λb j=>(m b j).1⟩⟩
 done:=by intro X C A D M i O s L H E I m f B;subst C A D;obtain⟨Q,l,y⟩:=B;obtain⟨r,q,p,W⟩:=I.list l;obtain⟨J,G,f2,f3,f4,F⟩:=m g (by simp);have hl:=q.length;exact wpAny_pyNext_list_end (I.ok.hd M) f p.isList (by simp;lia) λn eb=>⟨rfl,I.turned (t':=s.toks) (λb o j e=>eb b o j e) J G f3 f4 F⟩
 self:=λ_ _ _ _ _ f h=>wpAny_pyIter_listiter f h
theorem NE{P:aL}{w:aE}{K:ax}{S:az}(a j:af):oh P w K S (zi K a) [j] j (λi h=>h.IsTupleIter j a i) where
 mem:=by simp
 obj:=λi h f b l=>by
  have e:b=j:=by simpa using l
  subst e;obtain⟨o,e,c,d⟩:=f;exact⟨o,e,λv z=>by rw[d]at z;cases z⟩
 keep:=λi h q f k=>f.at λo e=>k j (by simp) o e
 item:=by intro X C A D M i O s L H E I n f B;subst C A D;obtain⟨Q,x,m,y⟩:=B;obtain⟨g,r,p,W⟩:=I.tuple m;obtain⟨u,Z,T⟩:=r.get y;obtain⟨J,G,f2,f3,f4,F⟩:=n j (by simp);refine wpAny_pyNext_tuple_item f (show s.heap.IsTuple a g.toArray from p) (x:=u) (by simpa using Z) λq N sb=>?_;have I1:Inv X O L H {s with heap:=q}:=I.turned (t':=s.toks) (λb o l e=>(sb.2 b l).trans e) J G f3 f4 F;obtain⟨o,e,c,d⟩:=id N;exact⟨u,rfl,pM (s:={s with heap:=q}) e c d (by decide) ⟨x,H,I1,T,⟨rfl,λys Y=>by rw[I.tuple_inj Y m];exact y⟩,N,λb l=>(n b l).1⟩⟩
 done:=by intro X C A D M i O s L H E I n f B;subst C A D;obtain⟨Q,m,y⟩:=B;obtain⟨g,r,p,W⟩:=I.tuple m;obtain⟨J,G,f2,f3,f4,F⟩:=n j (by simp);have hl:=r.length;exact wpAny_pyNext_tuple_end (I.ok.hd M) f (show s.heap.IsTuple a g.toArray from p) (by simp;lia) λq eb=>⟨rfl,I.turned (t':=s.toks) (λb o l e=>eb b o l e) J G f3 f4 F⟩
 self:=λ_ _ _ _ _ f h=>wpAny_pyIter_tupleiter f h
theorem J0{P:aL}{w:aE}{K:ax}{G:az}(c:af)(f:Int)(n:Nat):oh P w K G (sy f n) [c] c (λi h=>Ae h c (f+(i:Nat)*1) ((n:Int)-(i:Nat)) 1) where
 mem:=by simp
 obj:=λi h a b d=>by
  have e:b=c:=by simpa using d
  subst e;exact⟨_,a,λv z=>by
   have F:Data.fields _=Data.cell v:=z;cases F⟩
 keep:=λi h j a k=>k c (by simp) _ a
 item:=by intro X q l r p i D s A H E I g a m;subst q l r;obtain⟨y,x,f2,f3,f4,u⟩:=g c (by simp);have W:=Walks.range (prog:=X.prog) (w:=X.w) (I.ok.hd p) c f 1 n;refine W.item i s _ _ m a λv j B L C J=>?_;obtain⟨t,rfl⟩:=L;have N:Inv X D A H {s with heap:=j,toks:=B}:=I.turned (λb o d e=>J b o (by simpa using d) e) y x f3 f4 u;refine⟨_,rfl,pM (s:={s with heap:=j,toks:=B}) (n:="range_iterator") C rfl rfl (by decide) ⟨.int (f+i),H,N,⟨t,?_⟩,⟨rfl,rfl⟩,C,λb d=>(g b d).1⟩⟩;rw[Int.mul_one]
 done:=by intro X q l r p i D s A H E I g a m;subst q l r;obtain⟨y,x,f2,f3,f4,u⟩:=g c (by simp);exact wpAny_pyNext_range_end (I.ok.hd p) a (by have:n<=i:=m;lia) λj M=>⟨rfl,I.turned (t':=s.toks) (λb o d e=>M b o d e) y x f3 f4 u⟩
 self:=λ_ _ _ _ _ a h=>wpAny_pyIter_rangeiter a h
section
variable{X:Cx}{c:az}
theorem Bk{h:List (af×Obj)}{f:St}{H:Hp}{s:ao}{R:It->Hp->Prop}{E:ah->ao->Prop}{a d:Int}{t u v:Tok}{g:Nat}(I:Inv X h f H s)(p:-(2^62)<=a)(n:a<2^62)(m:-(2^62)<=d)(l:d<2^62)(q:R (sy a (d-a).toNat) H):aq (aw X.prog X.w) X.A (lc (.ref s.heap.objs.size)) (rG X h f c R) E {s with heap:=s.heap.push {cls:=.type "range",data:=.fields #[.int a t,.int d u,.int 1 v]},toks:=g}:=by
 refine wpAny_pyIter_range (IsRange.new ..) (small_one p n m l) ?_;have i:Inv X h f H {s with heap:=s.heap.push {cls:=.type "range",data:=.fields #[.int a t,.int d u,.int 1 v]},toks:=g}:=I.kept λb o e=>bh _ e;refine⟨(s.heap.push {cls:=.type "range",data:=.fields #[.int a t,.int d u,.int 1 v]}).objs.size,[(s.heap.push {cls:=.type "range",data:=.fields #[.int a t,.int d u,.int 1 v]}).objs.size],_,_,H,rfl,i.kept (t':=g) λb o e=>bh _ e,J0 _ a (d-a).toNat,?_,λb j=>?_,q⟩
 .have w:a+((0:Nat):Int)*1=a:=by simp
  have r:(((d-a).toNat:Nat):Int)-((0:Nat):Int)=Af a d 1:=by rw[rangeSize_one];split <;> lia
  show Ae _ _ (a+((0:Nat):Int)*1) ((((d-a).toNat:Nat):Int)-((0:Nat):Int)) 1;rw[w,r];exact cf _ rfl
 .have e:b=(s.heap.push {cls:=.type "range",data:=.fields #[.int a t,.int d u,.int 1 v]}).objs.size:=by simpa using j
  subst e;exact i.fpOk (aZ _) (i.hok.fresh (aZ _))
def G5(d:TA):TI:=λa H R=>d a H λb f=>∃j:Int,b=[.int j]/\-(2^62)<=j/\j<2^62/\R (sy 0 j.toNat) f
def Kg(d:TA):TI:=λa H R=>d a H λb f=>∃i j:Int,b=[.int i,.int j]/\(-(2^62)<=i/\i<2^62/\-(2^62)<=j/\j<2^62)/\R (sy i (j-i).toNat) f
theorem OS{a:az}{f:TA}{p b:Pos}(u:Gl X "range")(o:X.mg "range"=ae)(v:PA X [a] f)(n:aP [a] X.env=[(aj,aM a X.env)]:=by rfl):PI X c (.Call (.Name "range" p) [a] [] b) (G5 f):=by
 intro w s g H R I h;refine Call_ (oN I u o boot_range (Ag (aI (v b w s g H _ I h) λz A ⟨y,B,x,l,d⟩=>?_) n rfl));obtain⟨j,e,d,m,q⟩:=d;subst e;cases l with
 |cons r i=>
  cases i;obtain⟨t,rfl⟩:=r;exact call_range_1 (Bk x ∅ ∅ d m (by simpa using q))
theorem Jo{a b:az}{l:TA}{p d:Pos}(A:Gl X "range")(z:X.mg "range"=ae)(B:PA X [a,b] l)(y:aP [a,b] X.env=[(aj,aM a X.env),(aj,aM b X.env)]:=by rfl)(m:aP [b] X.env=[(aj,aM b X.env)]:=by rfl):PI X c (.Call (.Name "range" p) [a,b] [] d) (Kg l):=by
 intro C s n H R I h;refine Call_ (oN I A z boot_range (Ag (aI (B d C s n H _ I h) λF J ⟨E,K,D,o,g⟩=>?_) (by rw[y,m]) (by rw[m];rfl)));obtain⟨i,j,e,⟨g,x,w,v⟩,q⟩:=g;subst e;cases o with
 |cons r f=>
  cases f with
  |cons u f=>
   cases f;obtain⟨t,rfl⟩:=r;obtain⟨G,rfl⟩:=u;exact call_range_2 (Bk D g x w v q)
def Nj(j:TI)(g:TG)(l:TS):TS:=λD a H=>j a H λJ o=>∃W:Nat->Nat->St->Hp->Prop,(∃m,W 0 m a o)/\∀i m a H,W i m a H ->
 (J.stop i H/\D.nx a H)\/(J.go i H/\∃N:St->Hp->Prop,(∀b d,N b d->∃h,h<m/\W (i+1) h b d)/\∀x d,J.yld i H x d->g x a d λf n=>l {D with nx:=N,ct:=N,bk:=D.nx} f n)
def sM(a:List af)(h:aB):List (af×Obj):=a.filterMap λb=>(h.get? b).map λo=>(b,o)
theorem wj{a:List af}{h:aB}{b:af}{o:Obj}(d:b∈a)(e:h.get? b=aa o):(b,o)∈sM a h:=List.mem_filterMap.mpr ⟨b,d,by rw[e];rfl⟩
theorem Kc{a:List af}{h:aB}{p:af×Obj}(d:p∈sM a h):p.1∈a/\h.get? p.1=aa p.2:=by
 obtain⟨b,f,e⟩:=List.mem_filterMap.mp d;cases q:h.get? b with
 |none=>rw[q]at e;cases e
 |some o=>rw[q]at e;have g:(b,o)=p:=dz e;subst g;exact⟨f,q⟩
theorem Inv.pinned{f:List (af×Obj)}{g:St}{H:Hp}{s:ao}{a:List af}(I:Inv X f g H s)(m:∀b∈a,j5 X f H b)(l:∀b∈a,∃o,s.heap.get? b=aa o/\∀v,o.data≠.cell v):Inv X (f++sM a s.heap) g H s :=
 I.pins_of λp j=>(iq.mp j).elim (λz=>I.pin p (lf _ z)) λz=>by
  obtain⟨h,e⟩:=Kc z;obtain⟨q,n,f2,_⟩:=m p.1 h;obtain⟨o,i,d⟩:=l p.1 h;rw[e]at i;cases i;exact⟨e,q,n,f2,d⟩
theorem Inv.unpinned{b d:List (af×Obj)}{a:St}{H:Hp}{s:ao}(I:Inv X (b++d) a H s):Inv X b a H s:=I.pins_of λp f=>I.pin p (lf _ (Ab _ f))
theorem KS{q:az}{E:List bi}{wi:TI}{g:TG}{tb:TS}{Y:Pos}(L:PassesOwn (aw X.prog X.w) X.A X.env X.xe)(hc:X.calm=ai)(hi:PI X c q wi)(hg:PG X c g)(w:kR X E tb)(hs:∀x,mX q X.env x=pure x:=by intro _;rfl):PS X (.For c q E [] Y) (Nj wi g tb):=by
 intro F s σ H D I h;refine wpAny_For (aI (hi F s σ H _ I h) λv s1 h1=>aI h1 λitv s2 h2=>?_) hs;obtain⟨it,O,tn,J,H2,e,I2,T,aT,f2,W,⟨m0,w0⟩,G⟩:=h2;subst e;have p:∀{B:Hp},(∀b∈O,B b=ae)->∀b∈O,j5 X F B b:=λhn b w=>⟨hn b w,(f2 b w).2⟩
 refine codeAny_forLoop_any (λn s'=>∃i l B,Inv X F l B s'/\tn i s'.heap/\(∀b∈O,B b=ae)/\W i n l B) ?_ m0 ⟨0,σ,H2,I2,aT,λb w=>(f2 b w).1,w0⟩;rintro n s3 ⟨i,j,P,I3,bu,M,w3⟩;rcases G i n j P w3 with⟨stop,qn⟩|⟨go,N,hN,step⟩
 .refine wP L (aI (T.done X rfl rfl rfl hc i F s3 j P X.xe I3 (p M) bu stop) λr s4 ⟨Z,I4⟩=>?_);subst Z;exact wpAny_execs_nil ⟨j,P,I4,qn⟩
 .refine wP L (aI (T.item X rfl rfl rfl hc i F s3 j P X.xe I3 (p M) bu go) λr s4 ⟨u,Z,h4⟩=>?_);subst Z;refine wP L (aI h4 λ_ s5 ⟨x,H5,I5,r5,y5,bS,fr5⟩=>?_);have I5':=I5.pinned (p fr5) (T.obj _ _ bS);refine wP L (aI (hg _ s5 j H5 x u _ I5' r5 (step x H5 y5)) λ_ s6 ⟨Q,H6,I6,q6⟩=>?_);refine wP L (aI (w _ s6 Q H6 _ I6 q6) λf S C=>?_);have y:∀{a:St}{A:Hp},Inv X (F++sM O s5.heap) a A S->N a A->∃m,m<n/\∃i l B,Inv X F l B S/\tn i S.heap/\(∀b∈O,B b=ae)/\W i m l B:=λ{a A} z K=>by obtain⟨m',hm,w7⟩:=hN a A K;refine⟨m',hm,i+1,a,A,z.unpinned,T.keep _ _ _ bS λb w o e=>(z.pin (b,o) (lf _ (lf _ (wj w e)))).1,λb w=>?_,w7⟩;obtain⟨o,e,d⟩:=T.obj _ _ bS b w;exact(z.pin (b,o) (lf _ (lf _ (wj w e)))).2.1
  cases f with
  |next=>obtain⟨a,A,z,K⟩:=C;exact y z K
  |cont=>obtain⟨a,A,z,K⟩:=C;exact y z K
  |brk=>obtain⟨a,A,z,C⟩:=C;exact⟨a,A,z.unpinned,C⟩
  |ret v=>obtain⟨x7,a,A,z,r7,C⟩:=C;exact⟨x7,a,A,z.unpinned,r7,C⟩
end
abbrev R2:=V->V->Hp->VK->Prop
def bD(X:Cx)(f:ah->ah->Sem ah)(r:R2):Prop :=
 ∀(b:List (af×Obj)) (s:ao) (a:St) (H:Hp) (x y:V) (v u:ah) (Q:VK),Inv X b a H s->RelV x v->RelV y u->r x y H Q ->
  aq (aw X.prog X.w) X.A (f v u) (EP X b a Q) X.xe s
def wH(X:Cx)(f:ah->Sem ah)(r:V->Hp->VK->Prop):Prop :=
 ∀(b:List (af×Obj)) (s:ao) (a:St) (H:Hp) (x:V) (v:ah) (Q:VK),Inv X b a H s->RelV x v->r x H Q ->
  aq (aw X.prog X.w) X.A (f v) (EP X b a Q) X.xe s
def fk(X:Cx)(f:ah)(r:List V->Hp->VK->Prop):Prop :=
 ∀(d:List (af×Obj)) (s:ao) (a:St) (H:Hp) (b:List V) (c:List ah) (Q:VK),Inv X d a H s->bq b c->r b H Q ->
  aq (aw X.prog X.w) X.A (call f c) (EP X d a Q) X.xe s
def pR(r:R2)(c b:TE):TE:=λa H Q=>c a H λx f=>b a f λy d=>r x y d Q
def M8(r:V->Hp->VK->Prop)(b:TE):TE:=λa H Q=>b a H λx c=>r x c Q
def rI(C:Int->Int->Prop)(g:Int->Int->V):R2:=λx y H Q=>∃i j,x=.int i/\y=.int j/\C i j/\Q (g i j) H
def i8(g:Int->Int->V):R2:=λx y H Q=>∃i j,x=.int i/\y=.int j/\Q (g i j) H
def rU(g:Int->V):V->Hp->VK->Prop:=λx H Q=>∃i,x=.int i/\Q (g i) H
section
variable{X:Cx}{a b c:az}{d m n:TE}{l:Pos}
theorem zP(F:PE X a d)(E:PE X b m){q:List (af×Obj)}{s:ao}{g:St}{H:Hp}{R:V->V->Hp->Prop}(I:Inv X q g H s)(h:d g H λx r=>m g r λy i=>R x y i) {Q:ah->ao->Prop}{f:ah->ah->Sem ah}(D:∀v u p x y i,Inv X q g i p->RelV x v->RelV y u->R x y i->aq (aw X.prog X.w) X.A (f v u) Q X.xe p):aq (aw X.prog X.w) X.A (aM a X.env) (λv o=>aq (aw X.prog X.w) X.A (aM b X.env) (λu j=>aq (aw X.prog X.w) X.A (f v u) Q X.xe j) X.xe o) X.xe s:=by refine aI (F q s g H _ I h) λv w ⟨x,r,J,A,C⟩=>?_;refine aI (E q w g r _ J C) λu p ⟨y,i,G,z,B⟩=>?_;exact D v u p x y i G A z B
theorem Ba{f:Operator}{r:R2}(p:bD X (fG f) r)(z:PE X a d)(w:PE X b m):PE X (.BinOp a f b l) (pR r d m):=by intro A s g H Q I h;exact wpAny_BinOp (zP z w I h λv u i x y C B o j q=>p A i g C x y v u Q B o j q)
theorem Nn{g:UnaryOp}{r:V->Hp->VK->Prop}(q:wH X (unaryOp g) r)(u:PE X a d):PE X (.UnaryOp g a l) (M8 r d):=by intro i s f H Q I h;exact UnaryOp_ (aI (u i s f H _ I h) λv j ⟨x,y,w,o,p⟩=>q i j f y x v Q w o p)
theorem sF{f:ah->ah->Sem ah}{C:Int->Int->Prop}{g:Int->Int->Int}(o:∀(i j:Int) (t u:Tok) (s:ao) (Q:ah->ao->Prop) (E:ah->ao->Prop),C i j->Q (.int (g i j) s.toks) {s with toks:=s.toks+1}->aq (aw X.prog X.w) X.A (f (.int i t) (.int j u)) Q E s):bD X f (rI C λi j=>.int (g i j)):=by intro B s A H x y v u Q I w r h;obtain⟨i,j,rfl,rfl,z,q⟩:=h;obtain⟨t,rfl⟩:=w;obtain⟨p,rfl⟩:=r;exact o i j t p s _ _ z ⟨.int (g i j),H,I.tok _,⟨_,rfl⟩,q⟩
theorem vP{f:ah->ah->Sem ah}{g:Int->Int->Int}(o:∀(i j:Int) (t u:Tok) (s:ao) (Q:ah->ao->Prop) (E:ah->ao->Prop),Q (.int (g i j) s.toks) {s with toks:=s.toks+1}->aq (aw X.prog X.w) X.A (f (.int i t) (.int j u)) Q E s):bD X f (i8 λi j=>.int (g i j)):=by intro A s z H x y v u Q I w r h;obtain⟨i,j,rfl,rfl,q⟩:=h;obtain⟨t,rfl⟩:=w;obtain⟨p,rfl⟩:=r;exact o i j t p s _ _ ⟨.int (g i j),H,I.tok _,⟨_,rfl⟩,q⟩
theorem Fb{f:ah->ah->Sem ah}{g:Int->Int->Bool}(o:∀(i j:Int) (t u:Tok) (s:ao) (Q:ah->ao->Prop) (E:ah->ao->Prop),Q (.bool (g i j)) s->aq (aw X.prog X.w) X.A (f (.int i t) (.int j u)) Q E s):bD X f (i8 λi j=>.bl (g i j)):=by intro A s z H x y v u Q I w r h;obtain⟨i,j,rfl,rfl,q⟩:=h;obtain⟨t,rfl⟩:=w;obtain⟨p,rfl⟩:=r;exact o i j t p s _ _ ⟨.bl (g i j),H,I,rfl,q⟩
def rY(i j:Int):Prop:=0<=j/\j<=1000000/\i.natAbs<2^64
def zd(i j:Int):Prop:=(-(2^64)<i/\i<2^64)\/(-(2^64)<j/\j<2^64)
theorem zd.ok{i j:Int}(h:zd i j):IntMulOk i j:=by
 rcases h with⟨h1,h2⟩|⟨h1,h2⟩
 .exact .of_left (intBits_le_64 h1 h2)
 .exact .of_right (intBits_le_64 h1 h2)
theorem Hm(k:Nat):(0:Int)<=2^k:=by rw[two_pow_cast];exact Ff _
theorem P7:bD X (fG .Add) (i8 λi j=>.int (i+j)):=vP λ_ _ _ _ _ _ _ q=>add_int q
theorem pL:bD X (fG .Sub) (i8 λi j=>.int (i-j)):=vP λ_ _ _ _ _ _ _ q=>sub_int q
theorem PP:bD X (fG .Mult) (rI zd λi j=>.int (i*j)):=sF λ_ _ _ _ _ _ _ f q=>mul_int q f.ok
theorem pO:bD X (fG .Mod) (rI (λ_ j=>0<j) λi j=>.int (i % j)):=sF λi j _ _ _ _ _ f q=>by have g:(0:Int)<j:=f;exact mod_int' ∅ (by rw[Int.fmod_eq_emod_of_nonneg i ∅];exact q)
theorem Np:bD X (fG .Pow) (rI rY λi j=>.int (i^j.toNat)):=sF λ_ _ _ _ _ _ _ f q=>pow_int_small f.1 f.2.1 f.2.2 q
theorem u0:bD X (fG .LShift) (rI rY λi j=>.int (i*2^j.toNat)):=sF λ_ _ _ _ _ _ _ f q=>lshift_int_small f.1 f.2.1 f.2.2 q
theorem IU:bD X (fG .RShift) (rI (λ_ j=>0<=j) λi j=>.int (i / 2^j.toNat)):=sF λi j _ _ _ _ _ f q=>rshift_int f (by rw[Int.fdiv_eq_ediv_of_nonneg i (Hm _)];exact q)
theorem HD:bD X (fG .BitAnd) (i8 λi j=>.int (tt i j)):=vP λ_ _ _ _ _ _ _ q=>and_int q
theorem K5:bD X (fG .BitOr) (i8 λi j=>.int (wQ i j)):=vP λ_ _ _ _ _ _ _ q=>or_int q
theorem GU{f:ah->Sem ah}{g:Int->Int}(j:∀(i:Int) (t:Tok) (s:ao) (Q:ah->ao->Prop) (E:ah->ao->Prop),Q (.int (g i) s.toks) {s with toks:=s.toks+1}->aq (aw X.prog X.w) X.A (f (.int i t)) Q E s):wH X f (rU λi=>.int (g i)):=by intro r s p H x v Q I o h;obtain⟨i,rfl,q⟩:=h;obtain⟨t,rfl⟩:=o;exact j i t s _ _ ⟨.int (g i),H,I.tok _,⟨_,rfl⟩,q⟩
theorem Jk:wH X (unaryOp .USub) (rU λi=>.int (-i)):=GU λ_ _ _ _ _ q=>neg_int q
end
def oE:V->V->Bool
 |.non,.non=>ai|.non,.int _=>ai|.int _,.non=>ai|.non,.bl _=>ai|.bl _,.non=>ai|.non,.str _=>ai|.str _,.non=>ai
 |.int _,.int _=>ai|.bl _,.bl _=>ai|.str _,.str _=>ai|.byt _,.byt _=>ai
 |.int _,.str _=>ai|.str _,.int _=>ai|.bl _,.str _=>ai|.str _,.bl _=>ai
 |_,_=>aj
def Dt:R2:=λx y H Q=>oE x y=ai/\Q (.bl (decide (x=y))) H
def CI:R2:=λx y H Q=>oE x y=ai/\Q (.bl (!decide (x=y))) H
theorem Df{i j:Int}:decide (V.int i=V.int j)=(i == j):=by rw[lg];simp
theorem CN{i j:Bool}:decide (V.bl i=V.bl j)=(i == j):=by rw[lg];simp
theorem Cb{i j:Str}:decide (V.str i=V.str j)=(i == j):=by rw[lg];simp
theorem E3{i j:Array UInt8}:decide (V.byt i=V.byt j)=(i.toList == j.toList):=by
 rw[lg];cases i;cases j;simp
section
variable{X:Cx}{a b c:az}{l g o:TE}{m:Pos}
theorem cI{h:List (af×Obj)}{d:St}{H:Hp}{s:ao}{Q:VK}{k f:Bool}(I:Inv X h d H s)(q:Q (.bl k) H)(e:k=f):EP X h d Q (.bool f) s:=by subst e;exact⟨.bl k,H,I,rfl,q⟩
theorem P0:bD X (dr .Eq) Dt:=by
 intro w s r H x y v u Q I p d h;obtain⟨n,q⟩:=h;cases x with
 |non=>
  cases p;cases y with
  |non=>cases d;exact PySem.EqNone.eq_none_none (cI I q (by simp))
  |bl j=>cases d;exact PySem.EqNone.eq_none_bool (cI I q (by simp))
  |int j=>obtain⟨f,rfl⟩:=d;exact PySem.EqNone.eq_none_int (cI I q (by simp))
  |str j=>obtain⟨f,rfl⟩:=d;exact PySem.EqNone.eq_none_str (cI I q (by simp))
  |_=>exact absurd (show aj=ai from n) dX
 |bl i=>
  cases p;cases y with
  |non=>cases d;exact PySem.EqNone.eq_bool_none (cI I q (by simp))
  |bl j=>cases d;exact eq_bool (cI I q CN)
  |str j=>obtain⟨f,rfl⟩:=d;exact PySem.EqMixed.eq_bool_str (cI I q (by simp))
  |_=>exact absurd (show aj=ai from n) dX
 |int i=>
  obtain⟨t,rfl⟩:=p;cases y with
  |non=>cases d;exact PySem.EqNone.eq_int_none (cI I q (by simp))
  |int j=>obtain⟨f,rfl⟩:=d;exact eq_int (cI I q Df)
  |str j=>obtain⟨f,rfl⟩:=d;exact PySem.EqMixed.eq_int_str (cI I q (by simp))
  |_=>exact absurd (show aj=ai from n) dX
 |str i=>
  obtain⟨t,rfl⟩:=p;cases y with
  |non=>cases d;exact PySem.EqNone.eq_str_none (cI I q (by simp))
  |bl j=>cases d;exact PySem.EqMixed.eq_str_bool (cI I q (by simp))
  |int j=>obtain⟨f,rfl⟩:=d;exact PySem.EqMixed.eq_str_int (cI I q (by simp))
  |str j=>obtain⟨f,rfl⟩:=d;exact eq_str (cI I q Cb)
  |_=>exact absurd (show aj=ai from n) dX
 |byt i=>
  obtain⟨t,rfl⟩:=p;cases y with
  |byt j=>obtain⟨f,rfl⟩:=d;exact PySem.W.eq_bytes (cI I q E3)
  |_=>exact absurd (show aj=ai from n) dX
 |_=>cases y <;> exact absurd (show aj=ai from n) dX
theorem Qe:bD X (dr .NotEq) CI:=by
 intro w s r H x y v u Q I p d h;obtain⟨n,q⟩:=h;cases x with
 |non=>
  cases p;cases y with
  |non=>cases d;exact PySem.EqNone.ne_none_none (cI I q (by simp))
  |bl j=>cases d;exact PySem.EqNone.ne_none_bool (cI I q (by simp))
  |int j=>obtain⟨f,rfl⟩:=d;exact PySem.EqNone.ne_none_int (cI I q (by simp))
  |str j=>obtain⟨f,rfl⟩:=d;exact PySem.EqNone.ne_none_str (cI I q (by simp))
  |_=>exact absurd (show aj=ai from n) dX
 |bl i=>
  cases p;cases y with
  |non=>cases d;exact PySem.EqNone.ne_bool_none (cI I q (by simp))
  |bl j=>cases d;exact ne_bool (cI I q (congrArg not CN))
  |str j=>obtain⟨f,rfl⟩:=d;exact PySem.EqMixed.ne_bool_str (cI I q (by simp))
  |_=>exact absurd (show aj=ai from n) dX
 |int i=>
  obtain⟨t,rfl⟩:=p;cases y with
  |non=>cases d;exact PySem.EqNone.ne_int_none (cI I q (by simp))
  |int j=>obtain⟨f,rfl⟩:=d;exact ne_int (cI I q (congrArg not Df))
  |str j=>obtain⟨f,rfl⟩:=d;exact PySem.EqMixed.ne_int_str (cI I q (by simp))
  |_=>exact absurd (show aj=ai from n) dX
 |str i=>
  obtain⟨t,rfl⟩:=p;cases y with
  |non=>cases d;exact PySem.EqNone.ne_str_none (cI I q (by simp))
  |bl j=>cases d;exact PySem.EqMixed.ne_str_bool (cI I q (by simp))
  |int j=>obtain⟨f,rfl⟩:=d;exact PySem.EqMixed.ne_str_int (cI I q (by simp))
  |str j=>obtain⟨f,rfl⟩:=d;exact ne_str (cI I q (congrArg not Cb))
  |_=>exact absurd (show aj=ai from n) dX
 |byt i=>
  obtain⟨t,rfl⟩:=p;cases y with
  |byt j=>obtain⟨f,rfl⟩:=d;exact PySem.W.ne_bytes (cI I q (congrArg not E3))
  |_=>exact absurd (show aj=ai from n) dX
 |_=>cases y <;> exact absurd (show aj=ai from n) dX
theorem Ny:bD X (dr .Lt) (i8 λi j=>.bl (decide (i<j))):=Fb λ_ _ _ _ _ _ _ q=>lt_int q
theorem pG:bD X (dr .LtE) (i8 λi j=>.bl (decide (i<=j))):=Fb λ_ _ _ _ _ _ _ q=>le_int q
theorem PU:bD X (dr .In) (λx y H Q=>∃i j,x=.str i/\y=.str j/\Q (.bl (!(Fg j i 0 j.length 1).isEmpty)) H):=by intro r s n H x y v u Q I f d h;obtain⟨i,j,rfl,rfl,q⟩:=h;obtain⟨t,rfl⟩:=f;obtain⟨p,rfl⟩:=d;exact in_str (cI I q rfl)
theorem Gv:bD X (dr .Is) (λx y H Q=>y=.non/\Q (.bl (decide (x=.non))) H):=by
 intro j s i H x y v u Q I d f h;obtain⟨rfl,q⟩:=h;cases f;refine is_none_gen (cI I q ?_);cases x <;> first
  | (cases d;rfl)
  | (obtain⟨t,rfl⟩:=d;rfl)
theorem Jw:bD X (dr .IsNot) (λx y H Q=>y=.non/\Q (.bl (!decide (x=.non))) H):=by
 intro j s i H x y v u Q I d f h;obtain⟨rfl,q⟩:=h;cases f;refine isnot_none_gen (cI I q ?_);cases x <;> first
  | (cases d;rfl)
  | (obtain⟨t,rfl⟩:=d;rfl)
theorem bD.or{f:ah->ah->Sem ah}{r n:R2}(h:bD X f r)(w:bD X f n):bD X f (λx y H Q=>r x y H Q\/n x y H Q):=by
 intro p s d H x y v u Q I j i q;rcases q with q|q
 .exact h p s d H x y v u Q I j i q
 .exact w p s d H x y v u Q I j i q
theorem M5{d:CmpOp}{r:R2}(p:bD X (dr d) r)(A:PE X a l)(z:PE X b g)(w:oQ d b=aj):PE X (.Compare a [d] [b] m) (pR r l g):=by intro B s f H Q I h;exact wpAny_Compare1 (zP A z I h λv u i x y D C n j q=>p B i f D x y v u Q C n j q) w
def CW(t:TE):TT:=λd H Q=>t d H λx f=>∃k,x=.bl k/\Q k f
theorem Jv{f:CmpOp}{r:R2}(D:bD X (dr f) r)(G:PE X a l)(F:PE X b g)(E:oQ f b=aj):PT X (.Compare a [f] [b] m) (CW (pR r l g)):=by
 intro i s d H Q I h;refine wpAny_isTrue_Compare1 (aI (G i s d H _ I h) λv n ⟨x,O,L,w,C⟩=>aI (F i n d O _ L C) λu j ⟨y,N,K,q,B⟩=>aI (D i j d N x y v u _ K w q B) λc P ⟨z,M,J,p,k,e,A⟩=>?_) E;subst e;cases p;exact k8 ⟨M,J,A⟩
def yo(r i:R2)(l g o:TE):TE:=λd H Q=>l d H λx p=>g d p λy n=>r x y n λz f=>∃k,z=.bl k /\
 (if k=ai then o d f λh j=>i y h j Q else Q (.bl aj) f)
theorem L5{n f:CmpOp}{r q:R2}(S:bD X (dr n) r)(gm:bD X (dr f) q)(Z:PE X a l)(Y:PE X b g)(W:PE X c o)(T:lastMarks [n,f] [b,c]=aj:=by with_unfolding_all rfl):PE X (.Compare a [n,f] [b,c] m) (yo r q l g o):=by
 intro j s i H Q I h;refine Compare_chain (aI (Z j s i H _ I h) λv J ⟨x,H1,I1,M,P⟩=>chain_link (aI (Y j J i H1 _ I1 P) λu G ⟨y,H2,I2,p,O⟩=>aI (S j G i H2 x y v u _ I2 M p O) λd F ⟨z,B,A,L,k,e,w⟩=>?_)) T;subst e;cases L;refine k8 ?_;cases k with
 |false=>exact ite_ff ⟨.bl aj,B,A,rfl,w⟩
 |true=>exact ite_tt (chain_last (aI (W j F i B _ A w) λD E ⟨C,H4,I4,K,N⟩=>gm j E i H4 y C u D Q I4 p K N))
theorem Mw{n f:CmpOp}{r q:R2}(Y:bD X (dr n) r)(gm:bD X (dr f) q)(ha:PE X a l)(hb:PE X b g)(hc:PE X c o)(Z:lastMarks [n,f] [b,c]=aj:=by with_unfolding_all rfl):PT X (.Compare a [n,f] [b,c] m) (CW (yo r q l g o)):=by
 intro j s i H Q I h;refine isTrue_chain (aI (ha j s i H _ I h) λv J ⟨x,H1,I1,N,T⟩=>test_link (aI (hb j J i H1 _ I1 T) λu G ⟨y,H2,I2,p,S⟩=>aI (Y j G i H2 x y v u _ I2 N p S) λd F ⟨z,B,A,M,k,e,w⟩=>?_)) Z;subst e;cases M;refine k8 ?_;cases k with
 |false=>
  obtain⟨k',e',W⟩:=w;cases e';exact ite_ff ⟨B,A,W⟩
 |true=>
  refine ite_tt (test_last (aI (hc j F i B _ A w) λD E ⟨C,H4,I4,L,P⟩=>aI (gm j E i H4 y C u D _ I4 p L P) λd' s5 ⟨z2,H5,I5,K,k2,e2,O⟩=>?_));subst e2;cases K;exact k8 ⟨H5,I5,O⟩
theorem ol:(aX:Nat)<2^63:=by rw[mY];decide
theorem IS:bD X (fG .Add) (λx y H Q=>∃i j,x=.str i/\y=.str j/\i.length+j.length<=aX/\Q (.str (i++j)) H):=by intro z s r H x y v u Q I n f h;obtain⟨i,j,rfl,rfl,p,q⟩:=h;obtain⟨t,rfl⟩:=n;obtain⟨d,rfl⟩:=f;exact add_str (λd w=>⟨.str (i++j),H,I.tok _,⟨_,rfl⟩,q⟩) p
theorem vals1{x:V}{d:List ah}(r:bq [x] d):∃u,d=[u]/\RelV x u:=by
 cases r with
 |cons h f=>cases f;exact⟨_,rfl,h⟩
def B_(K:ax)(x:V)(H:Hp)(n:Nat):Prop :=
 match x with
 |.str y=>y.length<=aX/\n=y.length
 |.byt y=>y.size<=aX/\n=y.size
 |.ref p=>(∃d,bP K H p d/\n=d.length)\/∃d,bR K H p d/\n=d.length
 |_=>False
theorem d9:fk X (.builtin "len") (λd H Q=>∃x n,d=[x]/\B_ X.K x H n/\Q (.int n) H):=by
 intro G s C H d D Q I r h;obtain⟨x,n,rfl,e,q⟩:=h;obtain⟨u,rfl,i⟩:=vals1 r;have F:=ol;have E:aX=16777216:=mY;cases x with
 |str y=>obtain⟨t,rfl⟩:=i;obtain⟨B,f⟩:y.length<=aX/\n=y.length:=e;subst f;exact len_str ∅ ⟨.int _,H,I.tok _,⟨_,rfl⟩,q⟩
 |byt y=>obtain⟨t,rfl⟩:=i;obtain⟨B,f⟩:y.size<=aX/\n=y.size:=e;subst f;exact PySem.W.len_bytes ∅ ⟨.int _,H,I.tok _,⟨_,rfl⟩,q⟩
 |ref p=>
  cases i;have f:(∃d,bP X.K H p d/\n=d.length)\/∃d,bR X.K H p d/\n=d.length:=e;rcases f with⟨d,hx,f⟩|⟨d,hx,f⟩
  .subst f;obtain⟨w,j,v,A⟩:=I.list hx;have z:=j.length;exact Calls.call_len_list v.isList (by simp only[bJ];lia) ⟨.int d.length,H,I.tok _,⟨_,by simp only[bJ];rw[z]⟩,q⟩
  .subst f;obtain⟨w,j,v,A⟩:=I.tuple hx;have z:=j.length;exact len_tuple v (by simp only[bJ];lia) ⟨.int d.length,H,I.tok _,⟨_,by simp only[bJ];rw[z]⟩,q⟩
 |_=>exact(show False from e).elim
end
structure EZ(h:aB)(x dx C:af)(mA:Str->Option ah):Prop where
 obj:h.get? x=aa (PySem.W.instObj C dx)
 ns:h.Ns1 dx mA
 ne:dx≠x
theorem MQ{h:aB}{g:af}{d:Str->Option ah}(n:h.Ns1 g d):∃c,h.get? g=aa c/\∀b,PySem.W.lookIn b c=aa (d b):=by
 obtain⟨o,f,u,j,p,m,_,l⟩:=n;refine⟨o,j,λb=>?_⟩;have e:=l b;unfold nsFind findBy at e;rw[<-Array.find?_toList]at e;unfold PySem.W.lookIn;rw[p];dsimp only;split
 .rename_i y q;rw[q]at e;exact congrArg aa e
 .rename_i q;rw[q]at e;have a:f.toList.any (·.refKey)=aj:=by rw[List.any_eq_false];intro y i;obtain⟨z,t,r⟩:=m y (Array.mem_toList_iff.mp i);simp[DictEntry.refKey,r]
  have s:¬f.toList.any (·.refKey)=ai:=by rw[a];exact dX
  rw[if_neg s];exact congrArg aa e
theorem EZ.look{h:aB}{x d C:af}{c:Str->Option ah}(I:EZ h x d C c):∃b,PySem.W.InstAt h x (PySem.W.instObj C d) C (aa b)/\∀a,PySem.W.lookIn a b=aa (c a) :=
 let ⟨b,ho,hl⟩:=MQ I.ns
 ⟨b,⟨I.obj,rfl,rfl,ho⟩,hl⟩
theorem l5.some_of{v:V}{o:Option ah}(r:l5 (aa v) o):∃u,o=aa u/\RelV v u:=by
 cases o with
 |none=>exact(show False from r).elim
 |some u=>exact⟨u,rfl,r⟩
section
variable{P:aL}{w:aE}{H i:Hp}{h g:aB}{a C b:af}{fs c:List (Str×V)}
theorem KM(l:cM P w H h)(e:H a=aa (.ins C b fs)):∃j,EZ h a b C j/\(∀f,l5 (fs.lookup f) (j f))/\PySem.Within j (fs.map (·.1))/\fs.length<=1000/\H b=aa (.own a):=by
 obtain⟨d,z,o,m,j,n,r,q⟩:=(show ca P w H h a (.ins C b fs)from l a _ e)
 exact⟨j,⟨m,n,o⟩,r,q,z,d⟩
end
structure Dq(K:ax)(C:af):Prop where
 pg:PySem.W.plainGet K C gi=ai
 hd:PySem.W.hasDictIn K C=ai
 po:PySem.W.plainOver K C=ai
 sa:wR K (.ref C) "__setattr__"=aa (aa (.builtin "object.__setattr__"))
theorem Dq.get{K:ax}{C:af}(c:Dq K C)(f:Str):PySem.W.plainGet K C f=ai:=c.pg
section
variable{X:Cx}{f:List (af×Obj)}{d:St}{H:Hp}{s:ao}{A:aS}{E:ah->ao->Prop}{Q:ah->ao->Prop}{c:ah}{b:Bool}
inductive io(K:ax)(H:Hp):V->ah->Prop where
 |non:io K H .non (.type "NoneType")
 |bl (x:Bool):io K H (.bl x) (.type "bool")
 |int (i:Int):io K H (.int i) (.type "int")
 |str (x:Str):io K H (.str x) (.type "str")
 |flt (x:UInt64):io K H (.flt x) (.type "float")
 |lst {a:af}{xs:List V} (e:H a=aa (.lst xs)):io K H (.ref a) (.type "list")
 |frz {a:af}{o:Obj}{xs:List V} (e:H a=aa (.frz o (.lst xs))):io K H (.ref a) (.type "list")
 |tup {a:af}{xs:List V} (e:H a=aa (.tup xs)):io K H (.ref a) (.type "tuple")
 |dK {a:af}{kvs:List (aR×V)} (e:H a=aa (.dK kvs)):io K H (.ref a) (.type "dict")
 |dT {a:af}{kvs:List (List aR×V)} (e:H a=aa (.dT kvs)):io K H (.ref a) (.type "dict")
 |ins {a C dx:af}{fs:List (Str×V)} (e:H a=aa (.ins C dx fs)) (cl:Dq K C) (ha:wR K (.ref C) "__class__"=aa (aa (.builtin "object.__class__")))
   (hn:PySem.W.specialIn K (.builtin "object.__class__") "__get__"=aa (aa (.builtin "getset_descriptor.__get__"))) (ud:PySem.W.takesIn K (.builtin "object.__class__")=aa ai)
   (hm:PySem.W.mroIn K C (.type "object")=aa ai):io K H (.ref a) (.ref C)
theorem JA{x:V}{u t:ah}(I:Inv X f d H s)(g:RelV x u)(ty:io X.K H x t)(e:iO X.K t c=aa b)(h:∀r,Q (.bool b) {s with toks:=r}):aq (aw X.prog X.w) A (call (.builtin "isinstance") [u,c]) Q E s:=by
 cases ty with
 |non=>cases (show u=Value.none from g);exact lh PySem.W.kitx_none I.kIn True.intro e (λz=>nomatch z) h
 |bl y=>cases (show u=Value.bool y from g);exact lh PySem.W.kitx_bool I.kIn True.intro e (λz=>nomatch z) h
 |int i=>obtain⟨t,q⟩:=(show ∃t,u=Value.int i t from g);cases q;exact lh PySem.W.kitx_int I.kIn True.intro e (λz=>nomatch z) h
 |str y=>obtain⟨t,q⟩:=(show ∃t,u=Value.str y t from g);cases q;exact lh PySem.W.kitx_str I.kIn True.intro e (λz=>nomatch z) h
 |flt y=>obtain⟨t,q⟩:=(show ∃t,u=Value.float y t from g);cases q;exact lh PySem.W.kitx_float I.kIn True.intro e (λz=>nomatch z) h
 |@lst a l ea=>
  cases (show u=Value.ref a from g);obtain⟨_,_,n,_,j⟩:=(show ca X.prog X.w H s.heap a (.lst l)from I.hok a _ ea)
  exact lh PySem.W.kitx_list I.kIn ⟨_,j,rfl⟩ e (λz=>nomatch z) h
 |@frz a ob l ea=>
  cases (show u=Value.ref a from g);obtain⟨_,_,_,n,_,j⟩:=(show ca X.prog X.w H s.heap a (.frz ob (.lst l))from I.hok a _ ea)
  exact lh PySem.W.kitx_list I.kIn ⟨_,j,rfl⟩ e (λz=>nomatch z) h
 |@tup a l ea=>
  cases (show u=Value.ref a from g);obtain⟨_,_,_,p,_⟩:=(show ca X.prog X.w H s.heap a (.tup l)from I.hok a _ ea)
  obtain⟨o,j,m,_⟩:=p;exact lh PySem.W.kitx_tuple I.kIn ⟨o,j,m⟩ e (λz=>nomatch z) h
 |@dK a kvs ea=>
  cases (show u=Value.ref a from g);obtain⟨_,_,B,_,p⟩:=(show ca X.prog X.w H s.heap a (.dK kvs)from I.hok a _ ea)
  obtain⟨o,v,w,j,m,_⟩:=p;exact lh PySem.W.kitx_dict I.kIn ⟨o,j,m.1⟩ e (λz=>nomatch z) h
 |@dT a kvs ea=>
  cases (show u=Value.ref a from g);obtain⟨_,_,l,_,o,v,w,j,m,_⟩:=(show ca X.prog X.w H s.heap a (.dT kvs)from I.hok a _ ea)
  exact lh PySem.W.kitx_dict I.kIn ⟨o,j,m.1⟩ e (λz=>nomatch z) h
 |@ins a C dx fs ea cl ha hn ud hm=>
  cases (show u=Value.ref a from g);obtain⟨F,O,_⟩:=KM I.hok ea;obtain⟨D,J,_⟩:=O.look;exact lh (PySem.W.kitx_own (cl.get _) cl.hd ha hn ud hm) I.kIn J e (λz=>nomatch z) h
end
structure Room(k:Nat)(A:aS):Prop where
 hd:A.handled=ae
 dp:A.depth+3*k+5<wS
 un:A.units+16*k+200<cLine
theorem Room.mono{j k:Nat}{A:aS}(r:Room k A)(h:j<=k):Room j A:=⟨r.hd,by have:=r.dp;lia,by have:=r.un;lia⟩
theorem Room.deeper{k:Nat}{A:aS}(r:Room (k+1) A)(a:Env):Room k (A.deeper a) :=⟨r.hd,by have:=r.dp;show A.depth+1+3*k+5<_;lia,by have:=r.un;show A.units+3+16*k+200<_;lia⟩
theorem Room.depth{k:Nat}{A:aS}(r:Room k A):A.depth<wS:=by have:=r.dp;lia
theorem Room.units{k:Nat}{A:aS}(r:Room k A):A.units+64<cLine:=by have:=r.un;lia
def Cu:TA:=λ_ H Q=>Q [] H
def Cp(d:TE)(c:TA):TA:=λa H Q=>d a H λx g=>c a g λb f=>Q (x::b) f
section
variable{X:Cx}{e:az}{es:List az}{c:TE}{t:TA}{a:Pos}
theorem jW:PA X [] Cu:=λ_ _ _ _ H Q I h=>wT ⟨[],H,I,.nil,h⟩
theorem iF(p:PE X e c)(o:PA X es t)(n:aP (e::es) X.env=(aj,aM e X.env)::aP es X.env:=by rfl):PA X (e::es) (Cp c t):=by intro a d s b H Q I h;rw[n];show aq _ _ (spliced ((aj,aM e X.env)::dA a (aP es X.env))) _ _ s;refine tu (aI (p d s b H _ I h) λu g ⟨x,w,r,j,m⟩=>?_);exact aI (o a d g b w _ r m) λy z ⟨f,v,q,i,l⟩=>⟨x::f,v,q,.cons j i,l⟩
def K3(t:TA):TE:=λf H Q=>t f H λb d=>b.length<=aX/\∀p,d p=ae->Q (.ref p) (upd d p (.tup b))
def G2(t:TA):TE:=λf H Q=>t f H λb d=>b.length<=aX/\∀p,d p=ae->Q (.ref p) (upd d p (.lst b))
theorem Ic{x1}(h:PA X es t):PE X (.Tuple es x1 a) (K3 t):=by intro o s i H Q I m;refine wpAny_Tuple_spliced (aI (h a o s i H _ I m) λl d ⟨j,g,f,r,z,q⟩=>⟨by rw[<-r.length];exact z,?_⟩);have n:g d.heap.objs.size=ae:=f.hok.fresh (aZ _);refine⟨.ref d.heap.objs.size,upd g d.heap.objs.size (.tup j),f.laid (t':=d.toks) (λb u e=>bh _ e) (aZ _) ?_,rfl,q _ n⟩;exact⟨z,l,r,⟨⟨_,cf _ rfl,rfl,_,rfl⟩,_,cf _ rfl,rfl⟩⟩
theorem Oc(h:PA X es t):PE X (.List es a) (G2 t):=by intro o s i H Q I m;refine wpAny_List_spliced (aI (h a o s i H _ I m) λl d ⟨j,g,f,r,z,q⟩=>⟨by rw[<-r.length];exact z,?_⟩);have n:g d.heap.objs.size=ae:=f.hok.fresh (aZ _);refine⟨.ref d.heap.objs.size,upd g d.heap.objs.size (.lst j),f.laid (t':=d.toks) (λb u e=>bh _ e) (aZ _) ?_,rfl,q _ n⟩;exact⟨z,l,0,r,cf _ rfl⟩
end
abbrev Sp:=List V->Hp->VK->XK->Prop
abbrev fK:=List Env->Hp->ao->XK->ah->ao->Prop
structure vy(P:aL)(w:aE)(K:ax)(mg:Str->Option ah)(base:aB)(A:aS)(outer:List Env)(s:ao)(H:Hp):Prop where
 frames:A.frames=aa outer
 mod:Mod K mg base
 bs:∀b o,base.get? b=aa o->s.heap.get? b=aa o/\H b=ae
 bsz:base.objs.size<=s.heap.objs.size
 funs:s.heap.FunFrames base outer
 frf:∀b∈fz outer,H b=ae
 hok:cM P w H s.heap
 bare:l7 s.gens
 tab:uZ K H
def CE(a:List Env)(P:aL)(w:aE)(H:Hp)(s:ao)(Q:VK)(u:ah)(b:ao):Prop :=
 ∃v c,b.os=s.os/\l7 b.gens/\Un (fz a) [] H c s.heap b.heap/\cM P w c b.heap/\RelV v u/\Q v c
def CR(c:fK)(a:List Env)(P:aL)(w:aE)(H:Hp)(s:ao)(Q:VK)(E:XK)(r:Result)(b:ao):Prop :=
 match r with
 |.ok (.ret u)=>CE a P w H s Q u b
 |.ok _=>False
 |.error e=>c a H s E e b
structure jU(P:aL)(w:aE)(K:ax)(mg:Str->Option ah)(base:aB)(CX:fK)(k:Nat)(f:af)(fd:gw)(ps:List Str)(sp:Sp):Prop where
 len:∀vs H Q E,sp vs H Q E->vs.length=ps.length
 run:∀(A:aS) (outer:List Env) (s:ao) (H:Hp) (args:Args) (us:List ah) (vs:List V) (Q:VK) (E:XK),Room k A->vy P w K mg base A outer s H->BindsTo s fd args (ps.zip us)->bq vs us->sp vs H Q E ->
  mZ (aw P w) A (.call (.ref f) args) (CR CX outer P w H s Q E) s
section
variable{X:Cx}{f:List (af×Obj)}{a:St}{H:Hp}{s c:ao}
theorem Inv.env0(I:Inv X f a H s):vy X.prog X.w X.K X.mg X.base X.A X.stack s H :=⟨I.ok.frames,I.ok.mod,I.bs,cA I.ok.bsz I.sz,I.stack,I.stkFree,I.hok,I.bare,I.tab⟩
theorem Inv.after{Q:VK}{u:ah}(I:Inv X f a H s)(h:CE X.stack X.prog X.w H s Q u c):EP X f a Q u c:=by obtain⟨v,o,m,i,un,l,r,q⟩:=h;obtain⟨n,g,d,t,j⟩:=c;obtain rfl:j=s.os:=m;exact⟨v,o,I.call (h':=n) (g':=g) (d':=d) (t':=t) (ch:=[]) un l i (λb z=>absurd z (by simp)),r,q⟩
end
def IA(d:Sp)(a:List V)(E:XK)(t:TA):TE:=λb H Q=>t b H λc f=>d (c++a) f Q E
def Binds(K:ax)(d:gw)(b:List Str)(c:List ah):Prop :=
 ∀(s:ao) (a:List ah),K.In s.heap->(a++c).length=b.length->BindsTo s d ⟨a,[]⟩ (b.zip (a++c))
theorem Binds.all{K:ax}{d:gw}{b:List Str}(h:∀a:List ah,a.length=b.length->eQ d ⟨a,[]⟩=pure (b.zip a)):Binds K d b []:=λs a _ c=>by rw[iP]at c ⊢;exact .of_eq (h a c)
def qf(c:fK)(X:Cx)(E:XK):Prop:=∀(b:List (af×Obj)) (a:St) (H:Hp) (s:ao) (e:ah) (s':ao),Inv X b a H s->c X.stack H s E e s'->X.xe e s'
section
variable{X:Cx}{l:fK}{k:Nat}{f C:af}{j:gw}{d:List Str}{i:Sp}{a:List V}{c:List ah}{E:XK}{x m:Str}{p b n:Pos}{e o:az}{g:List az}{v:TE}{t:TA}
theorem Pd{A:List (af×Obj)}{z:St}{H:Hp}{s:ao}{Q:VK}{q:List ah}{y:List V}(F:jU X.prog X.w X.K X.mg X.base l k f j d i)(J:Room k X.A)(M:Binds X.K j d c)(L:bq a c)(G:qf l X E)(I:Inv X A z H s) (r:bq y q) (h:i (y++a) H Q E):aq (aw X.prog X.w) X.A (call (.ref f) q) (EP X A z Q) X.xe s:=by
 have B:bq (y++a) (q++c):=r.append L;have K:(q++c).length=d.length:=by rw[<-B.length];exact F.len _ _ _ _ h
 refine wpAny_call (wU (F.run X.A X.stack s H ⟨q,[]⟩ (q++c) (y++a) Q E J I.env0 (M s q I.kIn K) B h) λr D w=>?_);cases r with
 |error e=>exact G A z H s e D I w
 |ok N=>
  cases N with
  |ret u=>exact I.after w
  |next=>exact li w
  |brk=>exact li w
  |cont=>exact li w
theorem Cf(F:jU X.prog X.w X.K X.mg X.base l k f j d i)(z:Room k X.A)(D:Gl X x)(A:X.mg x=aa (.ref f))(B:tw X.K (.ref f)=ai)(K:Binds X.K j d c)(J:bq a c)(y:qf l X E)(L:PA X (e::g) t) (M:(x==("__debug__":Str))=aj:=by decide) (G:aP (e::g) X.env=(aj,aM e X.env)::aP g X.env:=by rfl) (N:(dA b (aP g X.env)).any (·.1)=aj:=by rfl):PE X (.Call (.Name x p) (e::g) [] b) (IA i a E t):=by intro O s w H Q I h;refine wV (zX I D A ?_ M);refine PySem.W.callWith_K (h₀:=X.base) I.ok.mod.kin B (aI (L b O s w H _ I h) λS T ⟨P,W,u,r,q⟩=>⟨u.kIn,?_⟩) G N;exact Pd F z K J y u r q
end
def PK(X:Cx)(c:List jH)(t:TA):Prop :=
 ∀(b:Pos) (d:List (af×Obj)) (s:ao) (a:St) (H:Hp) (Q:List V->Hp->Prop),Inv X d a H s->t a H Q->aq (aw X.prog X.w) X.A (evalAll ((qz b (qA c X.env)).map (·.2))) (AP X d a Q) X.xe s
structure cJ(N P:List Str)(sc:cU):Prop where
 kind:sc.kind=.function
 co:sc.isCoroutine=aj
 gen:sc.isGenerator=aj
 nd:N.Nodup
 pre:N.take P.length=P
 par:∀x∈P,sc.names.lookup x=aa .local\/sc.names.lookup x=aa .cell
 nofree:∀y∈sc.names,y.2≠.free
theorem Dv{a:Str->Option fR}{x:Str}:∀{binds:List (Str×ah)}{m:Str->Option ah},(∀v,(x,v)∉binds)->bindL a binds m x=m x
 |[],_,_=>rfl
 | (n,v)::r,m,h=>by
  unfold bindL;rw[Dv λw b=>h w (jE _ b)];split
  .have:x≠n:=by rintro rfl;exact h v jD
   simp[this]
  .rfl
theorem E5{a:Str->Option fR}{x:Str}:∀{binds:List (Str×ah)}{m:Str->Option ah},(∀v,(x,v)∉binds)->bindC a binds m x=m x
 |[],_,_=>rfl
 | (n,v)::r,m,h=>by
  unfold bindC;rw[E5 λw b=>h w (jE _ b)];split
  .rfl
  .have:x≠n:=by rintro rfl;exact h v jD
   simp[this]
theorem B9{a:Str->Option fR}{x:Str}{v:ah}:∀{P:List Str}{b:List ah}{i:Nat}{m:Str->Option ah},P.Nodup->P[i]?=aa x->b[i]?=aa v->a x=aa .local -> bindL a (P.zip b) m x=aa v
 |[],_,_,_,_,h,_,_=>by simp at h
 |_::_,[],_,_,_,_,h,_=>by simp at h
 |p::P,w::b,0,m,nd,h1,h2,hk=>by simp at h1 h2;subst h1;subst h2;show bindL a ((p,w)::P.zip b) m p=_;unfold bindL;rw[Dv λv c=>(lj.mp nd).1 (List.of_mem_zip c).1,if_pos hk];simp
 |p::P,w::b,i+1,m,nd,h1,h2,hk=>by show bindL a ((p,w)::P.zip b) m x=_;unfold bindL;exact B9 (i:=i) (lj.mp nd).2 (by simpa using h1) (by simpa using h2) hk
theorem EX{a:Str->Option fR}{x:Str}{v:ah}:∀{P:List Str}{b:List ah}{i:Nat}{m:Str->Option ah},P.Nodup->P[i]?=aa x->b[i]?=aa v->a x≠aa .local -> bindC a (P.zip b) m x=aa v
 |[],_,_,_,_,h,_,_=>by simp at h
 |_::_,[],_,_,_,_,h,_=>by simp at h
 |p::P,w::b,0,m,nd,h1,h2,hk=>by simp at h1 h2;subst h1;subst h2;show bindC a ((p,w)::P.zip b) m p=_;unfold bindC;rw[E5 λv c=>(lj.mp nd).1 (List.of_mem_zip c).1,if_neg hk];simp
 |p::P,w::b,i+1,m,nd,h1,h2,hk=>by show bindC a ((p,w)::P.zip b) m x=_;unfold bindC;exact EX (i:=i) (lj.mp nd).2 (by simpa using h1) (by simpa using h2) hk
def start(N:List Str)(a:List V):St:=a.map aa++df (N.length-a.length) ae
def h8(g:fK)(P:aL)(w:aE)(K:ax)(mg:Str->Option ah)(base:aB)(N:List Str)(b:Str)(a:cU)(f:af)(d:ah)(A:aS)(outer:List Env)(s:ao)(H:Hp)(E:XK):Cx where
 prog:=P
 w:=w
 K:=K
 mg:=mg
 base:=base
 A:=A.deeper (jj b a s.heap.objs.size f d)
 N:=N
 s₀:=s
 H₀:=H
 env:=jj b a s.heap.objs.size f d
 outer:=outer
 stack:=jj b a s.heap.objs.size f d::outer
 ex:=[]
 calm:=ai
 fn:=λ_=>ai
 pn:=[]
 xe:=λe s'=>aq (aw P w) (A.deeper (jj b a s.heap.objs.size f d)) (leaving (jj b a s.heap.objs.size f d) e) (λ_ c=>g outer H s E e c) (λh c=>g outer H s E h c) s'
theorem B0{a:cU}{n:Nat}{x:Str}(h:a.names.lookup x=aa .cell):∃c,(fe n a.names []).lookup x=aa c:=by have q:=PySem.W.cellsFrom_some a.names n [] (.inl h);exact Option.isSome_iff_exists.mp q
theorem Kw{Y:fK}{P:aL}{w:aE}{K:ax}{Q:Str->Option ah}{o:aB}{N C:List Str}{j:Str}{d:cU}{f:af}{M:ah}{A:aS}{g:List Env}{s T:ao}{H:Hp}{E:XK}{O:List ah}{B:List V}(S:cJ N C d) (hd:A.handled=ae) (m:vy P w K Q o A g s H) (hl:B.length=C.length) (r:bq B O)(x:InCallC s s.heap.objs.size (bindL (jj j d s.heap.objs.size f M).kindOf (C.zip O) λ_=>ae) (fe (s.heap.objs.size+1) d.names []) (bindC (jj j d s.heap.objs.size f M).kindOf (C.zip O) λ_=>ae) T):Inv (h8 Y P w K Q o N j d f M A g s H E) [] (start N B) H T:=by
 have dG:C.length<=N.length:=by have:=congrArg lm S.pre;rw[jk]at this;lia
 obtain⟨L,tk,rfl,X⟩:=x.done;have D:∀b:af,b∉(h8 Y P w K Q o N j d f M A g s H E).ex:=λb z=>absurd (show b∈([]:List af)from z) (by simp);refine⟨⟨m.mod,S.kind,rfl,rfl,aZ _,λy z c L l=>?_,λy F=>?_,λy c _ h=>?_,λ_=>hd,Around.frames_deeper m.frames,.inr ⟨rfl,rfl⟩,λb z=>absurd z (D b),m.bs,m.bsz,λb _ _=>D b,λb z=>absurd z (D b),m.funs,m.frf,m.tab⟩,rfl,m.bare,Un.kept X,⟨_,x.toInCall.ns,λi y v L l h3=>?_⟩,λy c h=>⟨_,x.cell y c h⟩,m.hok.fresh (aZ _),λy c h=>?_,λp I=>absurd (show p∈([]:List (af×Obj))from I) (by simp),m.hok.kept X,?_⟩
 .exact name_of_addr x.apart (j8 L) (j8 l)
 .have F:d.names.lookup y=aa .cell\/d.names.lookup y=aa .free:=F;rcases F with F|F
  .exact B0 F
  .exact absurd rfl (S.nofree _ (j8 F))
 .exact l8 (x.above y c (j8 h))
 .have J:i<B.length:=by
   unfold start at l;by_cases J:i<B.length
   .exact J
   .rw[oR (by simpa using J)]at l;rw[List.getElem?_replicate]at l;split at l <;> cases l
  have ha:B[i]?=aa v:=by
   unfold start at l;rw[ir (by simpa using J),gx]at l;cases e:B[i]? with
   |none=>rw[e]at l;cases l
   |some a=>rw[e]at l;cases l;rfl
  obtain⟨u,W,Z⟩:=r.get ha;have I:C[i]?=aa y:=by rw[<-S.pre,List.getElem?_take_of_lt ∅];exact L
  have G:C.Nodup:=by rw[<-S.pre];exact S.nd.sublist (List.take_sublist _ _)
  refine⟨u,Z,?_⟩;rcases S.par y (oS I)with k|k
  .exact .inl ⟨k,B9 G I W k⟩
  .obtain⟨c,e⟩:=B0 (n:=s.heap.objs.size+1) k;refine .inr ⟨.inl k,c,e,?_⟩;have q:=x.cell y c e;rw[EX G I W (by show d.names.lookup y≠_;rw[k];decide)]at q;exact q
 .exact m.hok.fresh (l8 (x.above y c (j8 h)))
 .unfold start;show _=N.length;rw[cK,dD,List.length_replicate];lia
theorem GH{M:fK}{P:aL}{w:aE}{K:ax}{L:Str->Option ah}{h:aB}{k:Nat}{f:af}{m d:Str}{g:qB}{i:List bi}{a:cU}{dV kV F pm z ct oc:ah}{an od:Option af}{X:Array (Option ah)}{N G:List Str}{O:Sp} (lk:K.lookup f=aa ⟨oc,od,.func (jl m d g i a dV kV F pm an z ct),X⟩) (bK:wW K z d=ai) (S:cJ N G a)(len:∀l H Q E,O l H Q E->l.length=G.length)(jo:∀(A:aS) (c:List Env) (s:ao) (H:Hp) (l:List V) (Q:VK) (E:XK),Room k (A.deeper (jj d a s.heap.objs.size f z))->O l H Q E -> ∃t,kR (h8 M P w K L h N d a f z A c s H E) i t/\t {nx:=λ_ p=>Q .non p,rt:=Q} (start N l) H):jU P w K L h M (k+1) f (jl m d g i a dV kV F pm an z ct) G O:=by
 refine⟨len,λA c s H args us l Q E Z D hb r lA=>?_⟩;have hl:=len _ _ _ _ lA;have KX:K.In s.heap:=D.mod.kin.keeps λb o e=>(D.bs b o e).1;have Y:s.heap.NoLimit:=D.mod.nolimit.keeps λb o e=>(D.bs b o e).1;have Ps:∀y∈G.zip us,a.names.lookup y.1=aa .local\/(a.names.lookup y.1=aa .cell/\((fe (s.heap.objs.size+1) a.names []).lookup y.1).isSome=ai):=λ⟨n,v⟩ hy=>by
  rcases S.par n (List.of_mem_zip hy).1 with q|q
  .exact .inl q
  .exact .inr ⟨q,PySem.W.cellsFrom_some _ _ _ (.inl q)⟩
 refine codeAny_call_function Z.depth (KX _ _ lk) rfl S.co S.gen rfl (PySem.W.codeRec_of KX bK) (hb _ _ _ _ ?_);refine wpAny_newFunctionEnv_cells S.kind Ps λenv he s1 x=>?_;subst he;refine⟨Y.keeps x.toInCall.keep,codeAny_func ?_⟩;obtain⟨t,ht,hq⟩:=jo A c s H l Q E (Z.deeper _) lA;have I:Inv (h8 M P w K L h N d a f z A c s H E) [] (start N l) H s1:=Kw S Z.hd D hl r x;refine eP (ht [] s1 (start N l) H _ I hq) (λfl T B=>?_) λe T B=>B;have C:∀{j:St}{p:Hp}{v:V}{u:ah},Inv (h8 M P w K L h N d a f z A c s H E) [] j p T->RelV v u->Q v p->CE c P w H s Q u T :=λ{j p v u} J W q=>⟨v,p,J.os,J.bare,J.base,J.hok,W,q⟩
 cases fl with
 |ret u=>obtain⟨v,j,p,J,W,q⟩:=B;exact C J W q
 |next=>obtain⟨j,p,J,q⟩:=B;exact C (v:=V.non) (u:=Value.none) J rfl q
 |brk=>obtain⟨_,_,_,q⟩:=B;exact li q
 |cont=>obtain⟨_,_,_,q⟩:=B;exact li q
section
variable{X:Cx}{x:Str}{p a:Pos}{e:az}{b:List az}{t:TA}{c T:String}{r:List V->Hp->VK->Prop}
def zB(r:List V->Hp->VK->Prop)(t:TA):TE:=λd H Q=>t d H λf g=>r f g Q
theorem qr(w:fk X (.builtin c) r)(u:Gl X x)(q:X.mg x=ae)(n:dW x=aa (.builtin c))(y:PA X (e::b) t)(o:x≠"__name__":=by decide)(z:(x==("__debug__":Str))=aj:=by decide)(v:aP (e::b) X.env=(aj,aM e X.env)::aP b X.env:=by rfl) (A:(dA a (aP b X.env)).any (·.1)=aj:=by rfl):PE X (.Call (.Name x p) (e::b) [] a) (zB r t):=by intro f s d H Q I h;refine wV (oN I u q n ?_ o z);exact Pi (aI (y a f s d H _ I h) λi j ⟨g,C,B,l,m⟩=>w f j d C g i Q B l m) v A
theorem zz(w:fk X (.type T) r)(u:Gl X x)(q:X.mg x=ae)(n:dW x=aa (.type T))(y:PA X (e::b) t)(o:x≠"__name__":=by decide)(z:(x==("__debug__":Str))=aj:=by decide)(v:aP (e::b) X.env=(aj,aM e X.env)::aP b X.env:=by rfl) (A:(dA a (aP b X.env)).any (·.1)=aj:=by rfl):PE X (.Call (.Name x p) (e::b) [] a) (zB r t):=by intro f s d H Q I h;refine wV (oN I u q n ?_ o z);exact Ag (aI (y a f s d H _ I h) λi j ⟨g,C,B,l,m⟩=>w f j d C g i Q B l m) v A
end
end L2
namespace HT
section
open PySem.SeqAt
open PySem.AutoSeq1 (wpAny_loadPart')
open PySem.MeetsSeq PySem.MeetsSeq2 PySem.MeetsSeq3
end
section
variable{a:aL}{w:aE}{A:aS}{E:ah->ao->Prop}{s:ao}
theorem cat_tup{t b:af}{d c:List ah}{Q:ah->ao->Prop}(B:IsTup s.heap t d.toArray)(C:IsTup s.heap b c.toArray)(u:d≠[])(F:c=[]->Q (.ref t) s) (D:c≠[]->Q (.ref s.heap.objs.size) {s with heap:=s.heap.push {cls:=.type "tuple",data:=.seq (d++c).toArray}})(l:d.length+c.length<=aX):aq (aw a w) A (fG .Add (.ref t) (.ref b)) Q E s:=by
 obtain⟨⟨cls,y,data,o⟩,i,x,n,v⟩:=id B;obtain⟨⟨z,g,m,f⟩,j,r,q,p⟩:=id C;simp only at x v r p;subst x v r p;have e:d.toArray++c.toArray=(d++c).toArray:=by simp
 by_cases h:c=[]
 .exact concat_meets ⟨_,i,rfl⟩ ⟨_,j,rfl⟩ Fh seq_tuple_add Fi Fj (Fk _ _)
   (tuple_addW1 t b d.toArray c.toArray n q y g o f (by simpa using u) (by simp[h])) ⟨i,j,F h⟩
 .refine concat_meets ⟨_,i,rfl⟩ ⟨_,j,rfl⟩ Fh seq_tuple_add Fi Fj (Fk _ _)
   (tuple_addW2 t b d.toArray c.toArray n q y g o f (by simpa using u) (by simpa using h) (by rw[bJ,bJ];exact l)) ⟨i,j,?_⟩
  rw[e];exact D h
def sIx(n d:Nat):Option Int->Nat
 |none=>d
 |some v=>if v<0 then(v+(n:Int)).toNat else min v.toNat n
theorem sIx_nat(n d k:Nat):sIx n d (aa (k:Int))=min k n:=by show(if(k:Int)<0 then((k:Int)+(n:Int)).toNat else min (k:Int).toNat n)=min k n;rw[if_neg ∅,gy]
theorem sIx_le(n d:Nat)(c:d<=n)(o:Option Int):sIx n d o<=n:=by
 cases o with
 |none=>exact c
 |some v=>
  show(if v<0 then(v+(n:Int)).toNat else min v.toNat n)<=n;by_cases b:v<0
  .rw[if_pos b];lia
  .rw[if_neg b];exact Nat.min_le_right _ _
theorem BO(v:Int)(n d:Nat):(if v<0 then max (v+(n:Int)) 0 else min v (n:Int))=((sIx n d (aa v):Nat):Int):=by
 show(if v<0 then max (v+(n:Int)) 0 else min v (n:Int))=(((if v<0 then(v+(n:Int)).toNat else min v.toNat n):Nat):Int)
 by_cases b:v<0
 .simp only[if_pos b];lia
 .simp only[if_neg b];lia
theorem Jg(b c:Option Int)(n:Nat):Fl b c 1 (n:Int)=(((sIx n 0 b:Nat):Int),((sIx n n c:Nat):Int)):=by
 have d:¬((1:Int)<0):=∅
 unfold Fl;simp only[d,if_false];refine Prod.ext ?_ ?_
 .cases b with
  |none=>rfl
  |some v=>exact BO v n 0
 .cases c with
  |none=>rfl
  |some v=>exact BO v n n
theorem Ms(i j:Nat):Ah (i:Int) (j:Int) 1=j-i:=by
 unfold Ah;have b:(1:Int) > 0:=∅
 simp only[b,if_true,Int.ediv_one];split <;> lia
theorem Ey{v:ah}{o:Option Int}{Q:Option Int->ao->Prop}(p:l_ v o)(h:Q o s):aq (aw a w) A (Builtin.Slice.slicePartIndex v) Q E s:=by
 cases p with
 |none=>exact slicePart_none h
 |int i t=>exact slicePart_int h
theorem Nd{j:af}{g f:ah}{b c:Option Int}{n:Nat}{Q:Int×Int×Nat->ao->Prop}(o:s.heap.IsSliceOf j g f .none)(m:l_ g b)(l:l_ f c)(h:Q (((sIx n 0 b:Nat):Int),1,sIx n n c-sIx n 0 b) s):aq (aw a w) A (Builtin.Slice.sliceApplied (.ref j) (pure (n:Int))) Q E s:=by
 obtain⟨q,i,p,d⟩:=id o;unfold Builtin.Slice.sliceApplied Builtin.Slice.sliceFields;refine ap (ap (qC i d (x:=g) rfl (ap (qC i d (x:=f) rfl (ap (qC i d (x:=.none) rfl (aC ?_)))))));refine ap (slicePart_none ?_);show aq _ _ (if((1:Int) == 0)=ai then _ else _) _ _ s;rw[if_neg (by decide)];refine ap (Ey m (ap (Ey l (ap (aC ?_)))));show aq _ _ (match Fl b c 1 (n:Int)with | (b,c)=>pure (b,(1:Int),Ah b c 1)) _ _ s;rw[Jg b c n];show aq _ _ (pure (((sIx n 0 b:Nat):Int),(1:Int),Ah ((sIx n 0 b:Nat):Int) ((sIx n n c:Nat):Int) 1)) _ _ s;rw[Ms];exact aC h
theorem Ly(b:Array ah)(i k:Nat):((bI k).filterMap λ(m:Nat)=>b[((i:Int)+(m:Int)*1).toNat]?).toArray=((b.toList.drop i).take k).toArray:=by
 have e:(λ(m:Nat)=>b[((i:Int)+(m:Int)*1).toNat]?)=λm=>b[i+m]?:=by
  funext m;have:((i:Int)+(m:Int)*1).toNat=i+m:=∅
  rw[this]
 rw[e];have:=pick_run b i k;rw[List.filterMap_map]at this;have c:((λx=>b[x]?) ∘ λx=>i+x)=λm=>b[i+m]?:=rfl;rw[c]at this;rw[this]
theorem getItem_tuple_cut{t i:af}{b:Array ah}{p o:ah}{c d:Option Int}{Q:ah->ao->Prop}(g:IsTup s.heap t b)(r:s.heap.IsSliceOf i p o .none)(x:l_ p c)(v:l_ o d)(z:¬(sIx b.size 0 c=0/\sIx b.size b.size d=b.size))(h:Q (.ref s.heap.objs.size) {s with heap:=s.heap.push {cls:=.type "tuple",data:=.seq ((b.toList.drop (sIx b.size 0 c)).take (sIx b.size b.size d-sIx b.size 0 c)).toArray}})(B:b.size<=aX):aq (aw a w) A (oU (.ref t) (.ref i)) Q E s:=by
 have f:sizeOk (.seq ((b.toList.drop (sIx b.size 0 c)).take (sIx b.size b.size d-sIx b.size 0 c)).toArray):=by show((b.toList.drop (sIx b.size 0 c)).take (sIx b.size b.size d-sIx b.size 0 c)).toArray.size<=aX;rw[bJ,jk,m8,jG];lia
 have G:sIx b.size b.size d<=b.size:=sIx_le _ _ (aZ _) d;obtain⟨y,u,l,C⟩:=id r;have n:s.TypeIs (.ref i) "slice":=⟨y,u,l⟩
 unfold oU
 try with_reducible refine iN ?_
 first|refine ap (aC ?_)|skip
 refine ap (wpAny_sequenceKey g.typeIs (by decide) ?_);refine ap (Ai (name:=oV "__getitem__") g.typeIs Pj (m_ Pj g.typeIs entry_tuple_getitem ?_ (args_tuple_getitem _ _)));show aq _ _ (Builtin.Tuple.tupleItemsOf (.ref t) >>= _) _ _ s;refine ap (tupleItemsOf_ g ?_);refine ap (wpAny_typeOf n ?_);rw[if_pos (by decide)];refine ap (Nd r x v ?_);have j:¬((((sIx b.size 0 c:Nat):Int) == 0&&(1:Int) == 1&&(sIx b.size b.size d-sIx b.size 0 c) == b.size)=ai):=by intro q;rw[fU,fU]at q;have F:((sIx b.size 0 c:Nat):Int)=0:=eq_of_beq q.1.1;have D:sIx b.size b.size d-sIx b.size 0 c=b.size:=eq_of_beq q.2;exact z ⟨∅,∅⟩
 show aq _ _ (if(((sIx b.size 0 c:Nat):Int) == 0&&(1:Int) == 1&&(sIx b.size b.size d-sIx b.size 0 c) == b.size)=ai then _ else _) _ _ s;rw[if_neg j,Ly]
 first
  |exact ap (m:=Aj _) (jI (aC ⟨_,rfl,aC h⟩) f)
  |exact ap (m:=Aj _) (jI (ap (aC (aC ⟨_,rfl,aC h⟩))) f)
  |exact ap (ap (m:=Aj _) (jI (aC (aC ⟨_,rfl,aC h⟩)) f))
  |exact ap (ap (m:=Aj _) (jI (aC ⟨_,rfl,aC h⟩) f))
end
end HT
namespace L2
abbrev TO:=St->Hp->(Option Int->Hp->Prop)->Prop
def PO(X:Cx)(e:Option az)(t:TO):Prop :=
 ∀(b:List (af×Obj)) (s:ao) (a:St) (H:Hp) (Q:Option Int->Hp->Prop),Inv X b a H s->t a H Q ->
  aq (aw X.prog X.w) X.A (evalPart e X.env) (λu d=>∃o c,Inv X b a c d/\l_ u o/\Q o c) X.xe s
def NF:TO:=λ_ H Q=>Q ae H
def IF(t:TE):TO:=λa H Q=>t a H λx b=>∃i,x=.int i/\Q (aa i) b
section
variable{X:Cx}{e:az}{f:TE}{c d:Option az}{g j:TO}{n m:Pos}
theorem JS:PO X ae NF:=by intro b s a H Q I h;rw[evalPart_none];exact aC ⟨ae,H,I,.none,h⟩
theorem LK(h:PE X e f):PO X (aa e) (IF f):=by intro p s a H Q I o;rw[evalPart_some];refine aI (h p s a H _ I o) λu w ⟨x,v,r,b,l⟩=>?_;obtain⟨i,rfl,q⟩:=l;obtain⟨t,rfl⟩:=b;exact⟨aa i,v,r,.int i t,q⟩
def lP(X:Cx)(r:V->Option Int->Option Int->Hp->VK->Prop):Prop :=
 ∀(l:List (af×Obj)) (s:ao) (a:St) (H:Hp) (x:V) (v h b:ah) (c d:Option Int) (i:af) (Q:VK),Inv X l a H s->RelV x v->s.heap.IsSliceOf i h b .none->l_ h c->l_ b d->r x c d H Q ->
  ∃T o,typeLookup (.type T) "__getitem__"=pure (aa (.builtin o))/\s.TypeIs v T/\aq (aw X.prog X.w) X.A (oU v (.ref i)) (EP X l a Q) X.xe s
theorem lP.or{r p:V->Option Int->Option Int->Hp->VK->Prop}(h:lP X r)(A:lP X p):lP X (λx c d H Q=>r x c d H Q\/p x c d H Q):=by
 intro z s a H x v i b c d l Q I o y w u q;rcases q with q|q
 .exact h z s a H x v i b c d l Q I o y w u q
 .exact A z s a H x v i b c d l Q I o y w u q
def MH(r:V->Option Int->Option Int->Hp->VK->Prop)(f:TE)(g j:TO):TE:=λa H Q=>f a H λx i=>g a i λl h=>j a h λu b=>r x l u b Q
theorem KO{r:V->Option Int->Option Int->Hp->VK->Prop}(L:lP X r)(O:PE X e f)(M:PO X c g)(J:PO X d j):PE X (.Subscript e (.Slice c d ae m) n) (MH r f g j):=by intro o s i H Q I h;refine Subscript_ (aI (O o s i H _ I h) λv A ⟨x,H1,Z,B,E⟩=>?_);refine wpAny_Slice (aI (M o A i H1 _ Z E) λw z ⟨l,H2,Y,G,D⟩=>aI (J o z i H2 _ Y D) λp a ⟨u,y,W,F,C⟩=>?_);rw[evalPart_none];refine aC ?_;have S:Inv X o i y {a with heap:=a.heap.push {cls:=.type "slice",data:=.fields #[w,p,.none]}}:=W.kept (t':=a.toks) λb ob q=>bh _ q;obtain⟨T,id,P,K,N⟩:=L o {a with heap:=a.heap.push {cls:=.type "slice",data:=.fields #[w,p,.none]}} i y x v w p l u a.heap.objs.size Q S B (Heap.IsSliceOf.new ..) G F C;show aq (aw X.prog X.w) X.A (subscriptTail e (.Slice c d ae m) v (.ref a.heap.objs.size)) (EP X o i Q) X.xe {a with heap:=a.heap.push {cls:=.type "slice",data:=.fields #[w,p,.none]}};exact tail_any (ops:=[.ref a.heap.objs.size,v]) K P N (by with_unfolding_all rfl)
def mF(a:List V)(c d:Option Int):List V:=(a.drop (HT.sIx a.length 0 c)).take (HT.sIx a.length a.length d-HT.sIx a.length 0 c)
theorem BM(a:List V)(c d:Option Int):(mF a c d).length<=a.length:=by unfold mF;rw[jk,m8];lia
def D2(K:ax):V->Option Int->Option Int->Hp->VK->Prop:=λx c d H Q=>∃a b,x=.ref a/\bR K H a b /\
 ¬(HT.sIx b.length 0 c=0/\HT.sIx b.length b.length d=b.length)/\∀p,H p=ae->Q (.ref p) (upd H p (.tup (mF b c d)))
theorem Js:lP X (D2 X.K):=by
 intro L s E H x v G F c d J Q I y D A z h;obtain⟨a,i,rfl,B,C,q⟩:=h;cases y;obtain⟨l,r,w,u⟩:=I.tuple B;have p:l.toArray.size=i.length:=by rw[bJ];exact r.length.symm
 refine⟨"tuple",_,PyProof.Rows.slot_tuple_getitem.lookup,w.typeIs,?_⟩;refine HT.getItem_tuple_cut w D A z (by rw[p];exact C) ?_ (by rw[p];exact u);rw[p];refine⟨.ref s.heap.objs.size,_,I.laid (t':=s.toks) (o:=.tup (mF i c d)) (λb K q=>bh _ q) (aZ _) ?_,rfl,q _ (I.hok.fresh (aZ _))⟩;exact⟨cA (BM i c d) u,_,(r.drop (HT.sIx i.length 0 c)).take (HT.sIx i.length i.length d-HT.sIx i.length 0 c),Fa.new _ _⟩
def Ci(K:ax):R2:=λx y H Q=>∃a b i h,x=.ref a/\y=.ref b/\bR K H a i/\bR K H b h/\i≠[]/\i.length+h.length<=aX /\
 (h=[]->Q (.ref a) H)/\(h≠[]->∀p,H p=ae->Q (.ref p) (upd H p (.tup (i++h))))
theorem bq.nil_iff{a:List V}{b:List ah}(r:bq a b):b=[]↔a=[]:=by
 cases r with
 |nil=>simp
 |cons _ _=>simp
theorem PY:bD X (fG .Add) (Ci X.K):=by
 intro P s N H x y v u Q I D C h;obtain⟨a,b,B,A,rfl,rfl,M,L,K,r,F,E⟩:=h;cases D;cases C;obtain⟨J,l,G,_⟩:=I.tuple M;obtain⟨p,i,m,_⟩:=I.tuple L;refine HT.cat_tup G m (λz=>K (l.nil_iff.mp z)) (λz=>⟨.ref a,H,I,rfl,F (i.nil_iff.mp z)⟩) (λz=>?_) (by rw[<-l.length,<-i.length];exact r);refine⟨.ref s.heap.objs.size,_,I.laid (t':=s.toks) (o:=.tup (B++A)) (λb O q=>bh _ q) (aZ _) ?_,rfl,E (λw=>z (i.nil_iff.mpr w)) _ (I.hok.fresh (aZ _))⟩;exact⟨by rw[cK];exact r,_,l.append i,Fa.new _ _⟩
end
def jc(n:Nat)(i:Int):Option Nat:=if 0<=i then(if i<n then aa i.toNat else ae)else if -(n:Int)<=i then aa (i+n).toNat else ae
def dP{a:Type}(xs:List a)(i:Int):Option a:=(jc xs.length i).bind λj=>xs[j]?
theorem Ch{n:Nat}{i:Int}{j:Nat}(h:jc n i=aa j):seqIndex? i n=aa j/\j<n/\-(n:Int)<=i/\i<n:=by
 unfold jc at h;by_cases b:0<=i
 .rw[if_pos b]at h;by_cases a:i<n
  .rw[if_pos a]at h;have e:i.toNat=j:=dz h;exact⟨by rw[seqIndex_of b a,e],∅,∅,a⟩
  .rw[if_neg a]at h;cases h
 .rw[if_neg b]at h;by_cases a:-(n:Int)<=i
  .rw[if_pos a]at h;have e:(i+n).toNat=j:=dz h;exact⟨by rw[seqIndex_neg ∅ a,e],∅,a,∅⟩
  .rw[if_neg a]at h;cases h
theorem yg{b:Type}{a:List b}{i:Int}{v:b}(h:dP a i=aa v):∃j,seqIndex? i a.length=aa j/\a[j]?=aa v/\j<a.length/\-(a.length:Int)<=i/\i<a.length:=by
 unfold dP at h;cases e:jc a.length i with
 |none=>rw[e]at h;cases h
 |some j=>rw[e]at h;obtain⟨g,f,d,c⟩:=Ch e;exact⟨j,g,h,f,d,c⟩
theorem M0{a:Type}{xs:List a}{j:Nat}{v:a}(h:xs[j]?=aa v):dP xs (j:Int)=aa v:=by
 have b:j<xs.length:=(cY.mp h).1;have e:jc xs.length (j:Int)=aa j:=by unfold jc;rw[if_pos ∅,if_pos ∅];simp
 unfold dP;rw[e];exact h
def Ds(b:az):Prop:=∀o i,Ak b aj o i=operate [o,i] (oU o i)
def kC(X:Cx)(r:R2):Prop :=
 ∀(b a:az) (d:List (af×Obj)) (s:ao) (c:St) (H:Hp) (x y:V) (v u:ah) (Q:VK),Inv X d c H s->RelV x v->RelV y u->r x y H Q ->
  Ak a aj v u=operate [v,u] (oU v u)->aq (aw X.prog X.w) X.A (subscriptTail b a v u) (EP X d c Q) X.xe s
def wJ(X:Cx)(f:String)(r:V->List V->Hp->VK->Prop):Prop :=
 ∀(d:List (af×Obj)) (s:ao) (a:St) (H:Hp) (x:V) (b:List V) (v:ah) (c:List ah) (Q:VK),Inv X d a H s->RelV x v->bq b c->r x b H Q ->
  aq (aw X.prog X.w) X.A (call (.builtin f) (v::c)) (EP X d a Q) X.xe s
section
variable{X:Cx}{a b:az}{F E:TE}{D:Pos}
theorem kC.or{r j:R2}(h:kC X r)(n:kC X j):kC X (λx y H Q=>r x y H Q\/j x y H Q):=by
 intro c d m s f H x y v u Q I i g q l;rcases q with q|q
 .exact h c d m s f H x y v u Q I i g q l
 .exact n c d m s f H x y v u Q I i g q l
theorem CO{r:R2}(j:kC X r)(m:PE X a F)(l:PE X b E)(i:Ds b):PE X (.Subscript a b D) (pR r F E):=by intro n s c H Q I h;exact Subscript_ (zP m l I h λv u d x y p o g f q=>j a b n d c p x y v u Q o g f q (i _ _))
def DJ(K:ax):R2:=λx y H Q=>∃p c i v,x=.ref p/\y=.int i/\bP K H p c/\dP c i=aa v/\Q v H
def Bf(K:ax):R2:=λx y H Q=>∃p c i v,x=.ref p/\y=.int i/\bR K H p c/\dP c i=aa v/\Q v H
def Bw:R2:=λx y H Q=>∃z i c,x=.str z/\y=.int i/\z.length<=aX/\dP z.cps.toList i=aa c/\Q (.str ⟨#[c]⟩) H
theorem P4:kC X (DJ X.K):=by
 intro f g J s A H x y v u Q I M L h B;obtain⟨p,Y,i,z,rfl,rfl,N,P,q⟩:=h;cases M;obtain⟨t,rfl⟩:=L;obtain⟨n,r,m,Z⟩:=I.list N;obtain⟨j,d,W,h3,T,S⟩:=yg P;obtain⟨w,G,l⟩:=r.get W;have O:=r.length;have hn:=ol;have c:EP X J A Q w s:=⟨z,H,I,l,q⟩
 by_cases C:0<=i
 .have o:i.toNat=j:=by
   rw[seqIndex_of C S]at d;exact dz d
  exact item_listR m.isList C ∅ (by rw[o];simpa using G) c B
 .have o:(i+(n.toArray.size:Int)).toNat=j:=by
   rw[seqIndex_neg ∅ T]at d;rw[bJ,<-O];exact dz d
  exact subscriptTail_builtinR (x:=w) m.isList.typeIs slot_list_getitem.lookup
   (wpAny_getItem_list_neg (Q:=λr K=>r=w/\EP X J A Q r K) m.isList ∅ (by rw[bJ] <;> lia) ∅ (by rw[o];simpa using G) ⟨rfl,c⟩) B
theorem P9:kC X (Bf X.K):=by
 intro c d n s l H x y v u Q I B A h G;obtain⟨p,P,i,z,rfl,rfl,J,L,q⟩:=h;cases B;obtain⟨t,rfl⟩:=A;obtain⟨C,r,m,S⟩:=I.tuple J;obtain⟨j,N,M,Z,Y,W⟩:=yg L;obtain⟨w,O,f⟩:=r.get M;have K:=r.length;have T:=ol;have g:EP X n l Q w s:=⟨z,H,I,f,q⟩
 exact subscriptTail_builtinR (x:=w) m.typeIs slot_tuple_getitem.lookup
  (getItem_tuple (j:=j) (Q:=λr o=>r=w/\EP X n l Q r o) m ∅ ∅ (by rw[bJ,<-K];exact N) (by simpa using O) ⟨rfl,g⟩) G
theorem KH:kC X Bw:=by
 intro d f N s G H x y v u Q I m l h n;obtain⟨z,i,c,rfl,rfl,K,p,q⟩:=h;obtain⟨t,rfl⟩:=m;obtain⟨J,rfl⟩:=l;obtain⟨j,g,A,M,w,r⟩:=yg p;have o:z.cps.toList.length=z.length:=by simp[ng]
 rw[o]at g w r;have L:=ol;exact tail_any (typeIs_str s z t) slot_str_getitem.lookup (getItem_str (c:=c) (by have C:decide (i < -(2^63:Int))=aj:=decide_eq_false ∅;have B:decide (i ≥ 2^63)=aj:=decide_eq_false ∅;rw[C,B,Bool.or_false]) (by rw[g];simpa using A) ⟨.str ⟨#[c]⟩,H,I.tok _,⟨_,rfl⟩,q⟩) n
def wt(K:ax):R2:=λx y H Q=>DJ K x y H Q\/Bf K x y H Q\/Bw x y H Q
theorem gM:kC X (wt X.K):=P4.or (P9.or KH)
theorem Iu(c:List ah)(n j:Nat)(u:ah):gk (·.setIfInBounds j u) {cls:=.type "list",data:=.seq c.toArray n}={cls:=.type "list",data:=.seq (c.set j u).toArray n}:=by simp[gk]
theorem Inv.lst{d:List (af×Obj)}{c:St}{H:Hp}{s:ao}{p:af}{xs:List V}(I:Inv X d c H s)(h:H p=aa (.lst xs)):∃(its:List ah) (n:Nat),bq xs its/\s.heap.get? p=aa {cls:=.type "list",data:=.seq its.toArray n}/\xs.length<=aX:=by obtain⟨z,its,n,r,e⟩:=I.hok p _ h;exact⟨its,n,r,e,z⟩
theorem Inv.lstUpd{m:List (af×Obj)}{j:St}{H:Hp}{s:ao}{p:af}{o g:List V}{d c:List ah}{n i:Nat}{f:Obj->Obj}(I:Inv X m j H s)(h:H p=aa (.lst o))(w:s.heap.get? p=aa {cls:=.type "list",data:=.seq d.toArray n}) (l:f {cls:=.type "list",data:=.seq d.toArray n}={cls:=.type "list",data:=.seq c.toArray i}) (r:bq g c) (v:g.length<=aX) (t:Nat):Inv X m j (upd H p (.lst g)) {s with heap:=s.heap.update p f,toks:=t}:=by
 have e:(s.heap.update p f).get? p=aa {cls:=.type "list",data:=.seq c.toArray i}:=by rw[nh f w (by rw[l] <;> rfl),l]
 refine I.write (x:=p) (e:=p) (by rw[h];trivial) (.inl rfl) (λb u y q=>(oW _ _ (fF y)).trans q) ⟨_,e⟩ ?_;exact⟨v,c,i,r,e⟩
def Hh:V->V->V->Hp->(Hp->Prop)->Prop:=λo i v H Q=>∃p c k j,o=.ref p/\i=.int k/\H p=aa (.lst c)/\jc c.length k=aa j/\Q (upd H p (.lst (c.set j v)))
theorem Oz:DQ X Hh:=by
 intro M s A H o i v ov N u Q I G J C h;obtain⟨p,B,k,j,rfl,rfl,m,L,q⟩:=h;cases G;obtain⟨t,rfl⟩:=J;obtain⟨c,n,r,f,K⟩:=I.lst m;obtain⟨d,P,x,w⟩:=Ch L;have g:=r.length;have O:=ol;have z:Inv X M A (upd H p (.lst (B.set j v))) {s with heap:=s.heap.update p (gk (·.setIfInBounds j u))} :=I.lstUpd m f (Iu c n j u) (r.set C j) (by rw[gQ];exact K) s.toks;by_cases y:0<=k
 .have l:k.toNat=j:=by
   rw[seqIndex_of y w]at d;exact dz d
  exact PySem.W.ki_setAt f y ∅ (by rw[bJ,<-g];exact w) (by rw[l];exact⟨_,z,q⟩)
 .have l:(k+(c.toArray.size:Int)).toNat=j:=by
   rw[seqIndex_neg ∅ x]at d;rw[bJ,<-g];exact dz d
  exact PySem.W.ki_setBack f ∅ (by rw[bJ,<-g];exact x) ∅ (by rw[l];exact⟨_,z,q⟩)
theorem LX(c d:Option Int)(n:Nat):(qD c d ae n).1=((HT.sIx n 0 c:Nat):Int)/\(qD c d ae n).2.1=((HT.sIx n n d:Nat):Int)/\(qD c d ae n).2.2=1:=by
 refine⟨?_,?_,rfl⟩
 .cases c with
  |none=>simp[qD,HT.sIx]
  |some i=>
   simp only[qD,HT.sIx,Fm,show(1:Int) > 0 by decide,if_true];by_cases h:i<0
   .simp only[h,if_true] <;> lia
   .simp only[h,if_false] <;> lia
 .cases d with
  |none=>simp[qD,HT.sIx]
  |some i=>
   simp only[qD,HT.sIx,Fm,show(1:Int) > 0 by decide,if_true];by_cases h:i<0
   .simp only[h,if_true] <;> lia
   .simp only[h,if_false] <;> lia
theorem Hj(c:List ah)(d f:Option Int):slicePick c.toArray d f ae=((c.drop (HT.sIx c.length 0 d)).take (HT.sIx c.length c.length f-HT.sIx c.length 0 d)).toArray:=by obtain⟨i,h,g⟩:=LX d f c.toArray.size;unfold slicePick;rw[i,h,g];simp only[sliceRange_one,pick_run,bJ] <;> rfl
def CK(K:ax):V->Option Int->Option Int->Hp->VK->Prop:=λx d f H Q=>∃a c,x=.ref a/\bP K H a c/\∀p,H p=ae->Q (.ref p) (upd H p (.lst (mF c d f)))
theorem PR:lP X (CK X.K):=by
 intro G s y H x v A z d f B Q I i u l j h;obtain⟨a,c,rfl,p,q⟩:=h;cases i;obtain⟨m,r,g,n⟩:=I.list p;have w:=r.length;refine⟨"list",_,slot_list_getitem.lookup,g.isList.typeIs,?_⟩;refine wpAny_getItem_list_slice g.isList u l j .none (by simp) ?_ (by rw[bJ] <;> lia);rw[Hj,<-w];refine⟨.ref s.heap.objs.size,_,I.laid (t':=s.toks) (o:=.lst (mF c d f)) (λb C q=>bh _ q) (aZ _) ?_,rfl,q _ (I.hok.fresh (aZ _))⟩;exact⟨cA (BM c d f) n,_,0,(r.drop (HT.sIx c.length 0 d)).take (HT.sIx c.length c.length f-HT.sIx c.length 0 d),cf _ rfl⟩
def gc:V->Bool
 |.non=>ai
 |.bl _=>ai
 |.int _=>ai
 |.str _=>ai
 |_=>aj
def cZ:V->V->Bool
 |.non,.non=>ai
 |.bl a,.bl b=>a == b
 |.bl a,.int b=>(if a then 1 else 0) == b
 |.int a,.bl b=>a == (if b then 1 else 0)
 |.int a,.int b=>a == b
 |.str a,.str b=>a == b
 |_,_=>aj
theorem CL{A:aS}{s:ao}{y x:V}{u v:ah}(f:RelV y u)(c:RelV x v)(h:gc y=ai)(g:gc x=ai):tz A s u v (cZ y x):=by
 cases y with
 |non=>
  cases f;cases x with
  |non=>cases c;exact SeqAt.EqAt.same _
  |bl b=>cases c;exact SeqAt.EqAt.none_bool b
  |int b=>obtain⟨t,rfl⟩:=c;exact SeqAt.EqAt.none_int b t
  |str b=>obtain⟨t,rfl⟩:=c;exact SeqAt.EqAt.none_str b t
  |_=>exact absurd (show aj=ai from g) dX
 |bl a=>
  cases f;cases x with
  |non=>cases c;exact SeqAt.EqAt.bool_none a
  |bl b=>cases c;exact SeqAt.EqAt.bool_bool a b
  |int b=>obtain⟨t,rfl⟩:=c;exact SeqAt.EqAt.bool_int a b t
  |str b=>obtain⟨t,rfl⟩:=c;exact SeqAt.EqAt.bool_str a b t
  |_=>exact absurd (show aj=ai from g) dX
 |int a=>
  obtain⟨d,rfl⟩:=f;cases x with
  |non=>cases c;exact SeqAt.EqAt.int_none a d
  |bl b=>cases c;exact SeqAt.EqAt.int_bool a d b
  |int b=>obtain⟨t,rfl⟩:=c;exact SeqAt.EqAt.int_int a d b t
  |str b=>obtain⟨t,rfl⟩:=c;exact SeqAt.EqAt.int_str a d b t
  |_=>exact absurd (show aj=ai from g) dX
 |str a=>
  obtain⟨d,rfl⟩:=f;cases x with
  |non=>cases c;exact SeqAt.EqAt.str_none a d
  |bl b=>cases c;exact SeqAt.EqAt.str_bool a d b
  |int b=>obtain⟨t,rfl⟩:=c;exact SeqAt.EqAt.str_int a d b t
  |str b=>obtain⟨t,rfl⟩:=c;exact Fo a d b t
  |_=>exact absurd (show aj=ai from g) dX
 |_=>exact absurd (show aj=ai from h) dX
def jg(x:V)(u:ah):Bool:=match u with
 |.none=>cZ .non x
 |.bool b=>cZ (.bl b) x
 |.int i _=>cZ (.int i) x
 |.str z _=>cZ (.str z) x
 |_=>aj
theorem vo{x y:V}{u:ah}(r:RelV y u)(f:gc y=ai):jg x u=cZ y x:=by
 cases y with
 |non=>cases r;rfl
 |bl b=>cases r;rfl
 |int i=>obtain⟨t,rfl⟩:=r;rfl
 |str z=>obtain⟨t,rfl⟩:=r;rfl
 |_=>exact absurd (show aj=ai from f) dX
theorem yR{x:V}:∀{c:List V}{d:List ah},bq c d->c.all gc=ai->d.any (jg x)=c.any λy=>cZ y x
 |_,_,.nil,_=>rfl
 |y::c,u::d,.cons r t,f=>by rw[qE,fU]at f;rw[qF,qF,vo r f.1,yR t f.2]
theorem rL{A:aS}{s:ao}{x:V}{v:ah}(h:RelV x v)(i:gc x=ai):∀{d:List V}{g:List ah},bq d g->d.all gc=ai->∀u∈g,tz A s u v (jg x u)
 |_,_,.nil,_=>λu c=>by cases c
 |y::d,u::g,.cons r t,f=>λj c=>by
  rw[qE,fU]at f;rcases br.mp c with rfl|c
  .rw[vo r f.1];exact CL r h f.1 i
  .exact rL h i t f.2 j c
def sk(x:V)(c:List V):Bool:=c.any λy=>cZ y x
def yP(K:ax)(d:Bool):R2:=λx y H Q=>∃p c,y=.ref p/\(bP K H p c\/bR K H p c)/\gc x=ai/\c.all gc=ai/\Q (.bl (if d then !sk x c else sk x c)) H
theorem NH:bD X (dr .In) (yP X.K aj):=by
 intro z s n H x y v u Q I i l h;obtain⟨p,o,rfl,d,j,fs,q⟩:=h;cases l;rcases d with d|d
 .obtain⟨c,r,f,m⟩:=I.list d;refine SeqAt.in_listAt (jg x) f.isList (λw g=>rL i j r fs w (by simpa using g)) ⟨.bl _,H,I,rfl,?_⟩;rw[show c.toArray.any (jg x)=c.any (jg x) by simp,yR r fs];exact q
 .obtain⟨c,r,f,m⟩:=I.tuple d;refine SeqAt.in_tupleAt (jg x) f (λw g=>rL i j r fs w (by simpa using g)) ⟨.bl _,H,I,rfl,?_⟩;rw[show c.toArray.any (jg x)=c.any (jg x) by simp,yR r fs];exact q
theorem Jr:fk X (.builtin "len") (λl H Q=>∃p c,l=[.ref p]/\(bP X.K H p c\/bR X.K H p c)/\Q (.int c.length) H):=by
 intro x s o H l v Q I r h;obtain⟨p,c,rfl,d,q⟩:=h;obtain⟨u,rfl,m⟩:=vals1 r;cases m;have w:=ol;rcases d with d|d
 .obtain⟨i,f,g,n⟩:=I.list d;have j:=f.length;exact Calls.call_len_list g.isList (by simp only[bJ] <;> lia) ⟨.int c.length,H,I.tok _,⟨s.toks+1,by rw[bJ,j]⟩,q⟩
 .obtain⟨i,f,g,n⟩:=I.tuple d;have j:=f.length;exact len_tuple g (by simp only[bJ] <;> lia) ⟨.int c.length,H,I.tok _,⟨s.toks+1,by rw[bJ,j]⟩,q⟩
theorem E2:fk X (.type "list") (λB H Q=>∃p f,B=[.ref p]/\(bP X.K H p f\/bR X.K H p f)/\∀l,H l=ae->Q (.ref l) (upd H l (.lst f))):=by
 intro K s G H B M Q I r h;obtain⟨p,f,rfl,v,q⟩:=h;obtain⟨u,rfl,J⟩:=vals1 r;cases J;have w:∀(c:List ah),bq f c->f.length<=aX->∀(d:aB) (i:Nat),(∀b C,s.heap.get? b=aa C->d.get? b=aa C) ->
   d.get? s.heap.objs.size=aa {cls:=.type "list",dict:=ae,data:=.seq c.toArray i,slots:=#[]}->EP X K G Q (.ref s.heap.objs.size) {s with heap:=d}:=λc g m d i j e=>
  ⟨.ref s.heap.objs.size,_,I.laid (t':=s.toks) j (aZ _) (show ca X.prog X.w _ d _ (.lst f)from⟨m,c,i,g,e⟩),rfl,q _ (I.hok.fresh (aZ _))⟩
 rcases v with v|v
 .obtain⟨c,g,x,m⟩:=I.list v;have L:=g.length;obtain⟨o,y,A,n,z⟩:=x.isList;exact call_list_seq p (.inl rfl) y A z (λd i j e=>w c g m d i j e) (by simp only[bJ] <;> lia)
 .obtain⟨c,g,x,m⟩:=I.tuple v;have L:=g.length;obtain⟨o,y,A,n,z⟩:=x;exact call_list_seq p (.inr rfl) y A z (λd i j e=>w c g m d i j e) (by simp only[bJ] <;> lia)
theorem zG:fk X (.type "tuple") (λm H Q=>∃p d,m=[.ref p]/\((bP X.K H p d/\∀l,H l=ae->Q (.ref l) (upd H l (.tup d)))\/(bR X.K H p d/\Q (.ref p) H))):=by
 intro v s j H m A Q I r h;obtain⟨p,d,rfl,h⟩:=h;obtain⟨u,rfl,x⟩:=vals1 r;cases x;rcases h with⟨hq,q⟩|⟨hq,q⟩
 .obtain⟨c,g,i,n⟩:=I.list hq;have B:=g.length;refine call_tuple_list i.isList (λf y=>?_) (by simp only[bJ] <;> lia);have w:Inv X v j H {s with heap:=f}:=I.kept (t':=s.toks) y;have z:Inv X v j (upd H f.objs.size (.tup d)) {s with heap:=f.push {cls:=.type "tuple",data:=.seq c.toArray}} :=w.laid (t':=s.toks) (λb o e=>bh _ e) (aZ _) (show ca X.prog X.w _ _ _ (.tup d)from⟨n,c,g,Fa.new _ _⟩);exact⟨.ref f.objs.size,_,z,rfl,q _ (w.hok.fresh (aZ _))⟩
 .obtain⟨c,g,i,n⟩:=I.tuple hq;exact call_tuple_same i ⟨.ref p,H,I,rfl,q⟩
def EV(K:ax)(T:String)(x:V)(H:Hp):Prop:=match x with
 |.str _=>T = "str"
 |.int _=>T = "int"
 |.ref p=>(T = "list"/\∃d,bP K H p d)\/(T = "tuple"/\∃o,K.lookup p=aa o/\o.cls=.type "tuple"/\o.dict=ae) \/
   (T = "dict"/\((∃c,H p=aa (.dK c))\/∃c,H p=aa (.dT c)))\/(T = "set"/\∃S n,H p=aa (.set S n))
 |_=>False
theorem IP{q:List (af×Obj)}{l:St}{H:Hp}{s:ao}{T:String}{x:V}{v:ah}(I:Inv X q l H s)(r:RelV x v)(ty:EV X.K T x H):s.TypeIs v T/\∀a,v=.ref a->∃j,s.heap.get? a=aa j/\j.dict=ae:=by
 cases x with
 |str z=>
  obtain⟨t,rfl⟩:=r;cases (show T = "str" from ty);exact⟨typeIs_str s z t,λ_ e=>nomatch e⟩
 |int i=>
  obtain⟨t,rfl⟩:=r;cases (show T = "int" from ty);exact⟨typeIs_int s i t,λ_ e=>nomatch e⟩
 |ref p=>
  cases r;rcases ty with⟨rfl,xs,hq⟩|⟨rfl,o,hk,hc,f⟩|⟨rfl,hk⟩|⟨rfl,S,n,hk⟩
  .obtain⟨m,_,h,_⟩:=I.list hq;refine⟨h.isList.typeIs,λa e=>?_⟩;cases e;obtain⟨o,n,e,c,f,_⟩:=h;exact⟨o,e,f⟩
  .refine⟨⟨o,I.kIn p o hk,hc⟩,λa e=>?_⟩;cases e;exact⟨o,I.kIn _ o hk,f⟩
  .have z:∃o,s.heap.get? p=aa o/\o.ExactDict:=by
    rcases hk with⟨kvs,hk⟩|⟨kvs,hk⟩
    .obtain⟨_,_,_,_,o,_,_,e,d,_⟩:=I.hok p _ hk;exact⟨o,e,d⟩
    .obtain⟨_,_,_,_,o,_,_,e,d,_⟩:=I.hok p _ hk;exact⟨o,e,d⟩
   obtain⟨o,e,d⟩:=z;refine⟨⟨o,e,d.1⟩,λa g=>?_⟩;cases g;exact⟨o,e,d.2.1⟩
  .obtain⟨o,_,_,_,e,d,_⟩:=I.hok p _ hk;refine⟨⟨o,e,d.1⟩,λa g=>?_⟩;cases g;exact⟨o,e,d.2.1⟩
 |_=>exact li ty
def IB(K:ax)(T:String)(r:V->List V->Hp->VK->Prop)(B:TE)(t:TA):TE:=λc H Q=>B c H λx d=>EV K T x d/\t c d λf g=>r x f g Q
variable{o e:az}{es:List az}{B:TE}{t:TA}{g:Str}{m d:Pos}{T C:String}{r:V->List V->Hp->VK->Prop}
theorem zI(K:PlainAttrs T)(c:Slot T g C)(L:typeOf (.builtin C)=pure (.type "method_descriptor"))(S:wJ X C r)(P:PE X o B)(W:PA X (e::es) t)(N:ni o g X.env (aM o X.env)=aM o X.env:=by rfl)(u:((dA d (aP (e::es) X.env)).all (λx=>!x.1)&&(qz d (qA [] X.env)).all (λx=>x.1.isSome)&&decide ((e::es).length+([]:List jH).length+(if([]:List jH).isEmpty then 0 else 1)<30))=ai:=by rfl)(M:(m.endLine == d.line)=ai:=by rfl) (O:aP (e::es) X.env=(aj,aM e X.env)::aP es X.env:=by rfl) (w:(dA d (aP es X.env)).any (·.1)=aj:=by rfl):PE X (.Call (.Attribute o g m) (e::es) [] d) (IB X.K T r B t):=by intro i s f H Q I h;refine wpAny_Call_method_late N u M rfl (aI (P i s f H _ I h) λv z ⟨x,H1,n,j,ty,J⟩=>?_);obtain⟨Z,Y⟩:=IP n j ty;refine⟨T,C,K,c,L,Z,Y,?_⟩;have l:=W d i z f H1 _ n J;rw[O]at l ⊢;refine Fp (by show(aj||(dA d (aP es X.env)).any (·.1))=aj;rw[w] <;> rfl) (Am ?_);exact aI l λq y ⟨p,H2,I2,A,G⟩=>S i y f H2 x p v q Q I2 j A G
end
def wI(X:Cx)(f:String)(r:V->List V->Hp->VK->Prop):Prop :=
 ∀(d:List (af×Obj)) (s:ao) (a:St) (H:Hp) (x:V) (b:List V) (v:ah) (c:List ah) (Q:VK),Inv X d a H s->RelV x v->bq b c->r x b H Q ->
  aq (aw X.prog X.w) X.A (call (.builtin f) (v::c)) (EP X d a Q) X.xe s
theorem bq.one:∀{x:V}{a:List ah},bq [x] a->∃u,a=[u]/\RelV x u
 |_,_,.cons r .nil=>⟨_,rfl,r⟩
section
variable{X:Cx}{d:List (af×Obj)}{a:St}{H:Hp}{s:ao}{l b:af}{g c i:List V}
theorem Inv.lset{h its':List ah}{n:Nat}{f:Array ah->Array ah}{j:Nat}(I:Inv X d a H s)(w:H l=aa (.lst g))(e:s.heap.get? l=aa {cls:=.type "list",data:=.seq h.toArray n}) (r:f h.toArray=its'.toArray) (o:bq c its') (m:c.length<=aX):Inv X d a (upd H l (.lst c)) {s with heap:=s.heap.update l (gk f),toks:=j}:=by have q:=PySem.IsL.update e f;rw[r]at q;refine I.write (x:=l) (e:=l) (by rw[w];exact trivial) (.inl rfl) (λy u v p=>(oW s.heap (gk f) (fF v)).trans p) ⟨_,q⟩ ?_;exact⟨m,its',_,o,q⟩
theorem Inv.lnew{its:List ah}{t':Nat}(I:Inv X d a H s)(h:bq c its)(f:c.length<=aX):Inv X d a (upd H s.heap.objs.size (.lst c)) {s with heap:=s.heap.push {cls:=.type "list",data:=.seq its.toArray},toks:=t'} :=I.laid (λ_ _ q=>bh _ q) (aZ _) ⟨f,its,0,h,cf _ rfl⟩
theorem Inv.fresh(I:Inv X d a H s):H s.heap.objs.size=ae:=I.hok.fresh (aZ _)
theorem Inv.lstM(I:Inv X d a H s)(h:H l=aa (.lst g)):g.length<=aX/\∃(f:List ah) (n:Nat),bq g f/\g.length=f.length/\s.heap.get? l=aa {cls:=.type "list",data:=.seq f.toArray n}:=by obtain⟨z,f,n,r,e⟩:=I.hok l _ h;exact⟨z,f,n,r,r.length,e⟩
theorem Na{n:Nat}(h:n<=aX):Fq n=aj:=by unfold Fq;exact decide_eq_false ∅
end
section
variable{X:Cx}
def Lq:V->List V->Hp->VK->Prop:=λx b H Q=>∃l a y,x=.ref l/\b=[y]/\H l=aa (.lst a)/\a.length<aX/\Q .non (upd H l (.lst (a++[y])))
theorem Dn:wI X "list.append" Lq:=by
 intro p s f H x i v j Q I b c h;obtain⟨l,g,y,rfl,rfl,a,m,q⟩:=h;cases b;obtain⟨u,rfl,d⟩:=c.one;obtain⟨z,its,n,r,o,e⟩:=I.lstM a;refine call_meets F.slot_list_append ⟨_,e,rfl⟩ F.entry_list_append (F.args_list_append_2 _ _) (PySem.list_append l its.toArray n u (by rw[bJ];lia)) ⟨e,?_⟩;refine⟨.non,_,I.lset (its':=its++[u]) a e (by simp) (r.append (.cons d .nil)) ?_,rfl,q⟩;rw[cK,qG];lia
theorem KR{b:Type}(a:List b)(k:Nat):(df k a).flatten.length=k*a.length:=by
 induction k with
 |zero=>simp
 |succ k c=>rw[Fs,List.flatten_cons,cK,c,oX,Nat.add_comm]
end
section
variable{κ:Type}[DecidableEq κ]
def eM(a:List (κ×V))(k:κ):Option V:=(a.find? λb=>decide (b.1=k)).map (·.2)
def iI(a:List (κ×V))(k:κ)(v:V):List (κ×V) :=if(a.any λb=>decide (b.1=k))=ai then a.map (λb=>if b.1=k then(b.1,v)else b)else a++[(k,v)]
theorem oJ{p:κ×V}{r:List (κ×V)}{k:κ}(e:p.1=k):eM (p::r) k=aa p.2:=by simp[eM,gR,e]
theorem ot{p:κ×V}{r:List (κ×V)}{k:κ}(e:¬p.1=k):eM (p::r) k=eM r k:=by simp[eM,gR,e]
theorem Ca(k:κ):∀a:List (κ×V),(a.any λb=>decide (b.1=k))=(eM a k).isSome
 |[]=>rfl
 |p::r=>by
  rw[qF];by_cases e:p.1=k
  .simp only[oJ e,decide_eq_true e,Bool.true_or,Option.isSome_some]
  .rw[ot e,decide_eq_false e,Bool.false_or];exact Ca k r
theorem EU(a:List (κ×V))(k:κ)(v:V):(iI a k v).length<=a.length+1:=by
 unfold iI;split
 .rw[dD];lia
 .rw[cK,dE,gT];lia
theorem l5.isSome_eq{o:Option V}{u:Option ah}(r:l5 o u):o.isSome=u.isSome:=by
 cases o with
 |none=>cases u with
  |none=>rfl
  |some _=>exact(show False from r).elim
 |some _=>cases u with
  |none=>exact(show False from r).elim
  |some _=>rfl
theorem l5.getD{o:Option V}{u:Option ah}{d:V}{a:ah}(r:l5 o u)(rd:RelV d a):RelV (o.getD d) (u.getD a):=by
 cases o with
 |none=>cases u with
  |none=>exact rd
  |some _=>exact(show False from r).elim
 |some _=>cases u with
  |none=>exact(show False from r).elim
  |some _=>exact r
theorem KV.val{a:List (κ×V)}{d:List (κ×ah)}(r:KV a d)(k:κ):l5 (eM a k) (qH d k):=by
 unfold KV at r
 induction r with
 |nil=>exact True.intro
 |@cons p q ps qs h t ih=>
  obtain⟨f,g⟩:=h;by_cases e:p.1=k
  .have c:q.1=k:=f.symm.trans e;have b:qH (q::qs) k=aa q.2:=by simp[qH,gR,c]
   rw[oJ e,b];exact g
  .have c:¬q.1=k:=λz=>e (f.trans z);have b:qH (q::qs) k=qH qs k:=by simp[qH,gR,c]
   rw[ot e,b];exact ih
theorem KV.any{a:List (κ×V)}{c:List (κ×ah)}(r:KV a c)(k:κ):(a.any λb=>decide (b.1=k))=c.any λb=>decide (b.1=k):=by
 unfold KV at r
 induction r with
 |nil=>rfl
 |cons h t d=>rw[qF,qF,d,h.1]
theorem KV.repl{b:List (κ×V)}{d:List (κ×ah)}(r:KV b d)(k:κ){y:V}{u:ah}(f:RelV y u):KV (b.map λa=>if a.1=k then(a.1,y)else a) (d.map λa=>if a.1=k then(a.1,u)else a):=by
 unfold KV at r ⊢
 induction r with
 |nil=>exact .nil
 |@cons p q ps qs h t ih=>
  rw[dO,dO];refine .cons ?_ ih;obtain⟨c,g⟩:=h;by_cases e:p.1=k
  .rw[if_pos e,if_pos (c.symm.trans e)];exact⟨c,f⟩
  .rw[if_neg e,if_neg (λz=>e (c.trans z))];exact⟨c,g⟩
theorem KV.put{a:List (κ×V)}{b:List (κ×ah)}(r:KV a b)(k:κ){y:V}{u:ah}(c:RelV y u):KV (iI a k y) (stored b k u):=by
 unfold iI stored;rw[r.any k];by_cases e:(b.any λd=>decide (d.1=k))=ai
 .rw[if_pos e,if_pos e];exact r.repl k c
 .rw[if_neg e,if_neg e];exact wY r ⟨rfl,c⟩
theorem KV.length{a:List (κ×V)}{vs:List (κ×ah)}(r:KV a vs):a.length=vs.length:=wM r
end
theorem wG{P:aL}{w:aE}{k:aR}{u:ah}(r:RelV (kV k) u):(h_ P w).is k u=ai:=by
 cases k with
 |inl i=>obtain⟨t,e⟩:=(show ∃t,u=Value.int i t from r);subst e;exact GO P w i t
 |inr x=>obtain⟨t,e⟩:=(show ∃t,u=Value.str x t from r);subst e;exact IN P w x t
theorem B5{P:aL}{w:aE}:∀{ks:List aR}{a:List ah},bq (ks.map kV) a->ItemsAre (h_ P w) ks a
 |[],_,r=>by rw[wZ]at r;cases r;exact .nil
 |k::ks,_,r=>by
  rw[dO]at r;cases r with
  |cons h t=>exact .cons (wG h) (B5 t)
abbrev KT(H:Hp):List (List aR×V)->List (List aR×af×ah)->Prop:=iK λp q=>p.1=q.1/\H q.2.1=aa (.tup (p.1.map kV))/\RelV p.2 q.2.2
theorem KT.val{H:Hp}{a:List (List aR×V)}{xs:List (List aR×af×ah)}(r:KT H a xs)(k:List aR):l5 (eM a k) ((atKey xs k).map (·.2)):=by
 induction r with
 |nil=>exact True.intro
 |@cons p q ps qs h t ih=>
  obtain⟨d,_,f⟩:=h;by_cases e:p.1=k
  .have c:q.1=k:=d.symm.trans e;have b:atKey (q::qs) k=aa q.2:=by simp[atKey,gR,c]
   rw[oJ e,b];exact f
  .have c:¬q.1=k:=λz=>e (d.trans z);have b:atKey (q::qs) k=atKey qs k:=by simp[atKey,gR,c]
   rw[ot e,b];exact ih
theorem KT.repl{H:Hp}{a:List (List aR×V)}{d:List (List aR×af×ah)}(r:KT H a d)(k:List aR){y:V}{u:ah}(g:RelV y u):KT H (a.map λc=>if c.1=k then(c.1,y)else c) (d.map (putAt k u)):=by
 induction r with
 |nil=>exact .nil
 |@cons p q ps qs h t ih=>
  rw[dO,dO];refine .cons ?_ ih;obtain⟨b,f,i⟩:=h;unfold putAt;by_cases e:p.1=k
  .rw[if_pos e,if_pos (b.symm.trans e)];exact⟨b,f,g⟩
  .rw[if_neg e,if_neg (λz=>e (b.trans z))];exact⟨b,f,i⟩
theorem KT.put{H:Hp}{a:List (List aR×V)}{c:List (List aR×af×ah)}(r:KT H a c)(k:List aR){b:af}{y:V}{u:ah}(g:H b=aa (.tup (k.map kV)))(d:RelV y u):KT H (iI a k y) (storedH c k b u):=by
 have e:(a.any λf=>decide (f.1=k))=(atKey c k).isSome:=by rw[Ca,(r.val k).isSome_eq,Ft]
 unfold iI storedH;rw[e];by_cases q:(atKey c k).isSome=ai
 .rw[if_pos q,if_pos q];exact r.repl k d
 .rw[if_neg q,if_neg q];exact wY r ⟨rfl,g,d⟩
theorem KT.keeps{H f:Hp}{a:List (List aR×V)}{d:List (List aR×af×ah)}(r:KT H a d)(g:∀b c,H b=aa (.tup c)->f b=aa (.tup c)):KT f a d :=Paired.mapP r λ_ _ z=>⟨z.1,g _ _ z.2.1,z.2.2⟩
section
variable{P:aL}{w:aE}{H:Hp}{h:aB}{a:af}
theorem D8{u:HO}(ok:cM P w H h)(e:Rd H a u):ca P w H h a u:=e.ok ok
theorem tf{b:List (aR×V)}(ok:cM P w H h)(e:Rd H a (.dK b)):b.length<=aX/\(a == ip)=aj/\∃c,KV b c/\h.DictOf (h_ P w) a c :=show ca P w H h a (.dK b)from D8 ok e
theorem Mg{b:List (aR×V)}(ok:cM P w H h)(e:H a=aa (.dK b)):b.length<=aX/\(a == ip)=aj/\∃c,KV b c/\h.DictOf (h_ P w) a c:=tf ok (.inl e)
theorem wg{ks:List aR}(ok:cM P w H h)(e:H a=aa (.tup (ks.map kV))):(tj (h_ P w)).is h ks a:=by
 obtain⟨_,b,r,⟨o,f,d,n,c⟩,_⟩:=(show ca P w H h a (.tup (ks.map kV))from ok a _ e)
 exact⟨o,b.toArray,n,f,d,c,by simpa using B5 r⟩
theorem sO{b:List (List aR×V)}(ok:cM P w H h)(e:Rd H a (.dT b)):b.length<=aX/\(a == ip)=aj /\ ∃d,KT H b d/\h.DictOfH (tj (h_ P w)) a d:=by
 obtain⟨z,y,d,r,o,s,u,n,j,i,g,f⟩:=(show ca P w H h a (.dT b)from D8 ok e)
 refine⟨z,y,d,r,o,s,u,n,j,i,g,λx c=>?_,f⟩;have all:∀{l:List (List aR×V)}{m:List (List aR×af×ah)},KT H l m->∀x∈m,(tj (h_ P w)).is h x.1 x.2.1:=by
  intro l m q
  induction q with
  |nil=>intro x c;exact nomatch c
  |@cons p q ps qs hq t ih=>
   intro x c;rcases br.mp c with e|c
   .subst e;exact wg ok (by rw[<-hq.1];exact hq.2.1)
   .exact ih x c
 exact all r x c
theorem G7{b:List (List aR×V)}(ok:cM P w H h)(e:H a=aa (.dT b)):b.length<=aX/\(a == ip)=aj /\ ∃c,KT H b c/\h.DictOfH (tj (h_ P w)) a c:=sO ok (.inl e)
end
def pV(H:Hp)(a:af)(y:V)(r:Option V):Prop :=(∃c k,Rd H a (.dK c)/\y=kV k/\r=eM c k)\/∃c k b,Rd H a (.dT c)/\y=.ref b/\H b=aa (.tup (k.map kV))/\r=eM c k
def z9(H:Hp)(a:af)(y v:V)(d:Hp):Prop :=
 (∃c k,H a=aa (.dK c)/\y=kV k/\c.length<aX/\d=upd H a (.dK (iI c k v))) \/
 ∃c k b,H a=aa (.dT c)/\y=.ref b/\H b=aa (.tup (k.map kV))/\c.length<aX/\d=upd H a (.dT (iI c k v))
theorem pV.t{H:Hp}{a b:af}{c:List (List aR×V)}{k:List aR}(e:H a=aa (.dT c))(d:H b=aa (.tup (k.map kV))):pV H a (.ref b) (eM c k):=.inr ⟨c,k,b,.inl e,rfl,d,rfl⟩
theorem z9.t{H:Hp}{a b:af}{c:List (List aR×V)}{k:List aR}{v:V}(e:H a=aa (.dT c))(f:H b=aa (.tup (k.map kV)))(d:c.length<aX):z9 H a (.ref b) v (upd H a (.dT (iI c k v))):=.inr ⟨c,k,b,e,rfl,f,d,rfl⟩
section
variable{X:Cx}{f:List (af×Obj)}{d:St}{H:Hp}{s:ao}{a:af}{y v:V}{u r:ah}{o:Option V}{A:aS}{E:ah->ao->Prop}
theorem Inv.big(I:Inv X f d H s):ip<s.heap.objs.size:=by have h:cn<s.heap.objs.size:=(I.mod.glob.keeps I.bk).lt;exact An (by decide) h
theorem Ky{Q:ah->ao->Prop}(C:A.units+1<cLine)(I:Inv X f d H s)(g:pV H a y (aa v))(w:RelV y u)(h:∀j q,Inv X f d H q->RelV v j->Q j q):aq (aw X.prog X.w) A (oU (.ref a) u) Q E s:=by
 rcases g with⟨kvs,k,e,ey,l⟩|⟨kvs,k,b,e,ey,eb,l⟩
 .subst ey;obtain⟨z,F,B,i,n⟩:=tf I.hok e;obtain⟨j,m,c⟩:=l5.some_of (v:=v) (o:=qH B k) (by rw[l];exact i.val k);exact wpAny_getItem_of (wG w) n.mapOf m (h j _ (I.tok _) c)
 .subst ey;cases (show u=Value.ref b from w);obtain⟨z,F,x,i,n⟩:=sO I.hok e;obtain⟨j,m,c⟩:=l5.some_of (v:=v) (o:=(atKey x k).map (·.2)) (by rw[l];exact i.val k);obtain⟨p,D,G⟩:=ma.mp m;refine wpAny_getItem_heap (Fu C) (wg I.hok eb) n D ?_;rw[G];exact h j _ (I.tok _) c
theorem xZ{c:aB}{g:Nat}{ob:HO}(I:Inv X f d H s)(h:r_ (H a))(i:jF a s.heap c)(j:∃q,c.get? a=aa q)(new:ca X.prog X.w (upd H a ob) c a ob):Inv X f d (upd H a ob) {s with heap:=c,toks:=g} :=I.write (x:=a) (e:=a) h (.inl rfl) (λb q l z=>(i.2 b l).trans z) j new
theorem G8{P:aL}{w:aE}{l:Hp}{h:aB}{b:List (aR×V)}{c:List (aR×ah)}(z:b.length<=aX)(i:(a == ip)=aj)(g:KV b c)(j:h.DictOf (h_ P w) a c):ca P w l h a (.dK b):=⟨z,i,c,g,j⟩
theorem IY{K:Hp}{Q:Unit->ao->Prop}(N:A.units+1<cLine)(I:Inv X f d H s)(g:z9 H a y v K)(D:RelV y u)(F:RelV v r)(h:∀C,Inv X f d K C->Q () C):aq (aw X.prog X.w) A (setItem (.ref a) u r) Q E s:=by
 rcases g with⟨kvs,k,e,ey,l,eH⟩|⟨kvs,k,b,e,ey,eb,l,eH⟩
 .subst ey eH;obtain⟨z,x,M,i,B⟩:=Mg I.hok e;have n:M.length<=aX:=by rw[<-i.length];exact z
  have w:(iI kvs k v).length<=aX:=by have:=EU kvs k v;lia
  refine wpAny_setItem_pairs (hsz:=n) (wG D) B λG j p=>h _ ?_;have O:∃q,G.get? a=aa q:=let ⟨q,_,_,m,_⟩:=j;⟨q,m⟩
  exact xZ I (by rw[e];exact True.intro) p O (G8 w x (i.put k F) j)
 .subst ey eH;cases (show u=Value.ref b from D);obtain⟨z,x,L,i,B⟩:=G7 I.hok e;have n:L.length<=aX:=by rw[<-wM i];exact z
  have w:(iI kvs k v).length<=aX:=by have:=EU kvs k v;lia
  refine wpAny_setItem_heap (hsz:=n) (Fu N) (wg I.hok eb) B λG j p=>h _ ?_;obtain⟨q,Y,Z,m,W,T,S,_,P⟩:=j;refine xZ I (by rw[e];exact True.intro) p ⟨q,m⟩ ⟨w,x,_,(i.put k eb F).keeps λc ys J=>?_,q,Y,Z,m,W,T,S,P⟩;rw[bj (u5 J e (λz=>nomatch z))];exact J
end
def sv(i:az):Prop:=∀ov a,Ak i aj ov a=operate [ov,a] (oU ov a)
theorem EH{a:aL}{w:aE}{A:aS}{E:ah->ao->Prop}{s:ao}{m:Env}{c b:az}{q:Pos}{T v:String}{Q:ah->ao->Prop}(z:typeLookup (.type T) "__getitem__"=pure (aa (.builtin v))) (y:sv b)(h:aq (aw a w) A (aM c m) (λo j=>aq (aw a w) A (aM b m) (λi d=>d.TypeIs o T/\aq (aw a w) A (oU o i) Q E d) E j) E s):aq (aw a w) A (aM (.Subscript c b q) m) Q E s:=by
 refine Subscript_ (eP h (λo j p=>eP p (λi d f=>?_) λ_ _ x=>x) λ_ _ x=>x);obtain⟨u,f⟩:=f;unfold subscriptTail;refine ap ?_;rw[getitemInPython_of_ne u.not_modules];refine ap (w6 u z ?_);have l:aq (aw a w) A (Ak b aj o i) (λr g=>aq (aw a w) A (letTemporaryGo c o r >>= λ_=>pure r) Q E g) E d:=by rw[y o i];exact wpAny_operating (eP f (λr g n=>ap (wpAny_letTemporaryGo (aC n))) λ_ _ x=>x)
 first
  |exact aC (ap l)
  |exact ap (aC (ap l))
  |exact ap l
theorem Kn{X:Cx}{f:List (af×Obj)}{d:St}{H:Hp}{s:ao}{a:af}{y:V}{o:Option V}(I:Inv X f d H s)(g:pV H a y o):s.TypeIs (.ref a) "dict":=by
 rcases g with⟨kvs,k,e,_,_⟩|⟨kvs,k,b,e,_,_,_⟩
 .obtain⟨_,_,i,_,c⟩:=tf I.hok e;exact c.typeIs
 .obtain⟨_,_,h,_,c⟩:=sO I.hok e;exact c.typeIs
def Cc(d ty:TE):TE:=λb H Q=>d b H λx f=>ty b f λy c=>∃a v,x=.ref a/\pV c a y (aa v)/\Q v c
def Iv(f ty d:TE):TS:=λD b H=>d b H λv i=>f b i λx h=>ty b h λy g=>∃a c,x=.ref a/\z9 g a y v c/\D.nx b c
section
variable{X:Cx}{o i e b:az}{d c l:Pos}{f ty j:TE}
theorem Gx(C:X.A.units+1<cLine)(E:PE X o f)(F:PE X i ty)(D:sv i):PE X (.Subscript o i d) (Cc f ty):=by intro p s n H Q I h;refine EH PySem.F.slot_dict_getitem.lookup D (aI (E p s n H _ I h) λu r ⟨x,M,K,z,B⟩=>aI (F p r n M _ K B) λS P ⟨y,L,q,w,a,v,G,g,A⟩=>?_);subst G;obtain rfl:u=Value.ref a:=z;exact⟨Kn q g,Ky C q g w λN O J m=>⟨v,L,J,m,A⟩⟩
theorem HJ(G:X.A.units+1<cLine)(K:PE X o f)(L:PE X i ty)(F:PE X b j)(J:iM b (aa (.Subscript o i c)) d.line X.env=pure aj):PS X (.Assign [.Subscript o i c] b d) (Iv f ty j):=by intro n s m H D I h;refine wpAny_Assign_Subscript (aI (F n s m H _ I h) λr q ⟨v,W,Q,A,E⟩=>aI (K n q m W _ Q E) λu p ⟨x,T,P,z,C⟩=>aI (L n p m T _ P C) λiv Z ⟨y,H3,O,w,a,S,M,g,B⟩=>?_) J;subst M;obtain rfl:u=Value.ref a:=z;exact IY G O g w A λY N=>⟨m,S,N,B⟩
end
theorem Dh{P:aL}{w:aE}{H:Hp}(h:aB)(a:ip<h.objs.size):ca P w H (h.push {cls:=.type "dict",data:=.dict #[]}) h.objs.size (.dT []) :=⟨j9 _,beq_eq_false_iff_ne.mpr (fF (cT a)),[],.nil,_,#[],0,cf _ rfl,⟨rfl,rfl,rfl⟩,rfl,rfl,List.nodup_nil⟩
def J1:TE:=λ_ H Q=>∀p,H p=ae->Q (.ref p) (upd H p (.dT []))
section
variable{X:Cx}{b:Pos}
theorem N9:PE X (.Dict [] [] b) J1:=λd s c H Q I h=>wpAny_Dict_empty ⟨.ref s.heap.objs.size,_,I.laid (a:=s.heap.objs.size) (o:=.dT []) (t':=s.toks) (λ_ _ q=>bh _ q) (aZ _) (Dh s.heap I.big),rfl,h _ (I.hok.fresh (aZ _))⟩
end
abbrev VV:List (V×V)->List (ah×ah)->Prop:=iK λp q=>RelV p.1 q.1/\RelV p.2 q.2
structure M1(X:Cx)(o:az)(m:Str)(apos:Pos)(e:az)(cpos:Pos):Prop where
 base:ni o m X.env (aM o X.env)=aM o X.env
 few:((dA cpos (aP [e] X.env)).all (λx=>!x.1)&&(qz cpos (qA [] X.env)).all (λx=>x.1.isSome)&&decide (([e]:List az).length+([]:List jH).length+(if([]:List jH).isEmpty then 0 else 1)<30))=ai
 line:(apos.endLine == cpos.line)=ai
 trees:dA cpos (aP [e] X.env)=[(aj,aM e X.env)]
def B1(H:Hp)(a:af):Prop:=(∃b,Rd H a (.dK b))\/∃b,Rd H a (.dT b)
theorem LR{X:Cx}{l:List (af×Obj)}{j:St}{H:Hp}{s:ao}{a:af}(I:Inv X l j H s)(d:B1 H a):s.TypeIs (.ref a) "dict"/\(∀b,Value.ref a=.ref b->∃c,s.heap.get? b=aa c/\c.dict=ae)/\(a == ip)=aj:=by
 rcases d with⟨kvs,e⟩|⟨kvs,e⟩
 .obtain⟨_,g,n,_,f⟩:=tf I.hok e;refine⟨f.typeIs,λb q=>?_,g⟩;cases q;obtain⟨c,_,_,i,h,_⟩:=f;exact⟨c,i,h.2.1⟩
 .obtain⟨_,g,m,_,f⟩:=sO I.hok e;refine⟨f.typeIs,λb q=>?_,g⟩;cases q;obtain⟨c,_,_,i,h,_⟩:=f;exact⟨c,i,h.2.1⟩
section
variable{X:Cx}{f:List (af×Obj)}{c:St}{H:Hp}{s:ao}{a:af}{y d:V}{u r:ah}{o:Option V}{A:aS}{E:ah->ao->Prop}
theorem LB{Q:ah->ao->Prop}(w:A.units+1<cLine)(I:Inv X f c H s)(g:pV H a y o)(q:RelV y u)(h:∀n p,Inv X f c H p->RelV (o.getD .non) n->Q n p):aq (aw X.prog X.w) A (call (.builtin "dict.get") [.ref a,u]) Q E s:=by
 rcases g with⟨kvs,k,e,ey,l⟩|⟨kvs,k,b,e,ey,eb,l⟩
 .subst ey;obtain⟨z,m,x,i,j⟩:=tf I.hok e;refine call_meetsIn Fv j.typeIs PySem.F.entry_dict_get (PySem.F.args_dict_get_2 _ _) (meets_dict_get (h_ X.prog X.w) a (wG q) m) ⟨_,j.mapOf,h _ _ (I.tok _) ?_⟩;rw[l];exact(i.val k).getD rfl
 .subst ey;cases (show u=Value.ref b from q);obtain⟨z,m,v,i,j⟩:=sO I.hok e;refine call_meetsIn Fv j.typeIs PySem.F.entry_dict_get (PySem.F.args_dict_get_2 _ _) (meetsH_dict_get (tj (h_ X.prog X.w)) a b m) ⟨Fu w,k,v,wg I.hok eb,j,h _ _ (I.tok _) ?_⟩;rw[l];exact(i.val k).getD rfl
end
def Hs(f ty:TE):TE:=λb H Q=>f b H λx d=>∃a,x=.ref a/\B1 d a/\ty b d λy c=>∃o,pV c a y o/\Q (o.getD .non) c
section
variable{X:Cx}{o e f:az}{c b:Pos}{i ty j:TE}
theorem Mj(D:X.A.units+1<cLine)(E:PE X o i)(F:PE X e ty)(m:M1 X o "get" c e b):PE X (.Call (.Attribute o "get" c) [e] [] b) (Hs i ty):=by intro p s n H Q I h;refine wpAny_Call_method m.base m.few m.line PySem.F.plainAttrs_dict Fv PySem.F.type_dict_get (aI (E p s n H _ I h) λu w ⟨x,M,q,A,a,G,d,C⟩=>?_);subst G;obtain rfl:u=Value.ref a:=A;obtain⟨v,r,_⟩:=LR q d;refine⟨v,r,?_⟩;rw[m.trees];refine Fp rfl (Am (tu (aI (F p w n M _ q C) λS P ⟨y,L,K,z,ov,g,B⟩=>wT ?_)));exact LB D K g z λN O J l=>⟨_,L,J,l,B⟩
end
end L2
namespace Att
open PySem PySem.W PySem.Calls PyProof.Rows
theorem NO{P:Params}{h:aB}:∀(c:List Int) (d:List ah),WellAll P h d (c.map WData.int)->IntsAre d c:=by
 intro c
 induction c with
 |nil=>
  intro d w;rw[wZ]at w;cases w;exact .nil
 |cons n c f=>
  intro d w;rw[dO]at w;cases w with
  |cons a b=>
   cases a;exact .cons _ _ (f _ b)
theorem OQ{l:OpenLaw}{n:Nat}(w:l.most=aa n){P:Params}{h:aB}{args:List WData}{c:List ah}(m:l.row.toRowW.claim.pre args=ai) (i:WellAll P h c args):∃a j b,c=[Value.ref a]/\args=[WData.list (b.map WData.int)]/\h.get? a=aa {cls:=.type "list",data:=.seq j.toArray}/\IntsAre j b/\b.length<=n:=by
 have B:WShape.hasAll [] args [.list .int]=ai:=(pre_splitW m).1;have o:l.pre.holds [] {args:=args}=ai:=(pre_splitW m).2;obtain⟨d,r,rfl,z,y⟩:=hasAllW_cons B;obtain rfl:=hasAllW_nil y;obtain⟨D,rfl,x⟩:=hasW_list z;obtain⟨b,rfl⟩:=items_int x;have C:b.length<=n:=by
  unfold OpenLaw.pre at o;have g:(WTm.not (.lt (.lit (.int (n:Int))) (.len (.arg 0)))).holds [] {args:=[.list (b.map .int)]}=ai:=by have g:=(holds_andW o).1;rw[w]at g;exact g
  have f:=condW_of g (w_not (w_lt w_lit (w_len_list (w_arg rfl))));rw[dD]at f;refine Nat.le_of_not_lt λq=>?_;have u:(n:Int)<((b.length:Nat):Int):=∅
  first
   | (rw[decide_eq_true u]at f;exact absurd f (by decide))
   | (simp at f;lia)
 cases i with
 |cons s p=>
  cases p;cases s with
  |list v A=>exact⟨_,_,b,rfl,rfl,v,NO b _ A,C⟩
theorem Lu(l:OpenLaw)(args:List WData):l.row.toRowW.claim.post args (.bool ai) args=ai :=
 postW_of (r:=l.row.toRowW) (X:=(ai == ai))
  (show WShape.has [] (.bool ai) .bool=ai by first|rfl|decide|simp[WShape.has,WShape.arms,WShape.armsAll])
  (show(WTm.eq .res (.lit (.bool ai))).value [] {args:=args,res:=aa (.bool ai),after:=args}=aa (.bool (ai == ai))from w_eq_bool (w_res rfl) w_lit) rfl
theorem attach_call{l:OpenLaw}{n:Nat}{q:aL}{g:List Str}{XP:(Str->Option ah)->aB->Prop}{D:aE->aB->Prop}{d:DefRec}(L:l.most=aa n) (H:d.params.defaults=[])(call:∀(w:aE) (c b:ao) (s x:Str->Option ah) (j:af) (o:Obj) (v u h:ah) (a:af) (i:List ah) (p:List Int),Ground q g [] XP w c s x b.heap->D w b.heap -> b.heap.get? j=aa o->o.data=.func (docDef d.name d.params d.body d.scope v u h)->b.heap.CodeRec u d.name->s d.name=aa (.ref j) -> b.heap.get? a=aa {cls:=.type "list",data:=.seq i.toArray}->IntsAre i p->p.length<=n->b.gens=#[] -> mZ (aw l.prog w) qI (.call (.ref j) ⟨[.ref a],[]⟩) (λr m=>r=.ok (.ret (.bool ai))/\OldK b.heap m.heap/\m.os=b.os/\l7 m.gens) b):WalkO q g XP D l.row.toRowW d [] (λf i=>PySem.call f i):=by intro w c b s x G Y j o v u h dV kV K P W B E O C z as F A I y N;obtain rfl:dV=.none:=Dflts.none B H;obtain rfl:kV=.none:=Dflts.noKw B;obtain⟨a,i,p,rfl,rfl,A0,Z,X⟩:=OQ L F y;refine enter_call (wU (call w c b s x j o v u h a i p G Y K (fd_plain P) W E A0 Z X O) λr m J=>?_);obtain⟨rfl,T,S,Q⟩:=J;exact⟨.inl ⟨.bool ai,.bool ai,[],rfl,λ_=>rfl,.bool ai,Lu l _,λ_=>⟨List.Pairwise.nil,λ_ M=>(nomatch M)⟩⟩,T,S,Q⟩
end Att
namespace L2
theorem Bp:∀{a:List ah}{b:List Int},IntsAre a b->bq (b.map V.int) a
 |_,_,.nil=>.nil
 |_,_,.cons n t h=>.cons ⟨t,rfl⟩ (Bp h)
def zC(H:Hp):Prop:=∀b,H b=ae\/(∃o a,H b=aa (.frz o (.lst a)))\/∃q,H b=aa (.tbl q)
def i_(K:ax):Hp:=λb=>match j7 K "least_ending" with
 |some (_,P)=>if b=P then aa (.tbl "least_ending.<locals>.<lambda>")else ae
 |none=>ae
theorem oA{K:ax}{b:af}{u:HO}(h:i_ K b=aa u):u=.tbl "least_ending.<locals>.<lambda>"/\∃c,j7 K "least_ending"=aa (c,b):=by
 unfold i_ at h;split at h
 .rename_i c P e;split at h
  .rename_i a;subst a;cases h;exact⟨rfl,c,e⟩
  .cases h
 .cases h
theorem B6{K:ax}{c P:af}(h:j7 K "least_ending"=aa (c,P)):i_ K P=aa (.tbl "least_ending.<locals>.<lambda>"):=by unfold i_;rw[h];exact if_pos rfl
def BH(K:ax)(h:aB):Prop:=∀c P,j7 K "least_ending"=aa (c,P)->w8 K c P=ai/\K.lookup P=ae/\h.get? P=aa {cls:=.none,data:=.fields #[]}
theorem Lk{P:aL}{w:aE}{K:ax}{L mb:Str->Option ah}{CX:fK}{k:Nat}{fa a:af}{fd:gw}{x:Str}{sp:Sp}{f:ao}{G:List ah}{M:List Int}(KX:K.In f.heap) (kn:f.heap.Ns cn L) (j:f.heap.Ns mU mb) (ko:∀x:Str,x≠"__name__"->mb x=dW x) (N:f.heap.NoLimit) (hbm:∃E B,L "__builtins__"=aa (.ref E)/\E≠mU/\f.heap.get? E=aa B/\B.cls=.type "module"/\B.dict=aa mU/\B.data=.plain) (C:BH K f.heap) (hg:f.gens=#[])(y:f.heap.get? a=aa {cls:=.type "list",data:=.seq G.toArray}) (hi:IntsAre G M) (hl:M.length<=aX) (hr:Room k qI)(F:∀p:aB,K.In p->p.Ns cn L->jU P w K L p CX k fa fd [x] sp) (Pt:∀(s:ao) (u:ah),BindsTo s fd ⟨[u],[]⟩ [(x,u)])(lA:∀H:Hp,zC H->bP K H a (M.map V.int)->sp [.ref a] H (λv _=>v=.bl ai) λ_ _ _=>False)(hCX:∀H e l,CX [] H f (λ_ _ _=>False) e l->False):mZ (aw P w) qI (.call (.ref fa) ⟨[.ref a],[]⟩) (λr l=>r=.ok (.ret (.bool ai))/\OldK f.heap l.heap/\l.os=f.os/\l7 l.gens) f:=by
 have rv:=Bp hi;have lenV:=hi.length;have D:∀H:Hp,zC H->bP K H a (M.map V.int)->cM P w H f.heap->(∀b,H b≠ae->b=a\/∃c,j7 K "least_ending"=aa (c,b))->(H a≠ae->K.lookup a=ae)->uZ K H ->
   mZ (aw P w) qI (.call (.ref fa) ⟨[.ref a],[]⟩) (λr l=>r=.ok (.ret (.bool ai))/\OldK f.heap l.heap/\l.os=f.os/\l7 l.gens) f:=by
  intro H hO hS I X hK hTH;have g:∀{b:af}{o:Obj},f.heap.get? b=aa o->H b=ae->(lR f.heap H).get? b=aa o:=λe n=>Kr e n;have noA:∀{b:af}{o:Obj}{Q:Array tD}{S:Nat},f.heap.get? b=aa o->o.data=.dict Q S->H b=ae:=λ{b o Q S} e d=>by
   cases q:H b with
   |none=>rfl
   |some u=>
    rcases X b (by rw[q];simp)with i|⟨c,i⟩
    .subst i;rw[y]at e;cases e;have d':Data.seq G.toArray _=Data.dict Q S:=d;cases d'
    .rw[(C c b i).2.2]at e;cases e;cases d
  have A:∀{b:af}{m:Str->Option ah},f.heap.Ns b m->(lR f.heap H).Ns b m:=λ{b m} ⟨o,Q,S,e,d,r⟩=>⟨o,Q,S,g e (noA e d),d,r⟩
  have O:K.In (lR f.heap H):=λb o e=>g (KX b o e) (by
   cases q:H b with
   |none=>rfl
   |some u=>
    rcases X b (by rw[q];simp)with i|⟨c,i⟩
    .subst i;rw[hK (by rw[q];simp)]at e;cases e
    .rw[(C c b i).2.1]at e;cases e)
  have hM:Mod K L (lR f.heap H):=⟨O,A kn,⟨mb,A j,ko⟩,(let ⟨mc,h1,h2⟩:=N;⟨mc,A h1,h2⟩),by
   obtain⟨E,B,b1,b2,W,b4,b5,b6⟩:=hbm;refine⟨E,B,b1,b2,g W ?_,b4,b5,b6⟩;cases q:H E with
   |none=>rfl
   |some u=>
    rcases X E (by rw[q];simp)with i|⟨c,i⟩
    .subst i;rw[y]at W;cases W;simp at b4
    .rw[(C c E i).2.2]at W;cases W;simp at b4⟩
  have e0:vy P w K L (lR f.heap H) qI [] f H:=⟨rfl,hM,λb o e=>Pe e,ln (Gt _ _),trivial,λb j=>absurd (show b∈([]:List af)from j) (by simp),I,.of_eq hg,hTH⟩
  refine wU ((F _ O (A kn)).run qI [] f H ⟨[.ref a],[]⟩ [.ref a] [.ref a] _ _ hr e0 (Pt f (.ref a)) (.cons rfl .nil) (lA H hO hS)) λr l h=>?_;cases r with
  |error e=>exact(hCX H e l h).elim
  |ok fl=>
   cases fl with
   |next=>exact li h
   |brk=>exact li h
   |cont=>exact li h
   |ret u=>
    obtain⟨v,H',os,T,un,Gh,r',q⟩:=h;have q':v=.bl ai:=q;subst q';obtain rfl:u=Value.bool ai:=r';refine⟨rfl,⟨λb o e=>?_,λb o e=>un.there b o e (by simp)⟩,os,T⟩;cases q:H b with
    |none=>exact .inl (un.keep b o e q (by intro z;exact absurd (show b∈([]:List af)from z) (by simp)) (by simp))
    |some u=>
     rcases hO b with z|⟨B,xs,z⟩|⟨qn,z⟩
     .rw[q]at z;cases z
     .have z2:=un.frzs b B _ z;obtain⟨J,_⟩:=I b _ z;obtain⟨e2,_⟩:=Gh b _ z2;rw[e]at J;cases J;exact .inl e2
     .rcases X b (by rw[q];simp)with i|⟨c,i⟩
      .subst i;obtain⟨ps,J,_⟩:=I b _ z;rw[y]at J;cases J
      .obtain⟨k1,k2,k3⟩:=C c b i;rw[k3]at e;cases e;obtain⟨oc,Y,_,_,_,_,_,_,_,f1,f2,f3,f4,_⟩:=PySem.W.codeHd_of_K KX k1;obtain⟨ps,J,_⟩:=Gh b _ (un.tbls b _ z);exact .inr (.inl ⟨⟨c,oc,Y,f1,f2,f3,f4⟩,rfl,#[],ps,rfl,by rw[J];simp⟩)
 cases hk:K.lookup a with
 |some o=>
  have e:=KX a o hk;rw[y]at e;cases e;have tH:∀b u,i_ K b=aa u->ca P w (i_ K) f.heap b u:=λb u z=>by
   obtain⟨rfl,c,e⟩:=oA z;exact⟨#[],(C c b e).2.2,trivial,λZ cv h=>by cases h⟩
  refine D (i_ K) (λb=>?_) (.inr ⟨_,G.toArray,_,hk,rfl,rfl,rfl,by rw[bJ,lenV];exact hl,by simpa using rv⟩) tH (λb z=>?_) (λz=>?_) λx hx c P e=>?_
  .cases q:i_ K b with
   |none=>exact .inl rfl
   |some u=>exact .inr (.inr ⟨_,congrArg aa (oA q).1⟩)
  .cases q:i_ K b with
   |none=>exact absurd q z
   |some u=>exact .inr (oA q).2
  .cases q:i_ K a with
   |none=>exact absurd q z
   |some u=>
    obtain⟨_,c,i⟩:=oA q;rw[(C c a i).2.2]at y;cases y
  .obtain rfl:x = "least_ending":=by simpa[sS]using hx
   exact B6 e
 |none=>
  have ta:∀c P,j7 K "least_ending"=aa (c,P)->P≠a:=λc P e z=>by subst z;rw[(C c P e).2.2]at y;cases y
  refine D (λb=>if b=a then aa (.frz {cls:=.type "list",data:=.seq G.toArray} (.lst (M.map V.int)))else i_ K b) (λb=>?_) (.inl (.inr ⟨{cls:=.type "list",data:=.seq G.toArray},if_pos rfl⟩)) (λb u z=>?_) (λb z=>?_) (λ_=>hk) λx hx c P e=>?_
  .by_cases j:b=a
   .exact .inr (.inl ⟨_,_,if_pos j⟩)
   .cases q:i_ K b with
    |none=>exact .inl ((if_neg j).trans q)
    |some u=>exact .inr (.inr ⟨_,(if_neg j).trans (q.trans (congrArg aa (oA q).1))⟩)
  .by_cases j:b=a
   .have z':=(if_pos j).symm.trans z;cases z';subst j;exact⟨y,by rw[dD];exact hl,G,_,rv,y⟩
   .obtain⟨rfl,c,e⟩:=oA ((if_neg j).symm.trans z);exact⟨#[],(C c b e).2.2,trivial,λZ cv h=>by cases h⟩
  .by_cases j:b=a
   .exact .inl j
   .cases q:i_ K b with
    |none=>exact absurd ((if_neg j).trans q) z
    |some u=>exact .inr (oA q).2
  .obtain rfl:x = "least_ending":=by simpa[sS]using hx
   exact(if_neg (ta c P e)).trans (B6 e)
theorem Qf{l:Ao}{n k:Nat}{q:aL}{c:List Str}{XP:(Str->Option ah)->aB->Prop}{E:aE->aB->Prop}{d:DefRec}{K:Params->ax}{CX:aE->fK}{sp:aE->Sp}{x:Str}(O:l.most=aa n) (r:n<=aX) (L:d.params.defaults=[]) (N:Room k qI)(C:∀(w:aE) (h:aB),E w h->(K w.params).In h/\BH (K w.params) h)(F:∀(w:aE) (g:Str->Option ah) (m:af) (h:aB),(K w.params).In h->h.Ns cn g->g d.name=aa (.ref m) -> ∃z:gw,(∀(s:ao) (u:ah),BindsTo s z ⟨[u],[]⟩ [(x,u)]) /\ ∀b:aB,(K w.params).In b->b.Ns cn g->jU l.prog w (K w.params) g b (CX w) k m z [x] (sp w))(M:∀(w:aE) (H:Hp) (a:af) (j:List Int),j.length<=n->zC H->bP (K w.params) H a (j.map V.int)->sp w [.ref a] H (λv _=>v=.bl ai) λ_ _ _=>False)(y:∀(w:aE) (H:Hp) (s:ao) (e:ah) (p:ao),CX w [] H s (λ_ _ _=>False) e p->False):PySem.W.WalkO q c XP E l.row.toRowW d [] (λf A=>PySem.call f A):=by refine Att.attach_call O L λw B i g mb m o pm cd X a A j G Y ho hd bK J A0 Z D P=>?_;have I:=(C w _ Y).1;obtain⟨z,Q,W⟩:=F w g m _ I G.T.g J;exact Lk I G.T.g G.T.b G.T.builtins G.T.nolimit G.T.bmain (C w _ Y).2 P A0 Z (cA D r) N W Q (λH T S=>M w H a j D T S) λH e p=>y w H i e p
def jw(s:bi):qB:=match s with
 |.FunctionDef _ a _ _ _ _ _ _ _ _=>a
 |_=>{posonlyargs:=[],args:=[],vararg:=ae,kwonlyargs:=[],kw_defaults:=[],kwarg:=ae,defaults:=[]}
def gg(s:bi):List bi:=match s with
 |.FunctionDef _ _ b _ _ _ _ _ _ _=>b
 |_=>[]
def bd(s:bi):cU:=match s with
 |.FunctionDef _ _ _ _ _ _ a _ _ _=>a
 |_=>{kind:=.function,names:=[],isGenerator:=aj,isCoroutine:=aj}
abbrev E0:XK:=λ_ _ _=>False
structure n_(K:ax)(x qual:Str)(st:bi)(f:af)(fd:gw):Prop where
 ex:∃(oc:ah) (od:Option af) (kV doc pm:ah) (an:Option af) (aU ct:ah) (osl:Array (Option ah)),
  fd=jl x qual (jw st) (gg st) (bd st) .none kV doc pm an aU ct/\K.lookup f=aa ⟨oc,od,.func fd,osl⟩/\wW K aU qual=ai
 kp:tw K (.ref f)=ai
section
variable{P:aL}{w:aE}{K:ax}{b:Str->Option ah}{a:aB}
theorem n_.binds{x c:Str}{g:bi}{f:af}{p:gw}{j:List Str}(F:n_ K x c g f p)(h:∀(kV d l:ah) (n:Option af) (o m:ah) (i:List ah),i.length=j.length->eQ (jl x c (jw g) (gg g) (bd g) .none kV d l n o m) ⟨i,[]⟩=pure (j.zip i)):Binds K p j []:=by obtain⟨oc,r,kV,d,l,n,o,m,q,rfl,s,u⟩:=F.ex;exact .all (h kV d l n o m)
theorem Eb{x d:Str}{g:bi}{f:af}{oc:ah}{p o:Option af}{i:Array (Option ah)}{kV h m j n:ah}(l:K.lookup f=aa ⟨oc,p,.func (jl x d (jw g) (gg g) (bd g) .none kV h m o j n),i⟩)(c:wW K j d=ai) (k:tw K (.ref f)=ai):n_ K x d g f (jl x d (jw g) (gg g) (bd g) .none kV h m o j n):=⟨⟨oc,p,kV,h,m,o,j,n,i,rfl,l,c⟩,k⟩
end
theorem MR{n:Nat}(h:n<=1000):n<aX:=w_ h (by decide)
section
variable{X:Cx}
theorem pv(i:Nat){x:Str}{a:Pos}(d:X.N[i]?=aa x:=by rfl)(b:fu X.env.scope x:=by eq_refl)(c:(x==("__debug__":Str))=aj:=by decide)(f:(x==("__classdict__":Str))=aj:=by decide):PE X (.Name x a) (kW i):=gK d b c f
end
theorem nY{A B:Prop}(h:B):if aj=ai then A else B:=by rw[if_neg dX];exact h
theorem oB{A B:Prop}(h:A):if ai=ai then A else B:=by rw[if_pos rfl];exact h
def Same(H a:Hp):Prop:=∀b o,H b=aa o->a b=aa o
theorem Same.refl(H:Hp):Same H H:=λ_ _ h=>h
theorem Same.trans{H f d:Hp}(a:Same H f)(b:Same f d):Same H d:=λc o h=>b c o (a c o h)
theorem Same.free{H a:Hp}(e:Same H a){l:af}(h:a l=Option.none):H l=Option.none:=by
 cases q:H l with
 |none=>rfl
 |some o=>
  rw[e l o q]at h;cases h
end L2
set_option maxHeartbeats 4000000
namespace L2
def gt(a:Env):List (Str×fR)->List (Str×af)->List (Str×af)
 |[],b=>b
 | (n,k)::r,b=>if k == .free then gt a r ((n,(a.cells.lookup n).getD 0)::b)else gt a r b
theorem N2{d:Env}{y:Str}{c:af}(b:List (Str×fR))(f:List (Str×af))(j:∀x∈b,x.2=.free->∃c,d.cells.lookup x.1=aa c)(h:(gt d b f).lookup y=aa c):f.lookup y=aa c\/d.cells.lookup y=aa c:=by
 induction b generalizing f with
 |nil=>exact .inl h
 |cons a r g=>
  obtain⟨n,k⟩:=a;unfold gt at h;have i:∀x∈r,x.2=.free->∃c,d.cells.lookup x.1=aa c:=λx m=>j x (jE _ m);split at h
  .rename_i o;obtain⟨s,l⟩:=j (n,k) (jD ..) (by simpa using o);rcases g _ i h with q|q
   .rw[jJ]at q;split at q
    .rename_i p;have e:y=n:=by simpa using p
     subst e;rw[l]at q;exact .inr (by rw[l];exact q)
    .exact .inl q
   .exact .inr q
  .exact g _ i h
theorem D6{a:Type}{n:Str}{v:a}{l:List (Str×a)}:((n,v)::l).lookup n=aa v:=by rw[jJ];simp
theorem Di{a:Type}{n y:Str}{v:a}{l:List (Str×a)}(h:∃c,l.lookup y=aa c):∃c,((n,v)::l).lookup y=aa c:=by
 rw[jJ];split
 .exact⟨_,rfl⟩
 .exact h
theorem zf{d:Env}{y:Str}:∀(a:List (Str×fR)) (b:List (Str×af)),(∃c,b.lookup y=aa c)->∃c,(gt d a b).lookup y=aa c
 |[],b,h=>h
 | (n,k)::r,b,h=>by
  unfold gt;split
  .exact zf r _ (Di h)
  .exact zf r _ h
theorem xO{g:Env}{y:Str}:∀(a:List (Str×fR)) (i:List (Str×af)),(∃x∈a,x.1=y/\x.2=.free)->∃c,(gt g a i).lookup y=aa c
 |[],i,⟨_,h,_⟩=>by simp at h
 | (n,k)::r,i,⟨x,b,f,d⟩=>by
  unfold gt;rcases br.mp b with e|b
  .subst e;simp only at f d;subst f d;simp only[beq_self_eq_true,if_true];exact zf r _ ⟨_,D6⟩
  .split
   .exact xO r _ ⟨x,b,f,d⟩
   .exact xO r _ ⟨x,b,f,d⟩
theorem zy{b:Env}:∀(a:List (Str×fR)) (g:List (Str×af)),(∀x∈a,x.2=.free->∃c,b.cells.lookup x.1=aa c) -> (forIn (m:=Sem) a g λx r=>match x with | (d,f)=>if(f == NameKind.free)=ai then do let c <-cellOf b d;pure (ForInStep.yield ((d,c)::r))else pure (ForInStep.yield r))=pure (gt b a g)
 |[],g,_=>rfl
 | (n,k)::r,g,h=>by
  have j:∀x∈r,x.2=.free->∃c,b.cells.lookup x.1=aa c:=λx o=>h x (jE _ o);rw[List.forIn_cons];unfold gt;by_cases i:(k == NameKind.free)=ai
  .obtain⟨c,l⟩:=h (n,k) (jD ..) (by simpa using i);simp only[i,if_true];have e:cellOf b n=pure c:=by unfold cellOf;rw[l]
   rw[e];simp only[pure_bind];rw[zy r _ j,l];rfl
  .simp only[i,if_false,pure_bind];exact zy r _ j
theorem Om{a:cU}{b:Env}(h:∀x∈a.names,x.2=.free->∃c,b.cells.lookup x.1=aa c):xf a b=pure (gt b a.names []):=by unfold xf;have q:=zy a.names [] h;simp only[bind_pure_comp]at q ⊢;rw[q];rfl
theorem wx{n c:Nat}(b:n+1<=c)(a:c<n):False:=∅
theorem xX:∀(c:List (Str×fR)) (n:Nat) (a b:List (Str×af)),fe n c (a++b)=fe n c a++b
 |[],_,_,_=>rfl
 | (x,k)::r,n,a,b=>by
  unfold fe;split
  .exact xX r (n+1) ((x,n)::a) b
  .exact xX r n a b
theorem vd{y:Str}{c:af}:∀(b:List (Str×fR)) (n:Nat) (a:List (Str×af)),(y,c)∈fe n b a->(y,c)∈a\/(y,.cell)∈b
 |[],_,_,h=>.inl h
 | (x,k)::r,n,a,h=>by
  unfold fe at h;split at h
  .rename_i d;rcases vd r _ _ h with z|z
   .rcases br.mp z with z|z
    .cases z;have e:k=.cell:=by simpa using d
     subst e;exact .inr (jD ..)
    .exact .inl z
   .exact .inr (jE _ z)
  .rcases vd r _ _ h with z|z
   .exact .inl z
   .exact .inr (jE _ z)
theorem zS{y:Str}:∀(b:List (Str×fR)) (n:Nat) (a:List (Str×af)),(∃c,a.lookup y=aa c)->∃c,(fe n b a).lookup y=aa c
 |[],_,_,h=>h
 | (x,k)::r,n,a,h=>by
  unfold fe;split
  .exact zS r _ _ (Di h)
  .exact zS r _ _ h
theorem wL{y:Str}:∀(b:List (Str×fR)) (n:Nat) (a:List (Str×af)),(y,.cell)∈b->∃c,(fe n b a).lookup y=aa c
 | (x,k)::r,n,a,h=>by
  unfold fe;rcases br.mp h with e|h
  .cases e;exact zS r _ _ ⟨_,D6⟩
  .split
   .exact wL r _ _ h
   .exact wL r _ _ h
def kH(X:Cx)(a:cU)(C:af):List (Str×af):=fe (C+1) a.names (gt X.env a.names [])
theorem y6(X:Cx)(a:cU)(C:af):kH X a C=fe (C+1) a.names []++gt X.env a.names []:=xX a.names (C+1) [] _
theorem KZ{M:Model}{A:aS}{E:ah->ao->Prop}{s:ao}{a:cU}{b:af}{j:List (Str×af)}{c:Str}{f:Env}{Q:Env->ao->Prop}(l:Q (newEnv a s.heap.objs.size b (fe (s.heap.objs.size+1) a.names j) c ae .none (aa f) mU) {s with heap:=pushCells (s.heap.push {cls:=.type "dict",data:=.dict #[]}) a.names}):aq M A (newFunctionEnv a b j [] c ae .none (aa f)) Q E s:=by
 simp only[newFunctionEnv,Option.isSome_some,if_true];refine ap (wpAny_alloc ?_);refine ap (wpAny_layCells _ (λi d h=>by cases g:d == NameKind.cell <;> simp[g]) _ _ _ _ ?_);rw[show({s with heap:=s.heap.push {cls:=.type "dict",data:=.dict #[]}}:ao).heap.objs.size=s.heap.objs.size+1 from Ap ..];refine ap ?_;rw[List.forIn_nil];exact aC (aC l)
theorem Cn{s:ao}{a:List (Str×fR)}{y:Str}{c:af}(h:(y,c)∈fe (s.heap.objs.size+1) a []):(pushCells (s.heap.push {cls:=.type "dict",data:=.dict #[]}) a).IsCell c ae/\s.heap.objs.size+1<=c/\∀z,(z,c)∈fe (s.heap.objs.size+1) a []->y=z:=by have ok:=cellsFrom_ok a (s.heap.push {cls:=.type "dict",data:=.dict #[]}) (s.heap.objs.size+1) [] ⟨λ_ _ d=>(nomatch d),List.Pairwise.nil⟩ (by rw[Ap];exact aZ _);rw[Ap]at ok;exact⟨(ok.empty y c h).1,(ok.empty y c h).2,λz b=>name_of_addr ok.apart h b⟩
def bN(X:Cx)(a:cU)(b:List Str)(C:af)(s₀:ao)(H₀:Hp)(ex:List af)(pn:List (af×Obj)):Cx where
 prog:=X.prog
 w:=X.w
 K:=X.K
 mg:=X.mg
 base:=X.base
 A:=X.A
 N:=b
 s₀:=s₀
 H₀:=H₀
 env:=compEnvC a (kH X a C) C X.env
 outer:=X.stack
 stack:=X.stack
 ex:=ex
 fn:=λy=>a.names.lookup y == aa .cell
 calm:=X.calm
 pn:=X.pn++pn
 xe:=λ_ _=>False
def eK(b:St)(a:List Nat):St:=a.map λi=>(b[i]?).join
structure iD(X:Cx)(scope:cU)(x:Str)(N':List Str)(cap:List Nat):Prop where
 kind:scope.kind=.function
 cells:∀y∈scope.names,y.2=.cell->scope.names.lookup y.1=aa .cell
 names:∀y∈scope.names,y.2=.local->scope.names.lookup y.1=aa .local
 loc:scope.names.lookup x=aa .local\/scope.names.lookup x=aa .cell
 free:∀y∈scope.names,y.2=.free->X.env.kindOf y.1=aa .cell\/X.env.kindOf y.1=aa .free
 nd:N'.Nodup
 hd:N'.head?=aa x
 len:N'.length=cap.length+1
 caps:∀i j y,N'[i+1]?=aa y->cap[i]?=aa j->(X.N[j]?=aa y/\scope.names.lookup y=aa .free)\/(X.N.length<=j/\scope.names.lookup y=aa .local)
theorem LJ{a:List (Str×fR)}{y:Str}{k:fR}(h:a.lookup y=aa k):∃x∈a,x.1=y/\x.2=k:=⟨(y,k),j8 h,rfl,rfl⟩
theorem yN{a:Env}{x:Str}:∀{b:List (Str×fR)}{k:fR}, (b.map λ(n,k)=>if(k == NameKind.free&&a.scope.kind == .function&&a.kindOf n == aa .cell)then(n,NameKind.cell)else(n,k)).lookup x=aa k -> ∃f,b.lookup x=aa f/\(k=f\/(f=.free/\k=.cell))
 |[],_,h=>by simp at h
 | (n,c)::r,k,h=>by
  change Aq x ((if(c == NameKind.free&&a.scope.kind == .function&&a.kindOf n == aa .cell)=ai then(n,NameKind.cell)else(n,c))::_)=_ at h;rw[jJ];by_cases d:(c == NameKind.free&&a.scope.kind == .function&&a.kindOf n == aa .cell)=ai
  .rw[if_pos d,jJ]at h;split at h
   .rename_i g;cases h;have:c=.free:=by simp at d;exact d.1.1
    exact⟨c,rfl,.inr ⟨this,rfl⟩⟩
   .exact yN h
  .rw[if_neg d,jJ]at h;split at h
   .rename_i g;cases h;exact⟨c,rfl,.inl rfl⟩
   .exact yN h
theorem zU{a:Env}{x:Str}:∀{b:List (Str×fR)},b.lookup x=aa .free -> let q:=(b.map λ(n,k)=>if(k == NameKind.free&&a.scope.kind == .function&&a.kindOf n == aa .cell)then(n,NameKind.cell)else(n,k)).lookup x
  q=aa .cell\/q=aa .free
 |[],h=>by simp at h
 | (n,c)::r,h=>by
  show Aq x ((if(c == NameKind.free&&a.scope.kind == .function&&a.kindOf n == aa .cell)=ai then(n,NameKind.cell)else(n,c))::_)=_\/Aq x ((if(c == NameKind.free&&a.scope.kind == .function&&a.kindOf n == aa .cell)=ai then(n,NameKind.cell)else(n,c))::_)=_;rw[jJ]at h;by_cases f:(c == NameKind.free&&a.scope.kind == .function&&a.kindOf n == aa .cell)=ai
  .rw[if_pos f,jJ];cases d:x == n with
   |true=>exact .inl rfl
   |false=>rw[d]at h;exact zU h
  .rw[if_neg f,jJ];cases d:x == n with
   |true=>rw[d]at h;cases h;exact .inr rfl
   |false=>rw[d]at h;exact zU h
theorem yO{a:Env}{x:Str}:∀{b:List (Str×fR)},b.lookup x=aa .cell -> (b.map λ(n,k)=>if(k == NameKind.free&&a.scope.kind == .function&&a.kindOf n == aa .cell)then(n,NameKind.cell)else(n,k)).lookup x=aa .cell
 |[],h=>by simp at h
 | (n,d)::r,h=>by
  show Aq x ((if(d == NameKind.free&&a.scope.kind == .function&&a.kindOf n == aa .cell)=ai then(n,NameKind.cell)else(n,d))::_)=_;rw[jJ]at h;by_cases f:(d == NameKind.free&&a.scope.kind == .function&&a.kindOf n == aa .cell)=ai
  .rw[if_pos f,jJ];cases c:x == n with
   |true=>rfl
   |false=>rw[c]at h;exact yO h
  .rw[if_neg f,jJ];cases c:x == n with
   |true=>rw[c]at h;cases h;rfl
   |false=>rw[c]at h;exact yO h
section
variable{X:Cx}{A:List (af×Obj)}{w:St}{H:Hp}{s:ao}{f:cU}{x:Str}{D:List Str}{g:List Nat}
theorem Inv.freeHas(I:Inv X A w H s)(B:iD X f x D g):∀y∈f.names,y.2=.free->∃c,X.env.cells.lookup y.1=aa c:=λy a e=>I.ok.has y.1 (B.free y a e)
theorem Inv.clIn(I:Inv X A w H s)(B:iD X f x D g){y:Str}{c:af}(h:(gt X.env f.names []).lookup y=aa c):X.env.cells.lookup y=aa c:=by
 rcases N2 f.names [] (I.freeHas B) h with q|q
 .simp at q
 .exact q
theorem Inv.cbIn(I:Inv X A w H s)(B:iD X f x D g){C:af}{y:Str}{c:af}(h:(kH X f C).lookup y=aa c):((y,c)∈fe (C+1) f.names []/\f.names.lookup y=aa .cell)\/((gt X.env f.names []).lookup y=aa c/\X.env.cells.lookup y=aa c):=by
 rw[y6,Fw]at h;cases e:(fe (C+1) f.names []).lookup y with
 |none=>rw[e]at h;exact .inr ⟨h,I.clIn B h⟩
 |some a=>
  rw[e]at h;cases h;have m:=j8 e;rcases vd _ _ _ m with z|z
  .cases z
  .exact .inl ⟨m,B.cells _ z rfl⟩
theorem Inv.cbOld(I:Inv X A w H s)(B:iD X f x D g){C:af}{y:Str}{c:af}(h:(gt X.env f.names []).lookup y=aa c)(a:f.names.lookup y=aa .free):(kH X f C).lookup y=aa c:=by
 rw[y6,Fw];cases e:(fe (C+1) f.names []).lookup y with
 |none=>exact h
 |some b=>
  rcases vd _ _ _ (j8 e)with z|z
  .cases z
  .have:=B.cells _ z rfl;rw[a]at this;cases this
theorem Inv.block{fp:List af}{E:aB}{m:Str->Option ah}{t':Nat}(hh:E=pushCells (s.heap.push {cls:=.type "dict",data:=.dict #[]}) f.names)(I:Inv X A w H s)(B:iD X f x D g)(Y:∀b∈fp,j5 X A H b)(hfo:∀b∈fp,∃o,s.heap.get? b=aa o)(kn:E.Ns s.heap.objs.size m)(F:∀b o,s.heap.get? b=aa o->E.get? b=aa o):Inv (bN X f D s.heap.objs.size s H fp A) [] (ae::eK w g) H {s with heap:=E,toks:=t'}:=by
 have N:∀x c,X.env.cells.lookup x=aa c->c<s.heap.objs.size:=λx c e=>(I.cell x c e).elim λv q=>q.lt;have C:∀{y:Str}{c:af},(y,c)∈fe (s.heap.objs.size+1) f.names []->E.IsCell c ae/\s.heap.objs.size+1<=c/\∀z,(z,c)∈fe (s.heap.objs.size+1) f.names []->y=z:=λh=>by rw[hh];exact Cn h
 have lk:∀y k,(compEnvC f (kH X f s.heap.objs.size) s.heap.objs.size X.env).kindOf y=aa k->∃O,f.names.lookup y=aa O/\(k=O\/(O=.free/\k=.cell)):=λy k h=>yN h;have J:∀y,f.names.lookup y=aa .free->∃c,(gt X.env f.names []).lookup y=aa c:=λy h=>xO f.names [] (LJ h);have nfs:∀b∈fz X.stack,b≠s.heap.objs.size:=λb G e=>by
  rcases br.mp (I.stkSub b G)with z|z
  .exact absurd I.lt (by rw[<-z,e];exact eO _)
  .exact I.nofs (ln e.symm) z
 refine⟨⟨I.ok.mod,B.kind,I.ok.glob,I.ok.blt,aZ _,λy z c h1 h2=>?_,λy P=>?_,λy c h nD=>?_,I.ok.hd,I.ok.frames,.inl rfl,λb G=>?_,λb o e=>I.bs b o e,cA I.ok.bsz I.sz,λb o e G=>?_,λb G hf=>?_,I.stack,(λb G=>I.stkFree b G),I.tab⟩,rfl,I.bare,Un.kept F,⟨m,kn,λi y v e1 S e3=>?_⟩,λy c h=>?_,I.hok.fresh (aZ _),λy c h=>?_,λp hp=>?_,I.hok.kept F,?_⟩
 .-- inj
  rcases I.cbIn B h1 with⟨a1,a2⟩|⟨a1,a2⟩ <;> rcases I.cbIn B h2 with⟨b1,b2⟩|⟨b1,b2⟩
  .exact(C a1).2.2 z b1
  .exact(wx (C a1).2.1 (N _ _ b2)).elim
  .exact(wx (C b1).2.1 (N _ _ a2)).elim
  .exact I.ok.inj y z c a2 b2
 .-- has
  show ∃c,(kH X f s.heap.objs.size).lookup y=aa c;have lB:f.names.lookup y=aa .free->∃c,(kH X f s.heap.objs.size).lookup y=aa c:=λq=>(J y q).imp λc hc=>I.cbOld B hc q;rcases P with P|P
  .obtain⟨O,q,z|⟨z,_⟩⟩:=lk y _ P
   .subst z;exact wL _ _ _ (j8 q)
   .subst z;exact lB q
  .obtain⟨O,q,z|⟨_,z⟩⟩:=lk y _ P
   .subst z;exact lB q
   .cases z
 .-- cab
  have hk:f.names.lookup y=aa .cell:=by simpa using(show(f.names.lookup y == aa .cell)=ai from h)
  show s.heap.objs.size<=c;rcases I.cbIn B nD with⟨a1,a2⟩|⟨a1,a2⟩
  .have:=(C a1).2.1;lia
  .obtain⟨c',Q⟩:=wL (n:=s.heap.objs.size+1) (a:=[]) _ (j8 hk);have e:(kH X f s.heap.objs.size).lookup y=aa c':=by rw[y6,Fw,Q];rfl
   have S:(kH X f s.heap.objs.size).lookup y=aa c:=nD;rw[e]at S;cases S;have:=(C (j8 Q)).2.1;lia
 .-- exf
  obtain⟨f0,f1,f2,f3,f4,f5⟩:=Y b G;obtain⟨o,L⟩:=hfo b G;refine⟨λe=>absurd (bo L) (by rw[e];exact eO _),λy c h=>?_⟩;rcases I.cbIn B h with⟨a1,a2⟩|⟨a1,a2⟩
  .rintro rfl;exact wx (C a1).2.1 (bo L)
  .exact f4 y c a2
 .-- noex
  obtain⟨f0,f1,f2,f3,f4,f5⟩:=Y b G;rcases f3 with z|z
  .exact I.ok.noex b o e z
  .exact absurd (fc (bo e) (cA I.ok.bsz z)) (eO _)
 .-- exfs
  obtain⟨f0,f1,f2,f3,f4,f5⟩:=Y b G;rcases br.mp (I.stkSub b hf)with z|z
  .exact f1 z
  .exact f2 z
 .-- loc
  cases i with
  |zero=>simp at S
  |succ i=>
   have K:(eK w g)[i]?=aa (aa v):=by simpa using S
   unfold eK at K;rw[gx]at K;cases Z:g[i]? with
   |none=>rw[Z]at K;cases K
   |some j=>
    rw[Z]at K;have T:(w[j]?).join=aa v:=dz K;have e5:w[j]?=aa (aa v):=by
     cases hq:w[j]? with
     |none=>rw[hq]at T;cases T
     |some o=>rw[hq]at T;exact congrArg aa T
    obtain⟨b1,b2⟩:=(B.caps i j y e1 Z).elim id λz=>by have:=(cY.mp e5).1;rw[I.len]at this;exact absurd this (Nat.not_lt.mpr z.1)
    obtain⟨mm,hn,hl⟩:=I.loc;have tU:=B.free _ (j8 b2) rfl;have W:fu X.env.scope y:=by
     rcases tU with z|z
     .exact .inr (.inl z)
     .exact .inr (.inr z)
    obtain⟨u,r,l⟩:=hl j y v b1 e5 W;refine⟨u,r,.inr ⟨zU b2,?_⟩⟩;rcases l with⟨l,_⟩|⟨_,c,hc,xE⟩
    .rcases tU with z|z
     .rw[l]at z;cases z
     .rw[l]at z;cases z
    .obtain⟨c',Q⟩:=J y b2;have e6:=I.clIn B Q;rw[hc]at e6;cases e6;obtain⟨M,L,hd⟩:=xE;exact⟨c,I.cbOld B Q b2,M,F c M L,hd⟩
 .rcases I.cbIn B h with⟨a1,a2⟩|⟨a1,a2⟩
  .exact⟨ae,(C a1).1⟩
  .obtain⟨v,M,L,hd⟩:=I.cell y c a2;exact⟨v,M,F c M L,hd⟩
 .rcases I.cbIn B h with⟨a1,a2⟩|⟨a1,a2⟩
  .exact I.hok.fresh (cA (xg _) (C a1).2.1)
  .exact I.freeC y c a2
 .have fY:p∈X.pn++A:=by simpa[bN]using hp
  obtain⟨e,n,ne,nf,d⟩:=I.pin p fY;refine⟨F _ _ e,n,cT (bo e),λhf=>?_,d⟩;rcases br.mp (I.stkSub p.1 hf)with z|z
  .exact ne z
  .exact nf z
 .show(ae::eK w g).length=D.length;rw[B.len];simp[eK]
end
def oC(X:Cx)(b:List az)(t:TT):Prop :=
 ∀(d:List (af×Obj)) (s:ao) (a:St) (H:Hp) (Q:Bool->Hp->Prop),Inv X d a H s->t a H Q ->
  aq (aw X.prog X.w) X.A (forIn b ai λc r=>if r=ai then do let ok <-l9 c X.env (aM c X.env);pure (ForInStep.yield ok)else pure (ForInStep.yield r)) (TP X d a Q) X.xe s
theorem IT{P:aL}{w:aE}{A:aS}{R:Result->ao->Prop}{s:ao}{m q i:az}{l:List az}{g:cU}{p:Pos}{u C:ah}{d:Env}(J:Nat->ao->Prop)(n:∀k o,J k o->aq (aw P w) A (k_ u) (λr B=>match r with
   |none=>R (.ok .next) B
   |some v=>aq (aw P w) A (Ac q u v) (λ_ G=>aq (aw P w) A (mW q d v) (λ_ F=>aq (aw P w) A (forIn l ai λc r=>if r=ai then do let ok <-l9 c d (aM c d);pure (ForInStep.yield ok)else pure (ForInStep.yield r)) (λb z=>if b=ai then aq (aw P w) A (aM m d) (λy E=>aq (aw P w) A (call (.builtin "list.append") [C,y]) (λ_ D=>∃j,j<k/\J j D) (λ_ _=>False) E) (λ_ _=>False) z else ∃j,j<k/\J j z) (λ_ _=>False) F) (λ_ _=>False) G) (λ_ _=>False) B) (λ_ _=>False) o) (k:Nat) (h:J k s) :
  mZ (aw P w) A (.compLoop (.ListComp m [⟨q,i,l,0⟩] g p) 0 u C d) R s:=by
 refine codeAny_loop rfl J (λj o K=>?_) k h;show aq _ A (Sem.onRaise (compTurn (.ListComp m [⟨q,i,l,0⟩] g p) 0 u C d) (λx=>do noteFrame x d;theTreesLotGoes x)) _ _ o;refine wpAny_noted ?_;rw[compTurn_list];have no:∀(Q:ah->ao->Prop) (a:ah) (b:ao),False->Q a b:=λ_ _ _ f=>f.elim;refine ap (wpAny_standAt (ap (eP (n j o K) (λr B I=>?_) (no _))));cases r with
 |none=>exact aC I
 |some v=>
  refine ap (eP I (λ_ G O=>ap (eP O (λ_ F N=>ap (eP N (λb z H=>?_) (no _))) (no _))) (no _));cases b with
  |true=>exact ap (ap (eP H (λy E M=>ap (eP M (λ_ D L=>aC (aC ⟨rfl,L⟩)) (no _))) (no _)))
  |false=>exact aC ⟨rfl,H⟩
def Iw:TT:=λ_ H Q=>Q ai H
theorem JH{X:Cx}:oC X [] Iw:=λ_ _ _ H _ I h=>wpAny_tests_nil ⟨H,I,h⟩
theorem E9{X:Cx}{c:az}{t:TT}(h:PT X c t):oC X [c] t:=λd s a H Q I b=>wpAny_tests_one (h d s a H Q I b)
def z6(q:TI)(h:V->Hp->St->Prop)(k:Nat)(r:TT)(s:TE)(d:List Nat):TE:=λg H Q=>q g H λJ p=>∀l,p l=ae->∃W:Nat->Nat->List V->Hp->Prop,(∃m,W 0 m [] (upd p l (.lst [])))/\∀i m a H,W i m a H ->
 (J.stop i H/\Q (.ref l) H)\/(J.go i H/\∀v j,J.yld i H v j->∃f,f.length=k+1/\h v j f/\r (f++(eK g d).drop k) j λb o=>if b=ai then s (f++(eK g d).drop k) o λy n=>n l=aa (.lst a)/\a.length<aX/\∃c,c<m/\W (i+1) c (a++[y]) (upd n l (.lst (a++[y]))) else ∃c,c<m/\W (i+1) c a o)
def E8:V->Hp->St->Prop:=λv _ a=>a=[aa v]
abbrev zZ(b:TI)(c:TT)(d:TE)(a:List Nat):TE:=z6 b E8 0 c d a
section
variable{X:Cx}{m:List (af×Obj)}{w:St}{H:Hp}{s:ao}{g:cU}{x:Str}{j:List Str}{l:List Nat}
theorem Inv.unblock{r:List af}{p:Hp}{y:St}{s':ao}{h:aB}(I:Inv X m w H s)(D:∀b∈r,j5 X m H b)(a:Inv (bN X g j s.heap.objs.size s H r m) [] y p s') (sb:jF s.heap.objs.size s'.heap h):Inv X m w p {s' with heap:=h}:=by
 have k:∀b o,b≠s.heap.objs.size->s'.heap.get? b=aa o->h.get? b=aa o:=λb o f e=>(sb.2 b f).trans e;have A:∀b o,s.heap.get? b=aa o->b≠s.heap.objs.size:=λb o e=>cT (bo e);have un:Un (fz X.stack) r H p s.heap h:=by
  refine⟨λb o e n f d=>k b o (A b o e) (a.base.keep b o e n f d),λb o e n f d=>?_,λb o e n d=>a.base.free b o e n d,λb o e d=>?_,a.base.tups,a.base.frzs,a.base.tbls⟩
  .obtain⟨E,q⟩:=a.base.slot b o e n f d;exact⟨E,k b _ (A b o e) q⟩
  .obtain⟨C,q⟩:=a.base.there b o e d;exact⟨C,k b C (A b o e) q⟩
 have B:cM X.prog X.w p h:=λb u e=>by
  have i:p s.heap.objs.size=ae:=a.free;refine(a.hok b u e).stay (λc v F q=>k c v ?_ q) (λ_ q=>q) λ_ _ q=>q;rintro rfl;rcases F with z|z
  .rw[<-z,i]at e;cases e
  .rw[i]at z;cases z
 refine I.call' (s':={s' with heap:=h}) (ch:=r) a.os un B a.bare λb f=>?_;obtain⟨K,J,f2,f3,f4,G⟩:=D b f;exact⟨f3,J,f4,G⟩
theorem Ee{elt G tg:az}{pos pos':Pos}{ifs:List az}{wi:TI}{tgf:V->Hp->St->Prop}{k:Nat}{ts:TT}{te:TE}{use:Option (ah->Sem Unit)}{Q:ah->ao->Prop}{Qp:VK}(B:iD X g x j l)(hk:k<=l.length)(hc:X.calm=ai)(hi:PI X tg G wi)(dj:∀C F K ex pn,PG (bN X g j C F K ex pn) tg λv O H Q=>∃Y,Y.length=k+1/\O.length=j.length/\tgf v H Y/\Q (Y++O.drop (k+1)) H)(ht:∀C F K ex pn,oC (bN X g j C F K ex pn) ifs ts) (he:∀C F K ex pn,PE (bN X g j C F K ex pn) elt te) (hs:∀x,mX G X.env x=pure x) (I:Inv X m w H s) (h:z6 wi tgf k ts te l w H Qp)(fin:∀{A s6:ao}{P H5:Hp}{L σ5 a f},Inv X m w P A->(∀b∈L,j5 X m P b)->Inv (bN X g j A.heap.objs.size A P L m) [] σ5 H5 s6->Qp (.ref a) H5->compPost (aw X.prog X.w) X.A X.xe use Q (.ref a) A.heap.objs.size (.ok f) s6):aq (aw X.prog X.w) X.A (comprehension (.ListComp elt [⟨tg,G,ifs,0⟩] g pos) g X.env pos' (newList []) aj (aM G X.env) use) Q X.xe s:=by
 refine wpAny_comprehension_free (use:=use) rfl hs (Om (I.freeHas B)) B.kind B.names (aI (hi m s w H _ I h) λv s1 h1=>aI h1 λitv E h2=>?_);obtain⟨it,L,tn,J,H2,e,I2,T,aT,f2,h2⟩:=h2;subst e;refine jI ?_;have I3:Inv X m w (upd H2 E.heap.objs.size (.lst [])) {E with heap:=E.heap.push {cls:=.type "list",data:=.seq ([]:List ah).toArray},toks:=E.toks}:=I2.lnew (its:=[]) (t':=E.toks) .nil (j9 _);obtain⟨W,⟨m0,w0⟩,turn⟩:=h2 E.heap.objs.size I2.fresh;generalize nE:({E with heap:=E.heap.push {cls:=.type "list",data:=.seq ([]:List ah).toArray},toks:=E.toks}:ao)=A at I3;have hs3':({E with heap:=E.heap.push {cls:=.type "list",data:=.seq ([]:List ah).toArray}}:ao)=A:=nE;generalize hH3:upd H2 E.heap.objs.size (.lst [])=P at I3 w0;have nl:∀b∈L,b≠E.heap.objs.size:=λb D e=>by obtain⟨o,ho,_⟩:=T.obj _ _ aT b D;exact absurd (bo ho) (by rw[e];exact eO _)
 have k3:∀b o,E.heap.get? b=aa o->A.heap.get? b=aa o:=λb o e=>by rw[<-nE];exact bh _ e
 have f3:∀b∈L,j5 X m P b:=λb D=>⟨by rw[<-hH3,bj (nl b D)];exact(f2 b D).1,(f2 b D).2⟩
 have bu:tn 0 A.heap:=T.keep _ _ _ aT λb _ o e=>k3 b o e;have fo3:∀b∈L,∃o,A.heap.get? b=aa o:=λb D=>(T.obj _ _ bu b D).imp λo q=>q.1;refine KZ ?_;generalize hh:pushCells (A.heap.push {cls:=.type "dict",data:=.dict #[]}) g.names=h₁;have old:∀b o,A.heap.get? b=aa o->h₁.get? b=aa o:=λb o e=>hh ▸ pushCells_keeps _ _ b o (bh _ e);have kn:h₁.Ns A.heap.objs.size (λ_=>ae):=hh ▸ (Heap.Ns.new A.heap (.type "dict")).keeps (pushCells_keeps _ _);have I4:=Inv.block (t':=A.toks) hh.symm I3 B f3 fo3 kn old;have bF:tn 0 h₁:=T.keep _ _ _ bu λb _ o e=>old b o e;have M:∀{H':Hp},(∀b∈L,H' b=ae)->∀b∈L,j5 (bN X g j A.heap.objs.size A P L m) [] H' b:=λhn b D=>by
  obtain⟨f0,f1,f2',f3',f4,f5⟩:=f3 b D;refine⟨hn b D,λe=>?_,λhf=>?_,.inl D,λy c h=>?_,λp hp=>f5 p (by simpa[bN]using hp)⟩
  .obtain⟨o,ho⟩:=fo3 b D;exact absurd (bo ho) (by rw[show b=A.heap.objs.size from e];exact eO _)
  .rcases br.mp (I3.stkSub b hf)with z|z
   .exact f1 z
   .exact f2' z
  .rcases I3.cbIn B h with⟨a1,a2⟩|⟨a1,a2⟩
   .rintro rfl;obtain⟨o,ho⟩:=fo3 _ D;exact wx (Cn a1).2.1 (bo ho)
   .exact f4 y c a2
 have Z:mZ (aw X.prog X.w) X.A (.compLoop (.ListComp elt [⟨tg,G,ifs,0⟩] g pos) 0 (.ref it) (.ref E.heap.objs.size) (compEnvC g (kH X g A.heap.objs.size) A.heap.objs.size X.env))
   (compPost (aw X.prog X.w) X.A X.xe use Q (.ref E.heap.objs.size) A.heap.objs.size) {A with heap:=h₁,toks:=A.toks}:=by
  refine IT (λn s'=>∃i S O H',(∃pre:St,pre.length=k+1/\O=pre++(eK w l).drop k)/\Inv (bN X g j A.heap.objs.size A P L m) [] O H' s'/\tn i s'.heap/\(∀b∈L,H' b=ae)/\W i n S H') ?_ m0
   ⟨0,[],_,P,⟨(ae::eK w l).take (k+1),by simp[eK];lia,by rw[<-Fx (a:=ae)];exact(qJ _ _).symm⟩,I4,bF,λb D=>(f3 b D).1,w0⟩
  rintro n s5 ⟨i,S,σ5,H5,⟨pre,tZ,rfl⟩,I5,bS,fr5,w5⟩;rcases turn i n S H5 w5 with⟨stop,q⟩|⟨go,step⟩
  .refine eP (T.done (bN X g j A.heap.objs.size A P L m) rfl rfl rfl hc i [] s5 _ H5 (λ_ _=>False) I5 (M fr5) bS stop) (λr s6 ⟨hr,I6⟩=>?_) (λ_ _ f=>f.elim);subst hr;exact fin I3 f3 I6 q
  .refine eP (T.item (bN X g j A.heap.objs.size A P L m) rfl rfl rfl hc i [] s5 _ H5 (λ_ _=>False) I5 (M fr5) bS go) (λr s6 ⟨u,hr,h6⟩=>?_) (λ_ _ f=>f.elim);subst hr;refine eP h6 (λ_ s7 ⟨v,H7,I7,r7,y7,st7,fr7⟩=>?_) (λ_ _ f=>f.elim);have I7':=I7.pinned (M fr7) (T.obj _ _ st7);have back:∀{N:St}{H8:Hp}{s8:ao},Inv (bN X g j A.heap.objs.size A P L m) ([]++sM L s7.heap) N H8 s8->tn (i+1) s8.heap/\(∀b∈L,H8 b=ae):=λ{N H8 s8} I8=>⟨T.keep _ _ _ st7 λb D o e=>(I8.pin (b,o) (lf _ (lf _ (wj D e)))).1,λb D=>by obtain⟨o,e,d⟩:=T.obj _ _ st7 b D;exact(I8.pin (b,o) (lf _ (lf _ (wj D e)))).2.1⟩
   obtain⟨Y,fg,htg,step⟩:=step v H7 y7;refine aI (dj _ _ _ _ _ _ s7 _ H7 v u (λN H8=>N=Y++(eK w l).drop k/\H8=H7) I7' r7 ⟨Y,fg,I7'.len,htg,by rw[xh ∅,List.drop_eq_nil_of_le ∅];rfl,rfl⟩) λ_ s8 ⟨N,H8,I8,e8,e8'⟩=>?_;subst e8 e8';refine aI (ht _ _ _ _ _ _ s8 _ _ _ I8 step) λb s9 ⟨H9,I9,q9⟩=>?_;cases b with
   |false=>
    obtain⟨m',hm,w9⟩:=(show ∃m',m'<n/\W (i+1) m' S H9 from q9)
    exact⟨m',hm,i+1,S,_,H9,⟨Y,fg,rfl⟩,I9.unpinned,(back I9).1,(back I9).2,w9⟩
   |true=>refine aI (he _ _ _ _ _ _ s9 _ H9 _ I9 q9) λu10 s10 ⟨y,H10,I10,r10,hl10,hz10,m',hm,w10⟩=>?_;refine aI (Dn _ s10 _ H10 (.ref E.heap.objs.size) [y] _ [u10] (λz H11=>H11=upd H10 E.heap.objs.size (.lst (S++[y]))) I10 rfl (.cons r10 .nil) ⟨_,S,y,rfl,rfl,hl10,hz10,rfl⟩) λ_ s11 ⟨_,H11,I11,_,e11⟩=>?_;subst e11;exact⟨m',hm,i+1,S++[y],_,_,⟨Y,fg,rfl⟩,I11.unpinned,(back I11).1,(back I11).2,w10⟩
 exact codeAny_compStart_list Z (T.self _ 0 _ _ _ bF Z)
theorem BE{y:Pos}(B:iD X g x j l):∀C b c i f,PG (bN X g j C b c i f) (.Name x y) λv d H Q=>∃n,n.length=0+1/\d.length=j.length/\E8 v H n/\Q (n++d.drop (0+1)) H:=by
 intro C b c i f m s d H v u Q I r h;obtain⟨n,_,A,z,q⟩:=h;cases (show n=[aa v] from z);have D:Loc (bN X g j C b c i f).env.scope x:=B.loc.elim (λh=>.inl (lookup_relabel_local h)) (λh=>.inr (yO h));have o:(bN X g j C b c i f).fn x=ai\/(bN X g j C b c i f).env.scope.names.lookup x=aa .local:=B.loc.elim (λh=>.inr (lookup_relabel_local h)) (λh=>.inl (by show(g.names.lookup x == aa .cell)=ai;rw[h];rfl));have p:(bN X g j C b c i f).N[0]?=aa x:=by show j[0]?=aa x;rw[<-List.head?_eq_getElem?];exact B.hd
 refine wK B.nd p D o m s d H v u Q I r ?_;show Q (d.set 0 (aa v)) H;cases d with
 |nil=>rw[gT,B.len]at A;lia
 |cons a r=>exact q
theorem Ku{f b:az}{p pos:Pos}{d:List az}{wi:TI}{ts:TT}{te:TE}(B:iD X g x j l)(D:X.calm=ai)(z:PI X (.Name x p) b wi)(v:∀C a c o i,oC (bN X g j C a c o i) d ts) (A:∀C a c o i,PE (bN X g j C a c o i) f te) (y:∀x,mX b X.env x=pure x:=by intro _;rfl):PE X (.ListComp f [⟨.Name x p,b,d,0⟩] g pos) (zZ wi ts te l):=by intro m s w H Q I h;rw[eval_ListComp];exact Ee (use:=ae) B (j9 _) D z (BE B) v A y I h λE f3 r q=>by obtain⟨u,n,_⟩:=r.loc;exact⟨u,n,λF sb=>⟨.ref _,_,E.unblock f3 r sb,rfl,q⟩⟩
end
def Walk(J:It)(a:List V)(R:Hp->Prop):Prop :=
 ∀H,R H->∀i,(∀x,a[i]?=aa x->J.go i H/\∀y b,J.yld i H y b->b=H/\y=x)/\(i=a.length->J.stop i H)
theorem Ls{K:ax}{a:af}{b:List V}:Walk (yi K a) b (λH=>bP K H a b):=λH h i=>⟨λx c=>⟨⟨b,x,h,c⟩,λy f z=>⟨z.1,by have:=z.2 b h;rw[c]at this;exact(dz this).symm⟩⟩,λd=>⟨b,h,ln d.symm⟩⟩
theorem G0{K:ax}{a:af}{b:List V}:Walk (zi K a) b (λH=>bR K H a b):=λH h i=>⟨λx c=>⟨⟨b,x,h,c⟩,λy f z=>⟨z.1,by have:=z.2 b h;rw[c]at this;exact(dz this).symm⟩⟩,λd=>⟨b,h,ln d.symm⟩⟩
def pZ(a:Int)(n:Nat):List V:=(bI n).map λi=>V.int (a+(i:Nat))
theorem vq(a:Int)(n:Nat):(pZ a n).length=n:=by simp[pZ]
theorem CH{b:Int}{n:Nat}:Walk (sy b n) (pZ b n) (λ_=>True):=λH _ i=>by
 refine⟨λx a=>?_,λc=>by rw[vq]at c;exact ln c.symm⟩;have d:i<n:=by have:=(cY.mp a).1;rw[vq]at this;exact this
 refine⟨d,λy g z=>⟨z.1,?_⟩⟩;unfold pZ at a;rw[gx,Fy d]at a;have f:V.int (b+(i:Nat))=x:=dz a;rw[z.2,<-f]
def sg(c:Nat):V:=.str ⟨#[c]⟩
def sU(z:Str):It:=⟨λi _=>i<z.cps.size,λi H x a=>a=H/\∃c,z.cps[i]?=aa c/\x=sg c,λi _=>i=z.cps.size⟩
theorem Mi{z:Str}:Walk (sU z) (z.cps.toList.map sg) (λ_=>True):=λH _ i=>by
 refine⟨λx a=>?_,λd=>by show i=z.cps.size;simpa using d⟩;rw[gx]at a;cases e:z.cps.toList[i]? with
 |none=>rw[e]at a;cases a
 |some c=>
  rw[e]at a;have f:i<z.cps.size:=by have:=(cY.mp e).1;simpa using this
  refine⟨f,λy h w=>⟨w.1,?_⟩⟩;obtain⟨g,b,rfl⟩:=w.2;have:z.cps[i]?=aa c:=by simpa using e
  rw[this]at b;cases b;exact(dz a)
section
variable{X:Cx}{a:az}
theorem Nk{P:aL}{w:aE}{K:ax}{z:Str}{d:af}{f:Nat->aB->Prop} (S:∀i h,f i h->∃o n r,h.get? d=aa o/\o.cls=.type n/\o.data=.fields r /\ ["enumerate","zip","dict_itemiterator","dict_reverseitemiterator","odict_iterator","itertools.zip_longest","itertools.pairwise"].contains n=aj)(Px:∀(A:aS) (i:Nat) (s:ao) (Q:ah->ao->Prop) (E:ah->ao->Prop),f i s.heap->Q (.ref d) s->aq (aw P w) A (lc (.ref d)) Q E s)(C:∀A:aS,A.handled=ae->Walks P w A d [d] [d] z.cps.size (SignAt z) f):oh P w K a (sU z) [d] d f where
 mem:=by simp
 obj:=λi h g b j=>by
  have e:b=d:=by simpa using j
  subst e;obtain⟨o,n,r,J,_,G,_⟩:=S i h g;exact⟨o,J,λv q=>by rw[G]at q;cases q⟩
 keep:=λi h m g k=>by exact(C ({}:aS) rfl).frame i h m g k
 item:=by intro X D x F B i W s O H E I p g y;subst D x F;obtain⟨N,M,f2,f3,f4,L⟩:=p d (by simp);refine(C X.A (I.ok.hd B)).item i s _ _ y g λv m l Z T k=>?_;have I1:Inv X W O H {s with heap:=m,toks:=l}:=I.turned (t':=l) (λb o j e=>k b o (by simpa using j) e) N M f3 f4 L;obtain⟨o,n,r,J,h2,G,h4⟩:=S _ _ T;obtain⟨c,u,e1,rfl⟩:=Z;exact⟨_,rfl,pM (s:={s with heap:=m,toks:=l}) J h2 G h4 ⟨sg c,H,I1,⟨u,rfl⟩,⟨rfl,c,e1,rfl⟩,T,λb j=>(p b j).1⟩⟩
 done:=by intro X D x F B i W s O H E I p g y;subst D x F;obtain⟨N,M,f2,f3,f4,L⟩:=p d (by simp);have Y:i=z.cps.size:=y;subst Y;exact(C X.A (I.ok.hd B)).done s _ _ g λm l k=>⟨rfl,I.turned (t':=l) (λb o j e=>k b o (by simpa using j) e) N M f3 f4 L⟩
 self:=Px
theorem MF{J:It}{c:List V}{R:Hp->Prop}{g:TG}{n:TS}{D:jx}{b:St}{H:Hp}(C:Walk J c R)(d:Nat->St->Hp->Prop)(E:d 0 b H)(z:∀i b H,i<=c.length->d i b H->R H)(w:∀i x b H,c[i]?=aa x->d i b H->g x b H λh l=>n {D with nx:=d (i+1),ct:=d (i+1),bk:=D.nx} h l) (B:∀b H,d c.length b H->D.nx b H):∃W:Nat->Nat->St->Hp->Prop,(∃m,W 0 m b H)/\∀i m b H,W i m b H -> (J.stop i H/\D.nx b H)\/(J.go i H/\∃N:St->Hp->Prop,(∀j f,N j f->∃o,o<m/\W (i+1) o j f)/\∀x f,J.yld i H x f->g x b f λh l=>n {D with nx:=N,ct:=N,bk:=D.nx} h l):=by
 refine⟨λi m b H=>m=c.length-i/\i<=c.length/\d i b H,⟨c.length,by simp,j9 _,E⟩,?_⟩;rintro i m b H ⟨rfl,A,p⟩;have q:=C H (z i b H A p) i;by_cases s:i<c.length
 .have r:c[i]?=aa c[i]:=by simp[s]
  obtain⟨F,u⟩:=q.1 c[i] r;refine .inr ⟨F,d (i+1),λj f v=>⟨c.length-(i+1),∅,rfl,s,v⟩,λx f y=>?_⟩;obtain⟨rfl,rfl⟩:=u x f y;exact w i _ b _ r p
 .have e:i=c.length:=∅
  subst e;exact .inl ⟨q.2 rfl,B b H p⟩
theorem OA{b:Type}(l:List b)(f:b->Bool)(d:Nat->Bool)(c:∀i x,l[i]?=aa x->d i=f x):(bI l.length).all d=l.all f:=by
 induction l generalizing d with
 |nil=>rfl
 |cons x r g=>rw[dE,xi,qE,xj,qE,c 0 x rfl];congr 1;exact g _ λi y h=>c (i+1) y (by simpa using h)
theorem OU{bs:List Bool}{b:List ah}(r:bq (bs.map V.bl) b){i:Nat}{v:ah}(h:b.toArray[i]?=aa v):v=.bool (bs.getD i aj):=by
 have d:=r.length;rw[dD]at d;have g:i<b.length:=by have:=(nj.mp h).1;simpa using this
 have e:(bs.map V.bl)[i]?=aa (.bl (bs.getD i aj)):=by rw[gx,eh ∅];simp[tE,eh (show i<bs.length by lia)]
 obtain⟨u,c,f⟩:=r.get e;have:b[i]?=aa v:=by simpa using h
 rw[this]at c;cases c;exact f
theorem uW{A:aS}(h:A.handled=ae):A.in1.handled=ae:=h
theorem zO(j:X.calm=ai):fk X (.builtin "all") (λl H Q=>∃(p:af) (bs:List Bool),l=[.ref p]/\bP X.K H p (bs.map V.bl)/\Q (.bl (bs.all id)) H):=by
 intro N s w H l P Q I r h;obtain⟨p,bs,rfl,F,q⟩:=h;obtain⟨u,rfl,A⟩:=vals1 r;cases A;obtain⟨d,m,f,T⟩:=I.list F;have n:=m.length;rw[dD]at n;refine call_all_walk (xk f.isList ?_);have M:p≠s.heap.objs.size:=by obtain⟨o,g,_⟩:=f.isList;exact cT (bo g)
 refine⟨s.heap.objs.size,_,_,_,_,_,λi=>bs.getD i aj,rfl,xl (uW (I.ok.hd j)) s.heap.objs.size p M d.toArray,⟨⟨_,cf _ rfl,rfl,rfl⟩,?_⟩,λi v S Y Z E L=>?_,λW y k=>?_⟩
 .obtain⟨o,g,j,J⟩:=f.isList;exact⟨o,bh _ g,j,J⟩
 .rw[OU m E];exact k8 L
 .have e:(bI d.toArray.size).all (λi=>bs.getD i aj)=bs.all id:=by
   rw[bJ,<-n];exact OA bs id _ λi x D=>by simp[tE,D]
  rw[e];have O:Inv X N w H {s with heap:=s.heap.push {cls:=.type "list_iterator",data:=.fields #[.ref p,.int 0 0]},toks:=s.toks}:=I.kept (t':=s.toks) λb o e=>bh _ e;exact⟨.bl _,H,Inv.turned (t':=y) O (it:=s.heap.objs.size) (λb o K e=>k b o (by simpa using K) e) I.fresh (k9 I.lt) (.inr I.sz) (λx c e z=>by obtain⟨v,B⟩:=I.cell x c e;exact absurd B.lt (by rw[z];exact eO _)) (λC G z=>absurd (bo (I.pin C G).1) (by rw[z];exact eO _)),rfl,q⟩
end
section
variable{X:Cx}
def kL(z:Str)(a b:Option Int):Str:=⟨((z.cps.toList.drop (HT.sIx z.length 0 a)).take (HT.sIx z.length z.length b-HT.sIx z.length 0 a)).toArray⟩
theorem MD(a b:Nat):sliceRange (a:Int) (b:Int) 1=(bI (b-a)).map λk=>a+k:=by
 unfold sliceRange;have e:(if(1:Int) > 0 then(if(a:Int)<(b:Int)then((b:Int)-a+1-1) / 1 else 0)else(if(a:Int) > b then((a:Int)-b-1-1) / (-1)else 0)).toNat=b-a:=by
  rw[if_pos (by decide)];split
  .rw[Int.ediv_one];lia
  .have:b-a=0:=∅
   rw[this];rfl
 show(bI (if(1:Int) > 0 then(if(a:Int)<(b:Int)then((b:Int)-a+1-1) / 1 else 0)else(if(a:Int) > b then((a:Int)-b-1-1) / (-1)else 0)).toNat).map _=_;rw[e];refine nk λk _=>?_;lia
theorem Hy(a b:Option Int)(n:Nat):Builtin.Str.strSliceIndices a b 1 n=(bI (HT.sIx n n b-HT.sIx n 0 a)).map λk=>HT.sIx n 0 a+k:=by
 rw[<-MD];have p:(1:Int) > 0:=by decide
 cases a <;> cases b <;> (unfold Builtin.Str.strSliceIndices HT.sIx;simp only[p,if_true];congr 1 <;> (try split) <;> lia)
theorem Jd{b:Type}(l:List b)(a k:Nat):((bI k).map λj=>a+j).filterMap (λi=>l[i]?)=(l.drop a).take k:=by
 induction k with
 |zero=>simp
 |succ k c=>
  rw[qK,qL,List.filterMap_append,c,List.take_succ];congr 1;simp[tq];cases l[a+k]? <;> rfl
theorem I_(z:Str)(t:Tok)(l u:Option (Int×Tok)):∃m,sliceMade z t l u ae=m/\(m=.val (.str z t)/\kL z (l.map (·.1)) (u.map (·.1))=z\/m=.str (kL z (l.map (·.1)) (u.map (·.1)))):=by
 refine⟨_,rfl,?_⟩;unfold sliceMade slicePicked;have e:=Hy (l.map (·.1)) (u.map (·.1)) z.length;simp only[Option.map_none,Fm];rw[e];have d:=Jd z.cps.toList (HT.sIx z.length 0 (l.map (·.1))) (HT.sIx z.length z.length (u.map (·.1))-HT.sIx z.length 0 (l.map (·.1)));have b:(((bI (HT.sIx z.length z.length (u.map (·.1))-HT.sIx z.length 0 (l.map (·.1)))).map λk=>HT.sIx z.length 0 (l.map (·.1))+k).filterMap (z.cps[·]?)).toArray=(kL z (l.map (·.1)) (u.map (·.1))).cps:=by unfold kL;rw[<-d];simp
 split
 .rename_i h;left;refine⟨rfl,?_⟩;simp only[beq_self_eq_true,Bool.true_and,dD,qM,beq_iff_eq]at h;have g:HT.sIx z.length z.length (u.map (·.1))<=z.length:=HT.sIx_le _ _ (aZ _) _;have f:z.cps.toList.length=z.length:=by simp[ng]
  have a:HT.sIx z.length 0 (l.map (·.1))=0\/z.length=0:=∅
  unfold kL;rw[h];rcases a with a|a
  .rw[a,xm,lp ∅]
  .have:z.cps.toList=[]:=jK ∅;rw[this];cases z;rename_i c;simp at this;subst this;simp
 .right;rw[show(⟨(((bI (HT.sIx z.length z.length (u.map (·.1))-HT.sIx z.length 0 (l.map (·.1)))).map λk=>HT.sIx z.length 0 (l.map (·.1))+k).filterMap (z.cps[·]?)).toArray⟩:Str)=kL z (l.map (·.1)) (u.map (·.1))from by rw[b]]
def Db:V->Option Int->Option Int->Hp->VK->Prop:=λx a b H Q=>∃z,x=.str z/\z.length<=aX/\Q (.str (kL z a b)) H
theorem Oa(z:Str)(a b:Option Int):(kL z a b).length<=z.length:=by unfold kL ng;simp;lia
theorem part_of{v:ah}{o:Option Int}(p:l_ v o):∃q:Option (Int×Tok),v=partValue q/\q.map (·.1)=o:=by
 cases p with
 |none=>exact⟨ae,rfl,rfl⟩
 |int i t=>exact⟨aa (i,t),rfl,rfl⟩
theorem PN:lP X Db:=by
 intro y s n H x v p o r w a Q I b g d c h;obtain⟨z,rfl,f,q⟩:=h;obtain⟨t,rfl⟩:=b;obtain⟨l,rfl,rfl⟩:=part_of d;obtain⟨u,rfl,rfl⟩:=part_of c;refine⟨"str",_,F.slot_str_getitem.lookup,typeIs_str s z t,?_⟩;obtain⟨m,j,i⟩:=I_ z t l u;refine getItem_meets (typeIs_str s z t) (by decide) F.slot_str_getitem F.entry_str_getitem (F.args_str_getitem_2 _ _) (meets_str_getitem_slice z t a l u ae (by decide)) ⟨g,?_⟩;rw[j];rcases i with⟨rfl,e⟩|rfl
 .exact⟨.str z,H,I,⟨t,rfl⟩,by rw[e]at q;exact q⟩
 .exact⟨cA (Oa z _ _) f,⟨.str _,H,I.tok _,⟨_,rfl⟩,q⟩⟩
def gJ(K:ax)(H:Hp)(d:Nat)(x y:V)(k:Bool):Prop :=
 ∀(X:Cx),X.K=K->∀(b:List (af×Obj)) (a:St) (s:ao) (u v:ah) (A:aS),Inv X b a H s->RelV x u->RelV y v->A.units+d<cLine->tz A s u v k
theorem HC{K:ax}{H:Hp}{d:Nat}{x y:V}(f:gc x=ai)(c:gc y=ai):gJ K H d x y (cZ x y):=λ_ _ _ _ _ _ _ _ _ b a _=>CL b a f c
def fA(e:Nat->Bool)(n m:Nat):Bool:=(bI (min n m)).all e&&n == m
theorem E6{A:aS}:A.in1.units=A.units+1:=rfl
theorem yS{H:Hp}{d:Nat}{a b:af}{f c:List V}{e:Nat->Bool}{F:List (af×Obj)}{p:St}{s:ao}{A:aS}(I:Inv X F p H s)(N:bP X.K H a f)(M:bP X.K H b c)(L:∀(j:Nat) x y,f[j]?=aa x->c[j]?=aa y->gJ X.K H d x y (e j)) (T:A.units+(d+1)<cLine):SeqAt.RcAt A s (.ref a) (.ref b) (fA e f.length c.length)/\SeqAt.RcNeAt A s (.ref a) (.ref b) (!fA e f.length c.length):=by
 obtain⟨h,r,o,_⟩:=I.list N;obtain⟨l,q,g,_⟩:=I.list M;have K:=r.length;have S:=q.length;have B:∀j (D:j<h.toArray.size) (C:j<l.toArray.size),tz A.in1 s h.toArray[j] l.toArray[j] (e j):=λj D C=>by
  have P:j<h.length:=by simpa using D
  have Q:j<l.length:=by simpa using C
  have m:f[j]?=aa f[j]:=eh ∅;have E:c[j]?=aa c[j]:=eh ∅;obtain⟨u,z,J⟩:=r.get m;obtain⟨v,w,G⟩:=q.get E;have O:h[j]=u:=by rw[eh P]at z;exact dz z
  have f2:l[j]=v:=by rw[eh Q]at w;exact dz w
  have:=L j f[j] c[j] m E X rfl F p s u v A.in1 I J G (by rw[E6];lia);simpa[O,f2]using this
 by_cases i:f.length=c.length
 .have n:h.toArray.size=l.toArray.size:=by simp;lia
  have m:fA e f.length c.length=(bI h.toArray.size).all e:=by unfold fA;rw[i,Nat.min_self,beq_self_eq_true,Bool.and_true,bJ,<-K,i]
  rw[m];exact⟨.lists o.isList g.isList n ∅ B,.lists o.isList g.isList n ∅ B⟩
 .have m:fA e f.length c.length=aj:=by
   unfold fA;rw[beq_false_of_ne i,Bool.and_false]
  have n:(h.toArray.size != l.toArray.size)=ai:=by simp;lia
  rw[m];exact⟨.lists_lengths o.isList g.isList n ∅,.lists_lengths o.isList g.isList n ∅⟩
theorem zV{H:Hp}{d:Nat}{a b:af}{f c:List V}{e:Nat->Bool}{D:List (af×Obj)}{m:St}{s:ao}{A:aS}(I:Inv X D m H s)(M:bR X.K H a f)(L:bR X.K H b c)(K:∀(j:Nat) x y,f[j]?=aa x->c[j]?=aa y->gJ X.K H d x y (e j)) (Q:A.units+(d+1)<cLine):SeqAt.RcAt A s (.ref a) (.ref b) (fA e f.length c.length)/\SeqAt.RcNeAt A s (.ref a) (.ref b) (!fA e f.length c.length):=by
 obtain⟨h,o,r,_⟩:=I.tuple M;obtain⟨g,n,i,_⟩:=I.tuple L;have J:=o.length;have G:=n.length;have w:∀j (B:j<h.toArray.size) (z:j<g.toArray.size),tz A.in1 s h.toArray[j] g.toArray[j] (e j):=λj B z=>by
  have O:j<h.length:=by simpa using B
  have P:j<g.length:=by simpa using z
  have l:f[j]?=aa f[j]:=eh ∅;have C:c[j]?=aa c[j]:=eh ∅;obtain⟨u,q,F⟩:=o.get l;obtain⟨v,p,E⟩:=n.get C;have N:h[j]=u:=by rw[eh O]at q;exact dz q
  have f2:g[j]=v:=by rw[eh P]at p;exact dz p
  have:=K j f[j] c[j] l C X rfl D m s u v A.in1 I F E (by rw[E6];lia);simpa[N,f2]using this
 have l:fA e f.length c.length=((bI (min h.toArray.size g.toArray.size)).all e&&h.toArray.size == g.toArray.size):=by unfold fA;rw[bJ,bJ,<-J,<-G]
 rw[l];exact⟨.tuples r i ∅ w,.tuples r i ∅ w⟩
theorem GE{K:ax}{H:Hp}{d:Nat}{a b:af}{f c:List V}{e:Nat->Bool}(n:bP K H a f)(m:bP K H b c)(p:a≠b)(l:∀(j:Nat) x y,f[j]?=aa x->c[j]?=aa y->gJ K H d x y (e j)):gJ K H (d+1) (.ref a) (.ref b) (fA e f.length c.length):=λX o r q s u v A I h g i=>by
 subst o;cases h;cases g;exact .of_refs p (yS I n m l i).1
theorem IC{K:ax}{H:Hp}{d:Nat}{a b:af}{f c:List V}{e:Nat->Bool}(n:bR K H a f)(m:bR K H b c)(p:a≠b)(l:∀(j:Nat) x y,f[j]?=aa x->c[j]?=aa y->gJ K H d x y (e j)):gJ K H (d+1) (.ref a) (.ref b) (fA e f.length c.length):=λX o r q s u v A I h g i=>by
 subst o;cases h;cases g;exact .of_refs p (zV I n m l i).1
theorem BJ{K:ax}{H:Hp}{d:Nat}{a:af}:gJ K H d (.ref a) (.ref a) ai:=λX h i f s u v A I c b g=>by
 cases c;cases b;exact .same _
def rR(K:ax)(g:Bool):R2:=λx y H Q=>∃a b f c d e,x=.ref a/\y=.ref b/\((bP K H a f/\bP K H b c)\/(bR K H a f/\bR K H b c))/\d<=8 /\
 (∀(j:Nat) x y,f[j]?=aa x->c[j]?=aa y->gJ K H d x y (e j))/\Q (.bl (if g then !fA e f.length c.length else fA e f.length c.length)) H
theorem GV(n:X.A.units+64<cLine):bD X (dr .Eq) (rR X.K aj):=by
 intro p s j H x y v u Q I g f h;obtain⟨a,b,m,l,d,e,rfl,rfl,i,o,c,q⟩:=h;cases g;cases f;rcases i with⟨h1,h2⟩|⟨h1,h2⟩
 .exact(yS I h1 h2 c ∅).1 _ _ _ _ ⟨.bl _,H,I,rfl,q⟩
 .exact(zV I h1 h2 c ∅).1 _ _ _ _ ⟨.bl _,H,I,rfl,q⟩
theorem Mv(n:X.A.units+64<cLine):bD X (dr .NotEq) (rR X.K ai):=by
 intro p s j H x y v u Q I g f h;obtain⟨a,b,m,l,d,e,rfl,rfl,i,o,c,q⟩:=h;cases g;cases f;rcases i with⟨h1,h2⟩|⟨h1,h2⟩
 .exact(yS I h1 h2 c ∅).2 _ _ _ _ ⟨.bl _,H,I,rfl,q⟩
 .exact(zV I h1 h2 c ∅).2 _ _ _ _ ⟨.bl _,H,I,rfl,q⟩
theorem Eo{y:V}:∀{a:List V}{b:List ah},bq a b->a.all gc=ai->b.countP (jg y)=a.countP λz=>cZ z y
 |_,_,.nil,_=>rfl
 |z::a,u::b,.cons r t,f=>by rw[qE,fU]at f;rw[List.countP_cons,List.countP_cons,vo r f.1,Eo t f.2]
def Ji(K:ax):V->List V->Hp->VK->Prop:=λx b H Q=>∃(p:af) (a:List V) (y:V),x=.ref p/\b=[y]/\bR K H p a/\gc y=ai/\a.all gc=ai/\Q (.int ((a.countP λz=>cZ z y:Nat):Int)) H
theorem Gu:wI X "tuple.count" (Ji X.K):=by
 intro K s C H x E v G Q I i j h;obtain⟨p,D,y,rfl,rfl,o,z,d,q⟩:=h;cases i;obtain⟨u,rfl,l⟩:=j.one;obtain⟨a,r,⟨⟨B,A,f,g⟩,e,c,n,b⟩,J⟩:=I.tuple o;simp only at c b;subst c b;refine call_meets F.slot_tuple_count ⟨_,e,rfl⟩ F.entry_tuple_count (F.args_tuple_count_2 _ _) (SeqAt.tuple_countAt p a.toArray n A g u (jg y)) ⟨e,λw m=>rL l z r d w (by simpa using m),?_⟩;exact⟨.int _,H,I.tok _,⟨_,by rw[Fz,Eo r d]⟩,q⟩
end
abbrev Tx:=List Nat
def tS(l:Tx):Str:=⟨l.toArray⟩
def tV(l:Tx):V:=.str (tS l)
def cy(ls:List Tx):List V:=ls.map tV
theorem jy(l:Tx):(tS l).cps.toList=l:=by simp[tS]
theorem kM(l:Tx):(tS l).length=l.length:=by simp[tS,ng]
theorem KY(z:Str):tS z.cps.toList=z:=by cases z;simp[tS]
theorem og{a b:Tx}(h:tS a=tS b):a=b:=by rw[<-jy a,h,jy]
theorem JB{a b:Tx}(h:tV a=tV b):a=b:=og (V.str.inj h)
theorem sK(a:List Tx):(cy a).length=a.length:=dD _
def cF(a b:Tx):Bool:=decide (a<=b)
def aV(ls:List Tx):List Tx:=ls.mergeSort cF
theorem CD(a b c:Tx)(f:cF a b=ai)(d:cF b c=ai):cF a c=ai:=by simp only[cF,decide_eq_true_eq]at *;exact List.le_trans f d
theorem IZ(a b:Tx):(cF a b||cF b a)=ai:=by simp only[cF,xn,decide_eq_true_eq];exact List.le_total a b
theorem MA{a b:Tx}(d:cF a b=ai)(c:cF b a=ai):a=b:=by simp only[cF,decide_eq_true_eq]at *;exact Ar d c
theorem eE(ls:List Tx):(aV ls).Perm ls:=List.mergeSort_perm _ _
theorem sL(ls:List Tx):(aV ls).Pairwise (λa b=>cF a b=ai):=List.pairwise_mergeSort CD IZ _
theorem zq(ls:List Tx):(aV ls).length=ls.length:=(eE ls).length_eq
theorem wm{c d:List Tx}(g:d.Perm c)(f:d.Pairwise (λa b=>cF a b=ai)):d=aV c :=List.Perm.eq_of_pairwise (le:=λa b=>cF a b=ai) (λ_ _ _ _ i h=>MA i h) f (sL c) (g.trans (eE c).symm)
theorem qk{ls:List Tx}(c:ls.Pairwise (λa b=>cF a b=ai)):aV ls=ls:=(wm (qN ls) c).symm
theorem u_{ls a:List Tx}(b:ls.Perm a):aV ls=aV a:=wm ((eE ls).trans b) (sL ls)
theorem CC:∀(p:Str) (l:List Str),risingS p l=ai->(p::l).Pairwise (λa b=>cF a.cps.toList b.cps.toList=ai)
 |p,[],_=>List.pairwise_singleton _ _
 |p,x::r,h=>by
  have d:(!ltCps x.cps.toList p.cps.toList&&risingS x r)=ai:=h;rw[fU,ltCps_eq]at d;have q:=CC x r d.2;have f:cF p.cps.toList x.cps.toList=ai:=by simp only[cF,decide_eq_true_eq];intro g;simp[g]at d
  refine FA.mpr ⟨λy c=>?_,q⟩;rcases br.mp c with rfl|c
  .exact f
  .exact CD _ _ _ f (List.rel_of_pairwise_cons q c)
theorem OF{c:List Str}(h:sortedS c=ai):(c.map λz=>z.cps.toList).Pairwise (λa b=>cF a b=ai):=by
 rw[List.pairwise_map];cases c with
 |nil=>exact List.Pairwise.nil
 |cons x r=>exact CC x r h
theorem xQ:∀{ls:List Tx}{a:List ah},bq (cy ls) a->dY a (ls.map tS)
 |[],_,.nil=>.nil
 |l::ls,_::_,.cons ⟨t,e⟩ r=>by subst e;exact .cons _ t (xQ (ls:=ls) r)
theorem Dx:∀{b:List Str}{a:List ah},dY a b->bq (cy (b.map λz=>z.cps.toList)) a
 |_,_,.nil=>.nil
 |_,_,.cons y t h=>.cons ⟨t,by rw[KY]⟩ (Dx h)
section
variable{X:Cx}
theorem J_(z:Tx)(n:Nat):Txt.mul (tS z) (n:Int)=tS (df n z).flatten:=by
 unfold Txt.mul;cases n with
 |zero=>simp[tS,gi]
 |succ n=>
  rw[if_neg ∅];split
  .rename_i h;simp only[xn,beq_iff_eq]at h;rcases h with h|h
   .have:n=0:=∅
    subst this;simp
   .rw[kM]at h;have:z=[]:=jK h;subst this;simp
  .unfold tS;congr 1;have b:∀(k:Nat) (a:Array Nat),(df k z.toArray).foldl (·++·) a=a++(df k z).flatten.toArray:=by
    intro k
    induction k with
    |zero=>intro a;simp
    |succ k c=>intro a;rw[Fs,j_,c,Fs,List.flatten_cons];simp[Array.append_assoc]
   have e:=b (n+1) #[];simp only[gy];simpa using e
theorem L0:bD X (fG .Mult) (λx y H Q=>∃(z:Tx) (n:Nat),x=tV z/\y=.int n/\n<=100/\z.length<=100/\Q (tV (df n z).flatten) H):=by
 intro w s j H x y v u Q I c b h;obtain⟨z,n,rfl,rfl,f,d,q⟩:=h;obtain⟨t,rfl⟩:=c;obtain⟨m,rfl⟩:=b;refine SB.mul ?_ λl k=>?_
 .have o:z.length*n<=10000:=cA (xo d f) (by decide);refine⟨by rw[Bool.or_eq_false_iff];constructor <;> (apply decide_eq_false;lia),λi _=>?_,λi _=>?_⟩
  .rw[kM];intro g;have r:(2^63-1:Int) / n ≥ (2^63-1) / 100:=by
    have a:(0:Int)<n:=∅
    apply (Int.le_ediv_iff_mul_le a).mpr;have:((2^63-1:Int) / 100)*n<=((2^63-1) / 100)*100:=Int.mul_le_mul_of_nonneg_left ∅ (by decide);refine Int.le_trans this (by decide)
   have p:((2^63-1:Int) / 100) > 1000:=by decide
   lia
  .rw[kM,gy];unfold Builtin.Str.tooLong;apply decide_eq_false;have:10000<aX:=by rw[mY];decide
   lia
 .rw[J_];exact⟨tV _,H,I.tok _,⟨_,rfl⟩,q⟩
end
theorem Kf(t:jm)(j:Nat):(t.put j).1.led=t.led/\(t.put j).1.plain=t.plain:=⟨rfl,rfl⟩
theorem GJ(t:jm)(n:Nat):(t.orStandIn n).led=t.led/\((t.orStandIn n).plain=t.plain\/(t.orStandIn n).plain=aj):=by
 unfold SetTable.orStandIn;split
 .exact⟨rfl,.inl rfl⟩
 .exact⟨rfl,.inr rfl⟩
theorem Hu(t:jm)(c:Array (Int×ah))(h:Int)(x:ah):(layNew t c h x).2.1.led=t.led/\((layNew t c h x).2.1.plain=t.plain\/(layNew t c h x).2.1.plain=aj):=by
 unfold layNew;split
 .rename_i a b _;have f:=Kf t a;have d:=GJ (t.put a).1 (SetTable.insertAt c (t.put a).2 (h,x)).size;exact⟨d.1.trans f.1,by rw[<-f.2];exact d.2⟩
 .exact⟨rfl,.inr rfl⟩
theorem LH(t:jm)(c:Array (Int×ah))(a:Nat)(d:t.plain=aj):(qO t c a).2.1.led=t.led/\(qO t c a).2.1.plain=aj:=by
 unfold qO;split
 .rename_i t' b e;have q:t'.led=t.led/\t'.plain=t.plain:=by
   unfold SetTable.relaid SetTable.laid at e;cases q:SetTable.layClean (SetTable.sizeAbove a-1) (c.map (·.1))with
   |none=>rw[q]at e;cases e
   |some f=>rw[q]at e;cases e;exact⟨rfl,rfl⟩
  dsimp only;split
  .exact⟨q.1,q.2.trans d⟩
  .exact⟨rfl,rfl⟩
 .exact⟨rfl,rfl⟩
def dv(w:aE):Bool:=w.params.followText "set-order"
structure jC(P:aL)(w:aE)(h:aB)(a:af)(ks:List Str):Prop where
 ex:∃(es:Array (Int×ah)) (ep:Nat) (t:jm) (ss:List Str),h.get? a=aa {cls:=.type "set",dict:=ae,data:=.set es ep t}/\dY (es.toList.map (·.2)) ss/\ss.Perm ks/\ElemsOf (iQ P w) es.toList /\
  es.size<4090/\t.fits es.size=ai/\t.led=(!dv w)/\(ks≠[]->t.plain=aj)
theorem jC.at{P:aL}{w:aE}{h b:aB}{a:af}{ks:List Str}(S:jC P w h a ks)(k:∀o,h.get? a=aa o->b.get? a=aa o):jC P w b a ks:=by obtain⟨es,c,t,ss,e,r⟩:=S.ex;exact⟨es,c,t,ss,k _ e,r⟩
theorem DZ:∀{a:List ah}{b:List Str},dY a b->∀x,x∈b↔∃t,Value.str x t∈a
 |_,_,.nil,x=>by simp
 |_,_,.cons y t h,x=>by
  rw[br,DZ h x];constructor
  .rintro(rfl|⟨t',q⟩)
   .exact⟨t,jD ..⟩
   .exact⟨t',jE _ q⟩
  .rintro⟨t',q⟩;rcases br.mp q with q|q
   .cases q;exact .inl rfl
   .exact .inr ⟨t',q⟩
theorem yz:∀{a b:List ah},a.Perm b->∀{c:List Str},dY b c->∃d,dY a d/\d.Perm c:=by intro a b p c h;refine⟨a.map strOf,strsAre_map a λv f=>h.all v (p.mem_iff.mp f),?_⟩;have:=p.map strOf;rwa[h.strs]at this
section
variable{P:aL}{w:aE}{A:aS}{E:ah->ao->Prop}{s:ao}
def je(ks:List Str)(x:Str):List Str:=if x∈ks then ks else ks++[x]
theorem jC.put{h:aB}{a:af}{c es':Array (Int×ah)}{b:Nat}{t t':jm}(e:h.get? a=aa {cls:=.type "set",dict:=ae,data:=.set c b t}):(h.update a (Obj.putSet es' t')).get? a=aa {cls:=.type "set",dict:=ae,data:=.set es' (b+1) t'}:=by have:=nh (Obj.putSet es' t') e (by rw[putSet_of es' t' rfl];rfl);rw[putSet_of es' t' rfl]at this;exact this
theorem HI{a:af}{ks:List Str}{x:Str}{g:Tok}{Q:Bool->ao->Prop}(S:jC P w s.heap a ks)(hn:ks.length<4000)(h:∀l b,jF a s.heap l->jC P w l a (je ks x)->Q b {s with heap:=l}):aq (aw P w) A (setAddHashed a (.str x g) ((iQ P w).hash x)) Q E s:=by
 obtain⟨m,ep,t,ss,W,X,hp,C,hsz,hf,o7,dG⟩:=S.ex;have v:∀y t',(iQ P w).is x (.str y t')=decide (y=x):=λy t'=>by
  show oP x (.str y t')=_;rw[lg];simp[oP]
  try exact eq_comm
 have b8:(iQ P w).is x (.str x g)=ai:=by rw[v];simp
 have hb:m.size<scanBound:=An hsz (by decide);unfold setAddHashed setAddHashedIn;refine iN (ap (qP W rfl hf ?_));dsimp only;rw[byScan_of (knd:=iQ P w) (x:=.str x g) rfl hb C];simp only[if_true];unfold setAddByScan;refine ap (ap (me (ap (wpAny_setScan_of b8 W rfl hf C ?_))));have p:x∈ks↔∃e∈m.toList,(iQ P w).is x e.2=ai:=by
  rw[<-hp.mem_iff,DZ X x];constructor
  .rintro⟨t',q⟩;obtain⟨e,H,ee⟩:=cp.mp q;exact⟨e,H,by rw[ee,v];simp⟩
  .rintro⟨e,H,q⟩;obtain⟨y,t',ey⟩:=X.all e.2 (cp.mpr ⟨e,H,rfl⟩);rw[ey,v]at q;have:y=x:=of_decide_eq_true q;subst this;exact⟨t',cp.mpr ⟨e,H,ey⟩⟩
 have klen:ks.length=m.size:=by
  have Z:=hp.length_eq;have Y:ss.length=m.size:=by rw[<-X.strs];simp
  lia
 cases hr:List.findIdx? (λe=>(iQ P w).is x e.2) m.toList with
 |some j=>dsimp only;obtain⟨hj,hpj,_⟩:=Pk.mp hr;have T:x∈ks:=p.mpr ⟨_,As hj,hpj⟩;refine aC (aC ?_);exact h s.heap _ (Heap.SameBut.refl a s.heap) (by unfold je;rw[if_pos T];exact S)
 |none=>
  dsimp only;have T:¬x∈ks:=λhm=>by obtain⟨e,H,q⟩:=p.mp hm;have:=List.findIdx?_eq_none_iff.mp hr e H;rw[q]at this;exact Bool.noConfusion this
  have J:∀(b:Bool) {i:ao}{Q':Unit->ao->Prop},Q' () i->aq (aw P w) A (match b with|ai=>rule "set.scan.the-table-gave-way" |aj=>pure ()) Q' E i :=
   λb i Q' hq=>by cases b <;> first|exact aC hq|exact me hq
  have F:=layNew_perm t m ((iQ P w).hash x) (.str x g);have M:=layNew_fits t m ((iQ P w).hash x) (.str x g);have z:=Hu t m ((iQ P w).hash x) (.str x g);generalize hL:layNew t m ((iQ P w).hash x) (.str x g)=L at F M z ⊢;obtain⟨c,t1,f,gave⟩:=L;dsimp only at F M z ⊢;rw[tF]at F;have u:ElemsOf (iQ P w) c.toList:=(C.push b8 rfl).perm F;have hsz1:c.size=m.size+1:=by have:=F.length_eq;simpa using this
  have hS1:∃G,dY (c.toList.map (·.2)) G/\G.Perm (je ks x):=by
   have p1:=F.map (λe:Int×ah=>e.2);rw[qL]at p1;have q1:dY (m.toList.map (·.2)++[Value.str x g]) (ss++[x]):=by
    have gen:∀{vs:List ah}{zs:List Str},dY vs zs->dY (vs++[Value.str x g]) (zs++[x]):=by
     intro vs zs hh
     induction hh with
     |nil=>exact .cons x g .nil
     |cons y t _ ih=>exact .cons y t ih
    exact gen X
   obtain⟨G,O,N⟩:=yz p1 q1;refine⟨G,O,N.trans ?_⟩;unfold je;rw[if_neg T];exact hp.append_right _
  obtain⟨G,O,N⟩:=hS1;have b9:je ks x≠[]:=by unfold je;rw[if_neg T];simp
  have o:∀d:jm,d.fits c.size=ai->d.led=(!dv w)->d.plain=aj->aq (aw P w) A (do
    storeSet a c d
    if(!f&&d.tooFull)=ai then do
      (match (qO d c (qQ c.size)).2.2 with|ai=>rule "set.scan.the-table-gave-way" |aj=>pure ())
      storeSet a (qO d c (qQ c.size)).1 (qO d c (qQ c.size)).2.1
      pure (aa ai)
     else pure (aa ai)) (λr s'=>∃l,r=aa ai/\s'={s with heap:=l}/\jF a s.heap l/\jC P w l a (je ks x)) E s:=by
   intro d hf2 lD eY;refine ap (wpAny_storeSet_of W rfl ?_ (fits_of_scanBound (An (show c.size<4090 by lia) (by decide))));have o1:=jC.put (es':=c) (t':=d) W;have ix:=mf s.heap a (Obj.putSet c d);split
   .have K:=relayAll_perm d c (qQ c.size);have B:=relayAll_fits d c (qQ c.size);have n:=LH d c (qQ c.size) eY;generalize hRl:qO d c (qQ c.size)=Rl at K B n ⊢;obtain⟨D,t3,gave2⟩:=Rl;dsimp only at K B n ⊢;have hsz2:D.size=c.size:=by have:=K.length_eq;simpa using this
    refine ap (J _ ?_);refine ap (wpAny_storeSet_of o1 rfl ?_ (fits_of_scanBound (An (show D.size<4090 by lia) (by decide))));obtain⟨ss2,u1,u2⟩:=yz (K.map (λe:Int×ah=>e.2)) O;refine aC ⟨_,rfl,rfl,ix.trans (mf _ a _),⟨D,_,t3,ss2,jC.put o1,u1,u2.trans N,u.perm K,∅,B,n.1.trans lD,λ_=>n.2⟩⟩
   .exact aC ⟨_,rfl,rfl,ix,⟨c,_,d,G,o1,O,N,u,∅,hf2,lD,λ_=>eY⟩⟩
  have Ge:t1.led=(!dv w):=z.1.trans o7;refine ap (J _ ?_);split
  .refine ap ?_;rw[hashByValue_scannable 8 (x:=.str x g) rfl];refine aC ?_;have hk:plainKind (.str x g)=aj:=rfl;rw[hk];simp only[jL,if_false];refine aI (o {t1 with plain:=aj} (SetTable.fits_plain_off M) Ge rfl) λr s' ⟨l,Z,Y,e3,e4⟩=>?_;subst Z Y;exact aC (h l _ e3 e4)
  .rename_i I;refine ap (aC ?_);simp only[if_true];refine aI (o t1 M Ge (by simpa using I)) λr s' ⟨l,Z,Y,e3,e4⟩=>?_;subst Z Y;exact aC (h l _ e3 e4)
end
def met(val:Nat->Str)(i:Nat):List Str:=((bI i).map val).foldl je []
theorem DV(val:Nat->Str)(i:Nat):met val (i+1)=je (met val i) (val i):=by unfold met;rw[qK,qL,At];rfl
theorem CS(val:Nat->Str){i:Nat}:∀{j:Nat},i<=j->(met val i).length<=(met val j).length
 |0,h=>by rw[show i=0 by lia];exact aZ _
 |j+1,h=>by
  by_cases e:i=j+1
  .subst e;exact aZ _
  .refine cA (CS val (j:=j) ∅) ?_;rw[DV];unfold je;split
   .exact aZ _
   .simp
section
variable{P:aL}{w:aE}{A:aS}{R:Result->ao->Prop}{I:af}{c a:List af}{G:Array GenState->Array GenState->Prop}{n:Nat}{d:Nat->ah->Prop}{St:Nat->ao->Prop}
theorem Jh(W:WalksS P w A.in1 I c a G n d St)(S:af)(q:S∉c){J:Nat->aB->Prop}(H:∀i h j,J i h->(∀b o,b∉a->h.get? b=aa o->j.get? b=aa o)->J i j)(N:∀(i:Nat) (v:ah) (s:ao) (E:ah->ao->Prop) (Q:Bool->ao->Prop),i<n->d i v->J i s.heap->(∀j u b,s.toks<=u->jF S s.heap j->J (i+1) j->Q b {s with heap:=j,toks:=u})->aq (aw P w) A.in1 (setAdd S v) Q E s):∀(k i:Nat) (s:ao),n-i=k->i<=n->St i s->J i s.heap -> (∀f,Moved (S::a) G s f->J n f.heap->R (.ok (.ret .none)) f)->mZ (aw P w) A (.builtin "set.update.loop" ⟨[.ref S,.ref I],[]⟩) R s:=by
 have X:S∉a:=λh=>q (W.sub _ h);have K:∀b∈a,b∈S::a:=λb g=>jE _ g;intro k
 induction k with
 |zero=>
  intro i s O T B y z;obtain rfl:i=n:=∅
  refine nq Pl ?_;rw[oY FC _];show aq _ A.in1 (k_ (.ref I) >>= _) _ _ s;refine ap (W.done s _ _ B λf p=>?_);show aq _ A.in1 (ret Value.none) _ _ f;exact aC (z f (p.mono K) (H _ _ _ y λb o g e=>p.heap b o g e))
 |succ k M=>
  intro i s O T B y z;have C:i<n:=∅
  refine nq Pl ?_;rw[oY FC _];show aq _ A.in1 (k_ (.ref I) >>= _) _ _ s;refine ap (W.item i s _ _ C B λv f Y l p=>?_);show aq _ A.in1 (mV [v] (setAdd S v) >>= _) _ _ f;refine ap (iN (N i v f _ _ C Y (H _ _ _ y λb o g e=>p.heap b o g e) λj u b D F L=>?_));refine aC ⟨oZ FC _,M (i+1) _ ∅ C (W.frame _ f _ _ l D λb g o e=>?_) L λx m r=>?_⟩
  .rw[F.2 b (λh:b=S=>q (by rw[<-h];exact g))];exact e
  .refine z x (Moved.trans W.gtrans ((p.mono K).then_heap D λb o g e=>?_) m) r;rw[F.2 b (λh:b=S=>g (by rw[h];exact jD))];exact e
end
section
variable{P:aL}{w:aE}{A:aS}{E:ah->ao->Prop}{s:ao}
theorem JR(a:ah){Q:ah->ao->Prop} (h:jC P w (s.heap.push {cls:=.type "set",dict:=ae,data:=.set #[] 0 (.fresh 0 0 (!dv w))}) s.heap.objs.size [] -> Q (.ref s.heap.objs.size) {s with heap:=s.heap.push {cls:=.type "set",dict:=ae,data:=.set #[] 0 (.fresh 0 0 (!dv w))}}):mZ (aw P w) A (.call (.builtin "set.__new__") ⟨[.type "set",a],[]⟩) (wants Q E) s:=by
 refine codeAny_of_tree ?_;show aq _ A.in1 (do checkBuiltinCall "set.__new__" ⟨[.type "set",a],[]⟩;again (.builtin "set.__new__" ⟨[.type "set",a],[]⟩)) _ _ s;refine ap (tG (PySem.F.newCall_set_1 a) (aC ⟨oZ F.plain_set_new _,nq F.entry_set_new ?_⟩));rw[oY F.plain_set_new _];unfold Builtin.«set.__new__» Builtin.Frozenset.newClass;have j:=sub_set_self;obtain⟨i,g,d,c,f⟩:=s;dsimp only
 wp_walk
 refine qR (aC ?_);dsimp only;simp only[newObj];refine ap (wpAny_alloc (aC ?_));refine aC (h ⟨#[],0,_,[],cf _ rfl,.nil,qN _,λe b=>by simp at b,by decide,rfl,rfl,λh=>absurd rfl h⟩)
end
end L2
set_option maxHeartbeats 8000000
namespace L2
theorem GG:entryFor table "set.__iter__"=aa Builtin.«frozenset.__iter__»:=entryFor_alias (id':="frozenset.__iter__") (by kernel_rfl) rfl (by decide +kernel) (by kernel_rfl)
theorem Ck:Slot "set_iterator" "__next__" "set_iterator.__next__" :=
 .of (owner:="set_iterator") (n:="__next__") (by rw[typeLookup_type,builtinLookup_eq_fast];kernel_rfl) (by decide +kernel) (by decide +kernel) (by decide +kernel) (by first|exact .inl (by decide +kernel)|exact .inr (by decide +kernel)) (by rw[isSubtype_type];kernel_rfl)
theorem J2:entryFor table "set_iterator.__next__"=aa Builtin.«set_iterator.__next__»:=entryFor_of_fast (by kernel_rfl)
theorem Li(a:ah):argsOk "set_iterator.__next__" ⟨[a],[]⟩:=by unfold argsOk;kernel_rfl
theorem Be:Slot "set_iterator" "__iter__" "set_iterator.__iter__" :=
 .of (owner:="set_iterator") (n:="__iter__") (by rw[typeLookup_type,builtinLookup_eq_fast];kernel_rfl) (by decide +kernel) (by decide +kernel) (by decide +kernel) (by first|exact .inl (by decide +kernel)|exact .inr (by decide +kernel)) (by rw[isSubtype_type];kernel_rfl)
theorem Le:entryFor table "set_iterator.__iter__"=aa Builtin.«dict_keyiterator.__iter__»:=entryFor_alias (id':="dict_keyiterator.__iter__") (by kernel_rfl) rfl (by decide +kernel) (by kernel_rfl)
theorem Gq(a:ah):argsOk "set_iterator.__iter__" ⟨[a],[]⟩:=by unfold argsOk;kernel_rfl
def hV(first:ah)(i:Nat)(a:af)(n b:Nat):Obj:={cls:=.type "set_iterator",data:=.fields #[first,.int i 0,.ref a,.int n 0,.int b 0]}
section
variable{P:aL}{w:aE}{A:aS}{E:ah->ao->Prop}{s:ao}
theorem uS{I a:af}{first:ah}{i n d:Nat}{Q:ah->ao->Prop}(h:s.heap.get? I=aa (hV first i a n d))(c:Q (.ref I) s):aq (aw P w) A (lc (.ref I)) Q E s:=by
 have b:s.TypeIs (.ref I) "set_iterator":=⟨_,h,rfl⟩
 refine FD b Be (m_ Be b Le ?_ (Gq _));show aq _ _ (ret (.ref I)) _ _ s;exact aC ⟨_,rfl,"set_iterator",_,b,Ck.lookup,c⟩
theorem om{I a:af}{first:ah}{i:Nat}{f:Array (Int×ah)}{g:Nat}{t:jm}{Q:Option ah->ao->Prop}(n:s.heap.get? a=aa {cls:=.type "set",dict:=ae,data:=.set f g t})(m:t.fits f.size=ai)(l:s.heap.get? I=aa (hV first i a f.size g))(h:aq (aw P w) A.in1 (if let .int slot _:=first then do
    match <-mh a slot.toNat (i:Int).toNat (g:Int).toNat with
    |some (x,next)=>do
     ka (.ref I) 0 (cP next)
     ka (.ref I) 1 (cP ((i:Int)+1))
     ret x
    |none=>do ka (.ref I) 2 .none;raiseNew (<-newExc (.type "StopIteration") [])
   else do
    let aa places <-seqItems? first|unsupported "internal:set_iterator"
    match places[(i:Int).toNat]? with
    |some (.int d _)=>do
     let x <-setNextDrawn a d.toNat (g:Int).toNat
     ka (.ref I) 1 (cP ((i:Int)+1))
     ret x
    |some _=>unsupported "internal:set_iterator"
    |none=>do ka (.ref I) 0 (cP 0);ka (.ref I) 2 .none;raiseNew (<-newExc (.type "StopIteration") []))
   (λc b=>∃r,c=.done (.ret r)/\Q (aa r) b) (λe b=>aq (aw P w) A (do if <-isInstance e (.type "StopIteration")then pure ae else throw e) Q E b) s) :
  aq (aw P w) A (k_ (.ref I)) Q E s:=by
 have j:s.TypeIs (.ref I) "set_iterator":=⟨_,l,rfl⟩
 unfold k_;refine ap (Au (Ai (name:=oV "__next__") j Ck (m_ Ck j J2 ?_ (Li _))));unfold Builtin.«set_iterator.__next__» slotArgs;refine ap (aC ?_);refine ap (wpAny_fieldsOf l rfl ?_);show aq _ _ (setEntries a >>= _) _ _ s;refine ap (wpAny_setEntries_of n rfl m ?_);have u:(((f.size:Nat):Int) != ((f.size:Nat):Int))=aj:=by simp
 rw[u];simp only[jL,if_false];refine eP ?_ (λc b q=>?_) (λe b q=>q) (Q:=λc b=>∃r,c=.done (.ret r)/\Q (aa r) b) (E:=λe b=>aq (aw P w) A (do if <-isInstance e (.type "StopIteration")then pure ae else throw e) Q E b)
 .exact h
 .obtain⟨r,p,o⟩:=q;exact⟨r,p,aC o⟩
end
theorem zQ{a:Type}:∀{l:List a}{i:Nat} (h:i<l.length),(l[i]::l.eraseIdx i).Perm l
 |[],i,h=>by simp at h
 |x::r,0,h=>by simp
 |x::r,i+1,h=>by have q:=zQ (l:=r) (i:=i) (by simpa using h);simp only[List.getElem_cons_succ,List.eraseIdx_cons_succ];exact(List.Perm.swap x _ _).trans (List.Perm.cons x q)
theorem CF{f:Type}(next:Nat->Nat):∀(c k:Nat) (a:List f) (b:Array f),c=a.length->(pickOrder.go next c k a b).toList.Perm (b.toList++a)
 |0,k,a,b,h=>by have:a=[]:=jK h.symm;subst this;simp[pickOrder.go]
 |c+1,k,a,b,h=>by
  have d:next k % a.length<a.length:=Nat.mod_lt _ ∅
  unfold pickOrder.go;rw[eh d];dsimp only;have g:=CF next c (k+1) (a.eraseIdx (next k % a.length)) (b.push a[next k % a.length]) (by rw[List.length_eraseIdx,if_pos d];lia)
  refine g.trans ?_;rw[tF,kc];exact FE _ (zQ d)
theorem Ct{b:Type}(next:Nat->Nat)(a:Array b):(tI next a).toList.Perm a.toList:=by
 have:=CF next a.size 0 a.toList #[] (by simp)
 simpa[tI]using this
section
variable{P:aL}{w:aE}{A:aS}{E:ah->ao->Prop}{s:ao}
theorem Mr{a:Source}{n:Nat}{Q:Nat->ao->Prop}(b:n≠0)(h:∀k d,k<n->Q k {s with drawn:=d}):aq (aw P w) A (choose a n) Q E s:=λc p hΓ=>by unfold choose;rw[Sem.wp_choose];refine⟨b,?_⟩;exact h _ _ (Nat.mod_lt _ (Nat.pos_of_ne_zero b))
theorem Cy{f:Type}:∀(n:Nat) (a:List f) (s:ao) (Q:List f->ao->Prop),n=a.length->(∀b d,b.Perm a->Q b {s with drawn:=d})->aq (aw P w) A (drawOrder n a) Q E s
 |0,[],s,Q,_,h=>by unfold drawOrder;exact aC (h [] s.drawn (qN _))
 |0,x::a,s,Q,hn,h=>by simp at hn
 |n+1,[],s,Q,hn,h=>by simp at hn
 |n+1,x::a,s,Q,hn,h=>by unfold drawOrder;refine ap (Mr (by simp) λk d c=>?_);rw[eh c];dsimp only;refine ap (Cy n ((x::a).eraseIdx k) _ _ (by rw[List.length_eraseIdx,if_pos c];lia) λb i g=>?_);refine aC (h _ i ?_);exact(List.Perm.cons _ g).trans (zQ c)
theorem u6{Q:Option ah->ao->Prop}{R:Fin->ao->Prop}(f:A.handled=ae)(g:∀c,(∀b o,s.heap.get? b=aa o->c.get? b=aa o)->Q ae {s with heap:=c}):aq (aw P w) A.in1 (do raiseNew (<-newExc (.type "StopIteration") [])) R (λe d=>aq (aw P w) A (do if <-isInstance e (.type "StopIteration")then pure ae else throw e) Q E d) s:=by
 refine ap ?_;simp only[newExc,newTuple];refine ap (jI ?_ (by size_fits));refine ap (m:=Av _ _) (tG (a:=Value.none) (by first|rfl | (simp only[Av];rfl)) ?_);refine jI ?_ (by size_fits);simp only[raiseNew];refine ap (wpAny_handled ?_);rw[show A.in1.handled=ae from f];refine ap (aC (wpAny_throw ?_));refine ap (Aw (T:="StopIteration") (b:=ai) ⟨_,cf _ rfl,rfl⟩ isSubtype_stop ?_);exact aC (g _ λb o e=>bh _ (bh _ e))
theorem zj{I a:af}{first d:ah}{i n f:Nat}{Q:Unit->ao->Prop}(c:s.heap.get? I=aa (hV first i a n f))(h:∀b,jF I s.heap b->b.get? I=aa (hV d i a n f)->Q () {s with heap:=b}):aq (aw P w) A (ka (.ref I) 0 d) Q E s:=by refine o0 c rfl (by simp[hV]) (h _ (mf ..) ?_);rw[nh _ c (by rfl)];rfl
theorem yA{I a:af}{first:ah}{i n d:Nat}{Q:Unit->ao->Prop}(c:s.heap.get? I=aa (hV first i a n d))(h:∀b,jF I s.heap b->b.get? I=aa (hV first (i+1) a n d)->Q () {s with heap:=b}):aq (aw P w) A (ka (.ref I) 1 (cP ((i:Int)+1))) Q E s:=by refine o0 c rfl (by simp[hV]) (h _ (mf ..) ?_);rw[nh _ c (by rfl)];rfl
theorem vF{I a:af}{first:ah}{i n d:Nat}{Q:Unit->ao->Prop}(c:s.heap.get? I=aa (hV first i a n d))(h:∀b,jF I s.heap b->(∃o,b.get? I=aa o)->Q () {s with heap:=b}):aq (aw P w) A (ka (.ref I) 2 .none) Q E s:=by refine o0 c rfl (by simp[hV]) (h _ (mf ..) ⟨_,nh _ c (by rfl)⟩)
abbrev oH(a:Array (Int×ah))(b:Nat)(t:jm):Obj:={cls:=.type "set",dict:=ae,data:=.set a b t}
theorem L8{I a:af}{d:Array (Int×ah)}{g:Nat}{t:jm}(x:a≠I)(n:t.fits d.size=ai)(f:dv w=ai)(C:A.handled=ae):Walks P w A I [I,a] [I] d.size (λi v=>((tI (w.params.setOrder a g) d).toList.map (·.2))[i]?=aa v) (λi h=>h.get? I=aa (hV (cP 0) i a d.size g)/\h.get? a=aa (oH d g t)):=by
 have hsz:(tI (w.params.setOrder a g) d).size=d.size:=by have:=(Ct (w.params.setOrder a g) d).length_eq;simpa using this
 have j:∀(s:ao) (i:Nat) (Q:Option (ah×Nat)->ao->Prop) (E:ah->ao->Prop),s.heap.get? a=aa (oH d g t) ->
   Q (((tI (w.params.setOrder a g) d)[i]?).map λe=>(e.2,0)) s->aq (aw P w) A.in1 (mh a (0:Int).toNat (i:Int).toNat (g:Int).toNat) Q E s:=λs i Q E u B=>by
  unfold mh;refine ap (qP u rfl n ?_);unfold xp;refine ap (ap (qR (aC ?_)));show aq _ _ (if dv w=ai then _ else _) _ _ s;rw[if_pos f];simp only[gy,bne_self_eq_false,jL,if_false];unfold setWalk;refine ap (ap (qP u rfl n ?_));unfold xp;refine ap (ap (qR (aC ?_)));show aq _ _ (if dv w=ai then _ else _) _ _ s;rw[if_pos f];refine ap (qR (aC (aC ?_)));exact B
 refine⟨λb f=>by simp at f;simp[f],λi h H c k=>⟨k I (by simp) _ c.1,k a (by simp) _ c.2⟩,λi s Q E G c l=>?_,λs Q E c l=>?_,λi s Q E c l=>uS c.1 l⟩
 .refine om c.2 n c.1 ?_;refine ap (j s i _ _ c.2 ?_);have y:i<(tI (w.params.setOrder a g) d).size:=∅
  rw[tJ y];dsimp only[xq];refine ap (zj c.1 λq m F=>?_);refine ap (yA (s:={s with heap:=q}) F λp r D=>?_);refine aC ⟨_,rfl,l _ p s.toks ?_ ⟨D,?_⟩ λb o f e=>?_⟩
  .rw[gx];simp[tJ y]
  .exact(r.2 a x).trans ((m.2 a x).trans c.2)
  .exact(r.2 b (by simpa using f)).trans ((m.2 b (by simpa using f)).trans e)
 .refine om c.2 n c.1 ?_;refine ap (j s d.size _ _ c.2 ?_);rw[Array.getElem?_eq_none ∅];dsimp only[Option.map_none];refine ap (vF c.1 λq m _=>?_);exact u6 (s:={s with heap:=q}) C λp z=>l p s.toks λb o f e=>z b o ((m.2 b (by simpa using f)).trans e)
theorem O6{I a T:af}{f:Array (Int×ah)}{H:Nat}{t:jm}{c:List Nat}(b9:a≠I)(Z:T≠I)(B:t.fits f.size=ai)(F:c.Perm (bI f.size))(Y:A.handled=ae):Walks P w A I [I,a,T] [I] f.size (λi v=>(c.filterMap λj=>(f[j]?).map (·.2))[i]?=aa v) (λi h=>h.get? I=aa (hV (.ref T) i a f.size H)/\h.get? a=aa (oH f H t)/\h.get? T=aa {cls:=.type "tuple",data:=.seq (c.map λ(k:Nat)=>cP k).toArray}):=by
 have K:c.length=f.size:=by simpa using F.length_eq
 have M:∀j∈c,j<f.size:=λj z=>by simpa using F.mem_iff.mp z
 have fm:∀(l:List Nat),(∀j∈l,j<f.size)->∀(i j:Nat),l[i]?=aa j->∃e:Int×ah,f[j]?=aa e/\(l.filterMap λj=>(f[j]?).map (·.2))[i]?=aa e.2:=by
  intro l
  induction l with
  |nil=>intro _ i j h;simp at h
  |cons x r O=>
   intro G i j h;have S:x<f.size:=G x (jD ..);have D:f[x]?=aa f[x]:=tJ S;cases i with
   |zero=>simp at h;subst h;exact⟨_,D,by rw[tq,D];rfl⟩
   |succ i=>obtain⟨e,y,u⟩:=O (λj z=>G j (jE _ z)) i j (by simpa using h);exact⟨e,y,by rw[tq,D];simpa using u⟩
 have g:∀(s:ao) (Q:Option (Array ah)->ao->Prop) (E:ah->ao->Prop),s.heap.get? T=aa {cls:=.type "tuple",data:=.seq (c.map λ(k:Nat)=>cP k).toArray}->Q (aa (c.map λ(k:Nat)=>cP k).toArray) s->aq (aw P w) A.in1 (seqItems? (.ref T)) Q E s:=λs Q E W X=>by exact xr W rfl X
 refine⟨λb m=>by simp at m;simp[m],λi h h' d k=>⟨k I (by simp) _ d.1,k a (by simp) _ d.2.1,k T (by simp) _ d.2.2⟩,λi s Q E hi d p=>?_,λs Q E d p=>?_,λi s Q E d p=>uS d.1 p⟩
 .refine om d.2.1 B d.1 ?_;refine ap (g s _ _ d.2.2 ?_);have J:i<c.length:=∅
  have q:((c.map λ(k:Nat)=>cP k).toArray)[(i:Int).toNat]?=aa (cP (c[i]:Nat)):=by simp[J]
  dsimp only;rw[q];obtain⟨e,y,u⟩:=fm c M i c[i] (eh J);show aq _ _ (setNextDrawn a _ _ >>= _) _ _ s;refine ap ?_;unfold setNextDrawn;refine ap (qP d.2.1 rfl B ?_);simp only[gy,bne_self_eq_false,jL,if_false];rw[y];refine aC ?_;refine ap (yA d.1 λC n e2=>?_);refine aC ⟨_,rfl,p _ C s.toks u ⟨e2,(n.2 a b9).trans d.2.1,(n.2 T Z).trans d.2.2⟩ λb o m e=>(n.2 b (by simpa using m)).trans e⟩
 .refine om d.2.1 B d.1 ?_;refine ap (g s _ _ d.2.2 ?_);have q:((c.map λ(k:Nat)=>cP k).toArray)[(f.size:Int).toNat]?=ae:=by simp[K]
  dsimp only;rw[q];refine ap (zj d.1 λh1 N q=>?_);refine ap (vF (s:={s with heap:=h1}) q λC n _=>?_);exact u6 (s:={s with heap:=C}) Y λh3 L=>p h3 s.toks λb o m e=>L b o ((n.2 b (by simpa using m)).trans ((N.2 b (by simpa using m)).trans e))
theorem Hg(j k:Nat):Pm #[j] k=if j<k then 1 else 0:=by
 unfold Pm;simp only[bJ,dE,gT];unfold FF;simp;split
 .rename_i h;unfold FF;simp
 .unfold FF;simp
theorem Hx{I a:af}{g:Array (Int×ah)}{n:Nat}{t:jm}(K:a≠I)(u:t.fits g.size=ai)(f:dv w=aj)(N:t.led=ai)(m:g.size=1)(S:A.handled=ae):Walks P w A I [I,a] [I] 1 (λi v=>(g.toList.map (·.2))[i]?=aa v) (λi h=>h.get? I=aa (hV (cP (if i=0 then 0 else((t.place.getD 0 0:Nat):Int)+1)) i a g.size n)/\h.get? a=aa (oH g n t)):=by
 have M:t.place.size=1:=by simp only[SetTable.fits,fU,beq_iff_eq]at u;lia
 obtain⟨j,G⟩:=Array.size_eq_one_iff.mp M;have J:((t.place.getD 0 0:Nat):Int)=(j:Int):=by rw[G];rfl
 obtain⟨e,H⟩:=Array.size_eq_one_iff.mp m;have l:∀(s:ao) (d:Nat) (i:Nat) (Q:Option (ah×Nat)->ao->Prop) (E:ah->ao->Prop),s.heap.get? a=aa (oH g n t) ->
   Q (if j<d then ae else aa (e.2,j+1)) s->aq (aw P w) A.in1 (mh a d i n) Q E s:=λs d i Q E T r=>by
  unfold mh;refine ap (qP T rfl u ?_);unfold xp;refine ap (ap (qR (aC ?_)));show aq _ _ (if dv w=ai then _ else _) _ _ s;rw[if_neg (by rw[f];decide)];refine xt (λz=>absurd (show(!t.plain&&decide (g.size > 1))=ai from z) (by rw[m];simp)) (λ_=>?_);refine ap ?_;refine eP (Q:=λ_ D=>D=s) (E:=E) ?_ (λ_ D y=>?_) (λ_ _ x=>x)
  .refine xt (λz=>absurd (show(!t.led&&!g.isEmpty)=ai from z) (by rw[N];simp)) (λ_=>aC rfl)
  .subst y;rw[G,Hg,H];by_cases L:j<d
   .rw[if_pos L]at r ⊢;exact aC r
   .rw[if_neg L]at r ⊢;exact aC r
 refine⟨λb f=>by simp at f;simp[f],λi h Y c k=>⟨k I (by simp) _ c.1,k a (by simp) _ c.2⟩,λi s Q E X c p=>?_,λs Q E c p=>?_,λi s Q E c p=>uS c.1 p⟩
 .obtain rfl:i=0:=∅
  refine om c.2 u c.1 ?_;show aq _ _ (mh a (0:Int).toNat ((0:Nat):Int).toNat (n:Int).toNat >>= _) _ _ s;simp only[gy,Int.toNat_zero];refine ap (l s 0 0 _ _ c.2 ?_);rw[if_neg (Nat.not_lt_zero j)];dsimp only;refine ap (zj c.1 λm q C=>?_);refine ap (yA (s:={s with heap:=m}) C λB F W=>?_);refine aC ⟨_,rfl,p _ B s.toks ?_ ⟨?_,?_⟩ λb o f e=>?_⟩
  .rw[H];rfl
  .rw[W,if_neg (by decide),J];rfl
  .exact(F.2 a K).trans ((q.2 a K).trans c.2)
  .exact(F.2 b (by simpa using f)).trans ((q.2 b (by simpa using f)).trans e)
 .refine om c.2 u c.1 ?_;rw[if_neg (by decide),J];show aq _ _ (mh a ((j:Int)+1).toNat ((1:Nat):Int).toNat (n:Int).toNat >>= _) _ _ s;have C:((j:Int)+1).toNat=j+1:=∅
  rw[C,gy,gy];refine ap (l s (j+1) 1 _ _ c.2 ?_);rw[if_pos (lq j)];dsimp only;refine ap (vF c.1 λm q _=>?_);exact u6 (s:={s with heap:=m}) S λB O=>p B s.toks λb o f e=>O b o ((q.2 b (by simpa using f)).trans e)
theorem vZ:∀{a:List ah}{b:List Str} (i:Nat) (v:ah),dY a b->a[i]?=aa v->∃t,v=.str (b.getD i gi) t
 |_,_,i,v,.nil,h=>by simp at h
 |_,_,0,v,.cons y t _,h=>by simp at h;exact⟨t,by rw[<-h];rfl⟩
 |_,_,i+1,v,.cons y t hr,h=>by simp only[List.getElem?_cons_succ]at h;obtain⟨c,e⟩:=vZ i v hr h;exact⟨c,by rw[e];rfl⟩
end
theorem Ev{n:Nat}(h:n<=4096):n<aX:=w_ h (by decide)
theorem MT:typeLookup (.type "set") "__len__"=pure (aa (.builtin "set.__len__")):=F.slot_set_len.lookup
section
variable{P:aL}{w:aE}{A:aS}{E:ah->ao->Prop}{s:ao}
def rZ(w:aE)(h:aB)(a:af)(b:Array (Int×ah)):Prop:=∃(c:Nat) (t:jm),h.get? a=aa {cls:=.type "set",dict:=ae,data:=.set b c t}/\b.size<4090/\t.fits b.size=ai/\t.led=(!dv w)/\(b.size≠0->t.plain=aj)
theorem rZ.at{w:aE}{h b:aB}{a:af}{es:Array (Int×ah)}(S:rZ w h a es)(k:∀o,h.get? a=aa o->b.get? a=aa o):rZ w b a es:=by obtain⟨c,t,e,r⟩:=S;exact⟨c,t,k _ e,r⟩
theorem jC.e{h:aB}{a:af}{ks:List Str}(S:jC P w h a ks):∃es ss,rZ w h a es/\dY (es.toList.map (·.2)) ss/\ss.Perm ks:=by
 obtain⟨es,l,t,ss,f,c,b,i,hsz,g,d,n⟩:=S.ex;refine⟨es,ss,⟨l,t,f,hsz,g,d,λj=>n λz=>j ?_⟩,c,b⟩;have m:=b.length_eq;have o:ss.length=es.size:=by rw[<-c.strs];simp
 rw[z,gT]at m;lia
structure Dw(P:aL)(w:aE)(s s':ao)(a I:af)(es:Array (Int×ah))(fp:List af)(n:Nat)(Pv:Nat->ah->Prop)(St:Nat->aB->Prop):Prop where
 wk:∀A:aS,A.handled=ae->Walks P w A I fp [I] n Pv St
 st:St 0 s'.heap
 old:∀b o,s.heap.get? b=aa o->s'.heap.get? b=aa o
 new:s.heap.objs.size<=I
 lt:∀b∈fp,b<s'.heap.objs.size
 rest:s'={s with heap:=s'.heap,drawn:=s'.drawn}
 ord:∀a8:Array ah,ItemsOf Pv a8 n->a8.toList.Perm (es.toList.map (·.2))
 len:n<4090
 fps:∀b∈fp,b=a\/s.heap.objs.size<=b
theorem vX{l:List ah}{a:Array ah}{n:Nat}(c:l.length=n)(h:ItemsOf (λi v=>l[i]?=aa v) a n):a.toList=l:=by
 refine Ax λi=>?_;by_cases b:i<n
 .have:i<a.size:=by rw[h.1];exact b
  have q:=h.2 i a[i] (tJ this);rw[q];simp[this]
 .rw[xu (by rw[jG,h.1];lia),xu ∅]
theorem Ia{I a:af}{d:Array (Int×ah)}{j:Nat}{t:jm}(L:a≠I)(u:t.fits d.size=ai)(g:dv w=aj)(n:d.size=0)(F:A.handled=ae):Walks P w A I [I,a] [I] 0 (λi v=>(d.toList.map (·.2))[i]?=aa v) (λi h=>h.get? I=aa (hV (cP 0) 0 a d.size j)/\h.get? a=aa (oH d j t)):=by
 have y:d=#[]:=Array.eq_empty_of_size_eq_zero n;have l:∀(s:ao) (f:Nat) (i:Nat) (Q:Option (ah×Nat)->ao->Prop) (E:ah->ao->Prop),s.heap.get? a=aa (oH d j t) ->
   Q ae s->aq (aw P w) A.in1 (mh a f i j) Q E s:=λs f i Q E G C=>by
  unfold mh;refine ap (qP G rfl u ?_);unfold xp;refine ap (ap (qR (aC ?_)));show aq _ _ (if dv w=ai then _ else _) _ _ s;rw[if_neg (by rw[g];decide)];refine xt (λq=>absurd (show(!t.plain&&decide (d.size > 1))=ai from q) (by rw[n];simp)) (λ_=>?_);refine ap ?_;refine eP (Q:=λ_ r=>r=s) (E:=E) ?_ (λ_ r p=>?_) (λ_ _ x=>x)
  .refine xt (λq=>absurd (show(!t.led&&!d.isEmpty)=ai from q) (by rw[y];simp)) (λ_=>aC rfl)
  .subst p;rw[y];have J:∀k:Nat,(#[]:Array (Int×ah))[k]?=ae:=λk=>by simp
   dsimp only;rw[J];exact aC C
 refine⟨λb g=>by simp at g;simp[g],λi h K c k=>⟨k I (by simp) _ c.1,k a (by simp) _ c.2⟩,λi s Q E D c m=>absurd D (Nat.not_lt_zero i),λs Q E c m=>?_,λi s Q E c m=>uS c.1 m⟩;refine om c.2 u c.1 ?_;show aq _ _ (mh a (0:Int).toNat ((0:Nat):Int).toNat (j:Int).toNat >>= _) _ _ s;simp only[gy,Int.toNat_zero];refine ap (l s 0 0 _ _ c.2 ?_);dsimp only;refine ap (vF c.1 λn B _=>?_);exact u6 (s:={s with heap:=n}) F λH z=>m H s.toks λb o g e=>z b o ((B.2 b (by simpa using g)).trans e)
theorem Ki{a:af}{g:Array (Int×ah)}{Q:ah->ao->Prop}(S:rZ w s.heap a g)(h:∀x I C n D St,Dw P w s x a I g C n D St->Q (.ref I) x):aq (aw P w) A (lc (.ref a)) Q E s:=by
 obtain⟨M,t,l,hsz,p,o7,dG⟩:=S;have Y:s.TypeIs (.ref a) "set":=⟨_,l,rfl⟩
 have jv:=bo l;refine FD Y F.slot_set_iter (m_ F.slot_set_iter Y GG ?_ (F.args_set_iter_1 _));unfold Builtin.«frozenset.__iter__» Builtin.Frozenset.slot0 slotArgs Builtin.Frozenset.addrOf Builtin.Frozenset.sizeOf;refine ap (aC ?_);refine ap (ap (wpAny_setEntries_of l rfl p (aC ?_)));unfold setDrawn;refine ap (ap (qP l rfl p ?_));unfold xp;refine ap (ap (qR (aC ?_)));refine aC ?_;have i:∀(first:ah) (u:ao) (C:List af) (n:Nat) (D:Nat->ah->Prop) (St:Nat->aB->Prop),u.heap.get? a=aa {cls:=.type "set",dict:=ae,data:=.set g M t} ->
   Dw P w s {u with heap:=u.heap.push (hV first 0 a g.size M)} a u.heap.objs.size g C n D St ->
   aq (aw P w) A.in1 (do
    let e <-setEpoch a
    let f <-newFields "set_iterator" [first,cP 0,Value.ref a,cP (g.size:Nat),cP (e:Nat)]
    ret f) (λi x=>∃v,i=Fin.done (Flow.ret v)/\∃Z r,x.TypeIs v Z/\typeLookup (Value.type Z) (oV "__next__")=pure (aa r)/\Q v x) E u:=λfirst u C n D St ha W=>by
  refine ap (wpAny_setEpoch_of ha rfl p ?_);refine ap (jI ?_);exact aC ⟨_,rfl,"set_iterator",_,⟨_,cf _ rfl,rfl⟩,Ck.lookup,h _ _ C n D St W⟩
 refine xt (λJ=>?_) (λJ=>?_)
 .have L:(!dv w&&(!t.plain&&decide (g.size > 1)))=ai:=J;refine ap (Cy g.size (bI g.size) s _ (by simp) λG d H=>?_);refine ap (wpAny_newTuple ?_ (hsz:=by rw[dD,H.length_eq,qM];exact l8 (Ev ∅)));refine i _ _ _ _ _ _ (bh _ l) ⟨λO q=>O6 (T:=s.heap.objs.size) (cT (by rw[iR];exact jM jv)) (cT (by rw[iR];exact lq _)) p H q,⟨cf _ rfl,?_,?_⟩,?_,?_,?_,rfl,?_,hsz,?_⟩
  .exact bh _ (bh _ l)
  .exact bh _ (cf _ rfl)
  .exact λb o e=>bh _ (bh _ e)
  .rw[iR];exact xg _
  .intro b c;simp only[br,jN,or_false]at c;rw[iR,iR];rcases c with rfl|rfl|rfl
   .rw[iR];exact lq _
   .exact jM (jM jv)
   .exact jM (lq _)
  .intro N m;have e0:(G.filterMap λj=>(g[j]?).map (·.2))=(G.filterMap λj=>g[j]?).map (·.2):=by rw[List.map_filterMap]
   have y:(G.filterMap λj=>g[j]?).Perm g.toList:=by have:=H.filterMap λj=>g[j]?;rwa[filterMap_getElem?_range]at this
   rw[e0]at m;rw[vX (by rw[dD,y.length_eq];simp) m];exact y.map _
  .intro b c;simp only[br,jN,or_false]at c;rcases c with rfl|rfl|rfl
   .rw[iR];exact .inr (xg _)
   .exact .inl rfl
   .exact .inr (aZ _)
 .have L:¬(!dv w&&(!t.plain&&decide (g.size > 1)))=ai:=J;refine ap (aC ?_);cases c:dv w with
  |true=>
   refine i _ _ _ _ _ _ l ⟨λO q=>L8 (cT jv) p c q,⟨cf _ rfl,bh _ l⟩,λb o e=>bh _ e,aZ _,?_,rfl,?_,hsz,λb c=>?_⟩
   .intro b c;simp only[br,jN,or_false]at c;rw[iR];rcases c with rfl|rfl
    .exact lq _
    .exact jM jv
   .intro N m;have y:=Ct (w.params.setOrder a M) g;rw[vX (by rw[dD,y.length_eq];simp) m];exact y.map _
   .simp only[br,jN,or_false]at c;exact c.elim (λz=>.inr (ln z.symm)) .inl
  |false=>
   have K:g.size=1\/g.size=0:=by
    by_cases X:g.size=0
    .exact .inr X
    .rw[c,dG X]at L;simp at L;lia
   rcases K with B|B
   .refine i _ _ _ _ _ _ l ⟨λO q=>Hx (cT jv) p c (by rw[o7,c];rfl) B q,⟨cf _ rfl,bh _ l⟩,λb o e=>bh _ e,aZ _,?_,rfl,?_,by decide,λb c=>?_⟩
    .intro b c;simp only[br,jN,or_false]at c;rw[iR];rcases c with rfl|rfl
     .exact lq _
     .exact jM jv
    .intro N m;rw[vX (by simp[B]) m]
    .simp only[br,jN,or_false]at c;exact c.elim (λz=>.inr (ln z.symm)) .inl
   .refine i _ _ _ _ _ _ l ⟨λO q=>Ia (cT jv) p c B q,⟨cf _ rfl,bh _ l⟩,λb o e=>bh _ e,aZ _,?_,rfl,?_,by decide,λb c=>?_⟩
    .intro b c;simp only[br,jN,or_false]at c;rw[iR];rcases c with rfl|rfl
     .exact lq _
     .exact jM jv
    .intro N m;rw[vX (by simp[B]) m]
    .simp only[br,jN,or_false]at c;exact c.elim (λz=>.inr (ln z.symm)) .inl
theorem G1{a:af}{m:Array (Int×ah)}{Q:List ah->ao->Prop}(J:A.handled=ae)(S:rZ w s.heap a m)(h:∀(d:ao) (C:List ah),C.Perm (m.toList.map (·.2))->(∀b o,s.heap.get? b=aa o->d.heap.get? b=aa o)->d.gens=s.gens->d.os=s.os->Q C d):aq (aw P w) A (collect (.ref a)) Q E s:=by
 obtain⟨K,t,H,N,_⟩:=id S;have jv:=bo H;unfold collect;refine ap (wpAny_runValue (nq F.entry_proto_collect ?_));rw[oY F.plain_proto_collect _];show aq _ A.in1 (newList [] >>= λl=>again (.builtin "list.__iadd__" ⟨[l,.ref a],[]⟩)) _ _ s;refine ap (jI ?_);refine aC ⟨oZ F.plain_list_iadd _,nq F.entry_list_iadd ?_⟩;rw[oY F.plain_list_iadd _];show aq _ A.in1 (Builtin.List.listExtendWith (.ref s.heap.objs.size) (.ref a) (.ref s.heap.objs.size)) _ _ _;unfold Builtin.List.listExtendWith;have j:∀u:ao,u.heap.get? a=aa {cls:=.type "set",dict:=ae,data:=.set m K t}->u.TypeIs (.ref a) "set":=λu e=>⟨_,e,rfl⟩
 have D:(s.heap.push {cls:=.type "list",data:=.seq ([]:List ah).toArray}).get? a=aa {cls:=.type "set",dict:=ae,data:=.set m K t}:=bh _ H;refine ap (wpAny_typeOf (j _ D) ?_);have X:Builtin.List.listSameRef (.ref s.heap.objs.size) (.ref a)=aj:=by have:¬(s.heap.objs.size=a):=k9 jv;simp[Builtin.List.listSameRef,this]
 rw[if_neg (by rw[X];decide)];refine ap (Ki (S.at λo e=>bh _ e) λr I Y n Pv St W=>?_);have B:=W.old a _ D;refine ap (iN ?_);unfold Builtin.List.listLengthHint;refine ap (w6 (j _ B) MT ?_)
 wp_delta
 refine ap (Aw (T:="set") (b:=ai) (j _ B) (by rw[isSubtype_type];kernel_rfl) ?_);show aq _ A.in1 (typeOf (Value.ref a) >>= _) _ _ _;refine ap (wpAny_typeOf (T:="set") (j _ B) ?_);refine aC ?_;rw[if_pos (by decide)];refine ap (me ?_);have O:(s.heap.push {cls:=.type "list",data:=.seq ([]:List ah).toArray}).get? s.heap.objs.size=aa {cls:=.type "list",data:=.seq ([]:List ah).toArray}:=cf _ rfl;have i:=W.old _ _ O;unfold Builtin.List.listTouch;refine ap (ap (Ay i rfl ?_ (by decide) (by show 1<=aX+1;decide)));have g:=xw i (λa:Array ah=>a.push Value.none);refine Ay g rfl ?_ (by show 1<=aX;decide) (by show 0<=aX+1;decide);have y:=xw g (λa:Array ah=>a.pop);have L:s.heap.objs.size∉Y:=λz=>by
  rcases W.fps _ z with q|q
  .exact absurd jv (by rw[<-q];exact eO _)
  .rw[iR]at q;exact absurd (lq _) (Nat.not_lt.mpr q)
 have G:∀b o,b≠s.heap.objs.size->r.heap.get? b=aa o->(((r.heap.update s.heap.objs.size (gk λa=>a.push Value.none)).update s.heap.objs.size (gk λa=>a.pop))).get? b=aa o:=λb o f e=>by rw[FG _ _ _ _ f,FG _ _ _ _ f];exact e
 have Z:St 0 (((r.heap.update s.heap.objs.size (gk λa=>a.push Value.none)).update s.heap.objs.size (gk λa=>a.pop))):=(W.wk A.in1 J).frame 0 _ _ W.st λb f o e=>G b o (λz=>L (z ▸ f)) e;refine aC ⟨oZ F.plain_extend_loop _,codeAny_extend_loopS (W.wk A.in1 J).toS (l8 (Ev (by have:=W.len;lia))) _ L _ n 0 _ _ _ rfl (j9 _) Z y (ItemsOf.nil _) λd c c' v x M=>?_⟩;show aq _ A (load s.heap.objs.size >>= _) _ _ d;refine ap (wpAny_load x ?_);refine aC (h d c.toList (W.ord c M) (λb o e=>?_) ?_ ?_)
 .have p:=bo e;refine v.heap b o (λf=>?_) (G b o (cT p) (W.old b o (bh _ e)));rcases br.mp f with z|z
  .exact absurd p (by rw[z];exact eO _)
  .rw[eR.mp z]at p;have:=W.new;rw[iR]at this;exact absurd p (Nat.not_lt.mpr (Nat.le_of_succ_le this))
 .rw[v.gens,W.rest]
 .rw[v.os,W.rest]
theorem KD{a:af}{ks:List Str}{Q:List ah->ao->Prop}(p:A.handled=ae)(S:jC P w s.heap a ks)(h:∀(c:ao) (d:List ah) (ss:List Str),dY d ss->ss.Perm ks->d.length<4090->(∀b o,s.heap.get? b=aa o->c.heap.get? b=aa o)->c.gens=s.gens->c.os=s.os->Q d c):aq (aw P w) A (collect (.ref a)) Q E s:=by
 obtain⟨r,ss,S,q,n⟩:=S.e;have m:r.size<4090:=by obtain⟨_,_,_,z,_⟩:=S;exact z
 refine G1 p S λc d pv l j i=>?_;obtain⟨u,g,f⟩:=yz pv q;exact h c d u g (f.trans n) (by have:=pv.length_eq;simp at this;lia) l j i
end
def bU(a:List Tx):List Tx:=a.foldl (λks x=>if x∈ks then ks else ks++[x]) []
theorem BQ(b:List Tx):met (λi=>(b.map tS).getD i gi) b.length=(bU b).map tS:=by
 have d:∀(l:List Tx) (a:List Tx),(l.map tS).foldl je (a.map tS)=(l.foldl (λks x=>if x∈ks then ks else ks++[x]) a).map tS:=by
  intro l
  induction l with
  |nil=>intro a;rfl
  |cons x r g=>
   intro a;rw[dO,j_,j_];have:je (a.map tS) (tS x)=(if x∈a then a else a++[x]).map tS:=by
    unfold je;have f:tS x∈a.map tS↔x∈a:=by rw[cp];exact⟨λ⟨y,j,e⟩=>by rw[<-og e];exact j,λh=>⟨x,h,rfl⟩⟩
    by_cases h:x∈a
    .rw[if_pos h,if_pos (f.mpr h)]
    .rw[if_neg h,if_neg (λz=>h (f.mp z)),qL];rfl
   rw[this,g]
 have e:(bI b.length).map (λi=>(b.map tS).getD i gi)=b.map tS:=by
  refine Ax λi=>?_;rw[gx];by_cases c:i<b.length
  .rw[Fy c];simp[c]
  .rw[xu (by simpa using c),xu (by simpa using c)];rfl
 unfold met;rw[e];exact d b []
theorem Dl(l c:List Tx):(c.Nodup->(l.foldl (λks x=>if x∈ks then ks else ks++[x]) c).Nodup)/\∀x,x∈l.foldl (λks x=>if x∈ks then ks else ks++[x]) c↔x∈c\/x∈l:=by
 induction l generalizing c with
 |nil=>exact⟨λh=>h,λx=>by simp⟩
 |cons y r g=>
  rw[j_];obtain⟨m,j⟩:=g (if y∈c then c else c++[y]);refine⟨λh=>m ?_,λx=>?_⟩
  .split
   .exact h
   .rename_i d;rw[Az];exact⟨h,by simp,λa i b f=>by simp at f;subst f;exact λe=>d (e ▸ i)⟩
  .rw[j x,br];split
   .rename_i d;constructor
    .rintro(h|h)
     .exact .inl h
     .exact .inr (.inr h)
    .rintro(h|rfl|h)
     .exact .inl h
     .exact .inl d
     .exact .inr h
   .rw[iq,eR,or_assoc]
theorem OH(l:List Tx):(bU l).Nodup:=(Dl l []).1 List.nodup_nil
theorem lQ(l:List Tx)(x:Tx):x∈bU l↔x∈l:=by rw[bU,(Dl l []).2 x];simp
theorem zp(l:List Tx):(bU l).length<=l.length:=by
 have b:∀(l a:List Tx),(l.foldl (λks x=>if x∈ks then ks else ks++[x]) a).length<=a.length+l.length:=by
  intro l
  induction l with
  |nil=>intro a;simp
  |cons x r c=>intro a;rw[j_];refine cA (c _) ?_;split <;> simp <;> lia
 simpa[bU]using b l []
section
variable{X:Cx}
def nQ(X:Cx)(a:af)(b:List Tx):HO:=.ext λh=>jC X.prog X.w h a (b.map tS)
end
structure c7(K:ax)(mg:Str->Option ah)(x:Str)(st:bi):Prop where
 ex:∃f fd,mg x=aa (.ref f)/\n_ K x x st f fd
theorem DM{H:Hp}{p:af}{o:HO}(h:H p=ae):Same H (upd H p o):=λb u q=>by rw[bj (n9 q h)];exact q
theorem DP{a:Type}{xs:List a}{k:Int}(b:0<=k)(h:k.toNat<xs.length):dP xs k=aa xs[k.toNat]:=by
 have e:((k.toNat:Nat):Int)=k:=∅
 have q:=M0 (xs:=xs) (j:=k.toNat) (v:=xs[k.toNat]) (by simp[h]);rwa[e]at q
def Cm(N:List Str)(d a:cU)(x:Str)(c:List Str)(b:List Nat):Bool :=
 decide (a.kind=.function)&&a.names.all (λy=>(decide (y.2≠.cell)||decide (a.names.lookup y.1=aa .cell))&&(decide (y.2≠.local)||decide (a.names.lookup y.1=aa .local))&&(decide (y.2≠.free)||decide (d.names.lookup y.1=aa .cell)||decide (d.names.lookup y.1=aa .free)))
 && (decide (a.names.lookup x=aa .local)||decide (a.names.lookup x=aa .cell))&&decide c.Nodup&&decide (c.head?=aa x)&&decide (c.length=b.length+1)&&(b.zip c.tail).all λp=>(decide (N[p.1]?=aa p.2)&&decide (a.names.lookup p.2=aa .free))||(decide (N.length<=p.1)&&decide (a.names.lookup p.2=aa .local))
theorem iD.of{X:Cx}{a:cU}{x:Str}{N':List Str}{cap:List Nat}(N:List Str)(d:cU)(l:X.N=N)(f:X.env.scope=d)(h:Cm N d a x N' cap=ai):iD X a x N' cap:=by
 subst l f;simp only[Cm,fU,decide_eq_true_eq,ke,xn]at h;obtain⟨⟨⟨⟨⟨⟨r,c⟩,q⟩,p⟩,o⟩,n⟩,m⟩:=h;refine⟨r,λy b e=>(c y b).1.1.elim (λz=>absurd e z) λz=>z,λy b e=>?_,q,λy b e=>?_,p,o,n,λi j y u s=>?_⟩
 .rcases(c y b).1.2 with z|z
  .exact absurd e z
  .exact z
 .rcases(c y b).2 with(z|z)|z
  .exact absurd e z
  .exact .inl z
  .exact .inr z
 .have g:(j,y)∈cap.zip N'.tail:=by
   refine FH.mpr ⟨i,?_⟩;rw[List.getElem?_zip_eq_some];refine⟨s,?_⟩;rw[<-List.drop_one,List.getElem?_drop,Nat.add_comm];exact u
  exact m _ g
theorem EQ(a b:Tx):cZ (tV a) (tV b)=decide (a=b):=by show(tS a == tS b)=_;rw[lg];simp only[beq_iff_eq,decide_eq_true_eq];exact⟨og,λh=>by rw[h]⟩
theorem Ib(a:List Tx)(x:Tx):((cy a).countP λz=>cZ z (tV x))=a.count x:=by unfold cy List.count;rw[List.countP_map];refine List.countP_congr λy _=>?_;simp only[Function.comp_apply,EQ,decide_eq_true_eq,beq_iff_eq]
end L2
namespace Pu
open L2
abbrev St:=L2.St
inductive PV where
 |non|bl (b:Bool)|int (i:Int)|str (x:Tx)|tup (xs:List PV)|lst (xs:List PV)|raw (v:V)|exc (c:ah)
def JC(a:af)(c:ah):HO:=.ext λh=>∃o b,h.get? a=aa o/\o.cls=c/\o.data=.fields b/\o.dict=ae
def cx:Nat:=1000000
theorem jV:cx<=aX:=by rw[mY];decide
def d8:HO->Prop
 |.lst _=>True
 |.dK _=>True
 |.dT _=>True
 |.dN _=>True
 |.ins _ _ _=>True
 |.own _=>True
 |_=>False
mutual
def aN(K:ax)(H:Hp)(F:af->Prop):PV->V->Prop
 |.non,v=>v=.non
 |.bl b,v=>v=.bl b
 |.int i,v=>v=.int i
 |.str x,v=>v=tV x/\x.length<=cx
 |.tup f,v=>∃a d,v=.ref a/\H a=aa (.tup d)/\a_ K H F f d
 |.lst f,v=>∃a d,v=.ref a/\Rd H a (.lst d)/\F a/\a_ K H F f d
 |.raw u,v=>v=u
 |.exc c,v=>∃a,v=.ref a/\H a=aa (JC a c)
def a_(K:ax)(H:Hp)(F:af->Prop):List PV->List V->Prop
 |[],a=>a=[]
 |x::b,a=>∃v r,a=v::r/\aN K H F x v/\a_ K H F b r
end
section
variable{K:ax}{H H':Hp}{F b:af->Prop}
mutual
theorem aN.mono(i:∀a,F a->b a)(g:∀a c,F a->Rd H a (.lst c)->Rd H' a (.lst c))(f:∀a o,H a=aa o->¬d8 o->H' a=aa o):∀(x:PV) (v:V),aN K H F x v->aN K H' b x v
 |.non,_,h=>h
 |.bl _,_,h=>h
 |.int _,_,h=>h
 |.str _,_,h=>h
 |.raw _,_,h=>h
 |.exc _,_,⟨a,e,h⟩=>⟨a,e,f a _ h id⟩
 |.tup c,_,⟨a,d,e,l,j⟩=>⟨a,d,e,f a _ l id,a_.mono i g f c d j⟩
 |.lst c,_,⟨a,d,e,l,m,j⟩=>⟨a,d,e,g a d m l,i a m,a_.mono i g f c d j⟩
theorem a_.mono(i:∀a,F a->b a)(g:∀a c,F a->Rd H a (.lst c)->Rd H' a (.lst c))(f:∀a o,H a=aa o->¬d8 o->H' a=aa o):∀(c:List PV) (d:List V),a_ K H F c d->a_ K H' b c d
 |[],_,h=>h
 |x::c,_,⟨v,r,e,l,j⟩=>⟨v,r,e,aN.mono i g f x v l,a_.mono i g f c r j⟩
end
theorem a_.len:∀{xs:List PV}{vs:List V},a_ K H F xs vs->vs.length=xs.length
 |[],_,h=>by rw[show _=[] from h];rfl
 |_::_,_,⟨_,_,e,_,a⟩=>by rw[e,dE,dE,a_.len a]
theorem a_.get:∀{c:List PV}{d:List V}{i:Nat}{x:PV},a_ K H F c d->c[i]?=aa x->∃v,d[i]?=aa v/\aN K H F x v
 |[],_,_,_,_,e=>by simp at e
 |x::c,_,0,y,⟨v,r,e,h1,_⟩,q=>by simp at q;subst q;subst e;exact⟨v,rfl,h1⟩
 |x::c,_,i+1,y,⟨v,r,e,_,h2⟩,q=>by obtain⟨w,a,b⟩:=a_.get (i:=i) (x:=y) h2 (by simpa using q);subst e;exact⟨w,by simpa using a,b⟩
theorem a_.back:∀{xs:List PV}{c:List V}{i:Nat}{v:V},a_ K H F xs c->c[i]?=aa v->∃x,xs[i]?=aa x/\aN K H F x v
 |[],_,_,_,h,e=>by rw[show _=[] from h]at e;simp at e
 |x::xs,_,0,y,⟨v,r,e,h1,_⟩,q=>by subst e;simp at q;subst q;exact⟨x,rfl,h1⟩
 |x::xs,_,i+1,y,⟨v,r,e,_,h2⟩,q=>by subst e;obtain⟨w,a,b⟩:=a_.back (i:=i) (v:=y) h2 (by simpa using q);exact⟨w,by simpa using a,b⟩
theorem a_.app:∀{a b:List PV}{d c:List V},a_ K H F a d->a_ K H F b c->a_ K H F (a++b) (d++c)
 |[],_,_,_,h,g=>by rw[show _=[] from h];exact g
 |x::a,_,_,_,⟨v,r,e,i,f⟩,g=>by subst e;exact⟨v,_,rfl,i,a_.app f g⟩
theorem a_.one{x:PV}{v:V}(h:aN K H F x v):a_ K H F [x] [v]:=⟨v,[],rfl,h,rfl⟩
theorem a_.drop:∀(n:Nat) {a:List PV}{b:List V},a_ K H F a b->a_ K H F (a.drop n) (b.drop n)
 |0,_,_,h=>h
 |_+1,[],_,h=>by rw[show _=[] from h];rfl
 |n+1,_::_,_,⟨_,_,e,_,h2⟩=>by subst e;exact a_.drop n h2
theorem a_.take:∀(n:Nat) {a:List PV}{b:List V},a_ K H F a b->a_ K H F (a.take n) (b.take n)
 |0,_,_,_=>by rw[AA,AA];rfl
 |_+1,[],_,h=>by rw[show _=[] from h];rfl
 |n+1,_::_,_,⟨v,_,e,h1,h2⟩=>by subst e;exact⟨v,_,rfl,h1,a_.take n h2⟩
theorem a_.set{x:PV}{v:V}(c:aN K H F x v):∀(n:Nat) {a:List PV}{b:List V},a_ K H F a b->a_ K H F (a.set n x) (b.set n v)
 |_,[],_,h=>by rw[show _=[] from h];rfl
 |0,_::_,_,⟨_,r,e,_,h2⟩=>by subst e;exact⟨v,r,rfl,c,h2⟩
 |n+1,_::_,_,⟨w,_,e,h1,h2⟩=>by subst e;exact⟨w,_,rfl,h1,a_.set c n h2⟩
end
structure bv(O O' F F':af->Prop)(H H':Hp):Prop where
 fro:∀a,F a->F' a
 keep:∀b o,H b=aa o->¬O b->H' b=aa o
 there:∀b o,H b=aa o->∃o',H' b=aa o'
 fnew:∀a,F' a->F a\/H a=ae\/O a
 onew:∀a,O' a->O a\/H a=ae
theorem bv.refl(O F:af->Prop)(H:Hp):bv O O F F H H:=⟨λ_ h=>h,λ_ _ h _=>h,λ_ o h=>⟨o,h⟩,λ_ h=>.inl h,λ_ h=>.inl h⟩
theorem bv.trans{O i f F m l:af->Prop}{H d j:Hp}(g:bv O i F m H d)(k:bv i f m l d j):bv O f F l H j where
 fro:=λa h=>k.fro a (g.fro a h)
 keep:=λb o h n=>k.keep b o (g.keep b o h n) λz=>(g.onew b z).elim n λq=>by rw[q]at h;cases h
 there:=λb o h=>let ⟨o',c⟩:=g.there b o h;k.there b o' c
 fnew:=λa h=>by
  have back:d a=ae->H a=ae\/O a:=λz=>by
   cases q:H a with
   |none=>exact .inl rfl
   |some o=>obtain⟨o',c⟩:=g.there a o q;rw[z]at c;cases c
  rcases k.fnew a h with z|z|z
  .exact g.fnew a z
  .exact .inr (back z)
  .exact .inr ((g.onew a z).symm)
 onew:=λa h=>by
  rcases k.onew a h with z|z
  .exact g.onew a z
  .cases q:H a with
   |none=>exact .inr rfl
   |some o=>obtain⟨o',c⟩:=g.there a o q;rw[z]at c;cases c
def Fit(O F:af->Prop)(H:Hp):Prop:=∀b,O b->¬F b/\∃o,H b=aa o/\d8 o
section
variable{K:ax}{O c F b:af->Prop}{H H':Hp}
theorem bv.imm(g:bv O c F b H H')(f:Fit O F H){a:af}{o:HO}(h:H a=aa o)(n:¬d8 o):H' a=aa o :=
 g.keep _ _ h λz=>by
  obtain⟨_,j,d,i⟩:=f a z;rw[h]at d;cases d;exact n i
theorem bv.lst(g:bv O c F b H H')(f:Fit O F H){a:af}{xs:List V}(d:F a)(h:Rd H a (.lst xs)):Rd H' a (.lst xs):=by
 have no:¬O a:=λz=>(f a z).1 d;rcases h with h|⟨o,h⟩
 .exact .inl (g.keep _ _ h no)
 .exact .inr ⟨o,g.keep _ _ h no⟩
theorem aN.grow(g:bv O c F b H H')(f:Fit O F H){x:PV}{v:V}(h:aN K H F x v):aN K H' b x v:=aN.mono g.fro (λ_ _ a q=>g.lst f a q) (λ_ _ q n=>g.imm f q n) x v h
theorem a_.grow(g:bv O c F b H H')(f:Fit O F H){x:List PV}{v:List V}(h:a_ K H F x v):a_ K H' b x v:=a_.mono g.fro (λ_ _ a q=>g.lst f a q) (λ_ _ q n=>g.imm f q n) x v h
end
theorem _root_.L2.Same.rd{H b:Hp}{a:af}{u:HO}(e:Same H b)(h:Rd H a u):Rd b a u:=h.elim (λz=>.inl (e _ _ z)) λ⟨o,z⟩=>.inr ⟨o,e _ _ z⟩
structure Al(F F':af->Prop)(H H':Hp):Prop where
 fro:∀a,F a->F' a
 same:Same H H'
 fnew:∀a,F' a->F a\/(H a=ae/\∃o,H' a=aa o)
theorem Al.refl(F:af->Prop)(H:Hp):Al F F H H:=⟨λ_ h=>h,Same.refl H,λ_ h=>.inl h⟩
theorem Al.grow{F d O:af->Prop}{H c:Hp}(a:Al F d H c):bv O O F d H c :=⟨a.fro,λb o h _=>a.same b o h,λb o h=>⟨o,a.same b o h⟩,λb h=>(a.fnew b h).imp id λz=>.inl z.1,λ_ h=>.inl h⟩
theorem Al.rep{K:ax}{F c:af->Prop}{H b:Hp}(a:Al F c H b){x:PV}{v:V}(h:aN K H F x v):aN K b c x v:=aN.mono a.fro (λ_ _ _ q=>a.same.rd q) (λ_ _ q _=>a.same _ _ q) x v h
theorem Al.reps{K:ax}{F c:af->Prop}{H b:Hp}(a:Al F c H b){x:List PV}{v:List V}(h:a_ K H F x v):a_ K b c x v:=a_.mono a.fro (λ_ _ _ q=>a.same.rd q) (λ_ _ q _=>a.same _ _ q) x v h
theorem Al.trans{F i g:af->Prop}{H f d:Hp}(a:Al F i H f)(b:Al i g f d):Al F g H d :=
 ⟨λc h=>b.fro c (a.fro c h),a.same.trans b.same,λc h=>by
  rcases b.fnew c h with z|⟨z,w⟩
  .rcases a.fnew c z with y|⟨y,o,q⟩
   .exact .inl y
   .exact .inr ⟨y,o,b.same _ _ q⟩
  .exact .inr ⟨a.same.free z,w⟩⟩
theorem Al.new{F:af->Prop}{H:Hp}{l:af}{o:HO}(h:H l=ae):Al F (λa=>F a\/a=l) H (upd H l o) :=⟨λ_ h=>.inl h,DM h,λa z=>z.imp id λe=>by subst e;exact⟨h,o,bW⟩⟩
theorem Al.new0{F:af->Prop}{H:Hp}{l:af}{o:HO}(h:H l=ae):Al F F H (upd H l o):=⟨λ_ h=>h,DM h,λa z=>.inl z⟩
inductive PO where
 |lst (xs:List PV)|dK (kvs:List (aR×PV))|lls (iV:List (List PV))|ins (C:af) (fs:List (Str×PV))|dT (kvs:List (List aR×PV))|dN (kvs:List ((Tx×List Tx)×PV))|inl (C:af) (fs:List (Str×PV)) (y:Str) (xs:List PV)
def ga:PO->Bool
 |.lls _=>aj
 |.inl ..=>aj
 |_=>ai
inductive Slot where
 |none|val (v:PV)|own (o:PO)
abbrev ak:=List Slot
def wF(K:ax)(H:Hp)(F:af->Prop)(a:List (aR×PV))(b:List (aR×V)):Prop:=iK (λ(p:aR×PV) (q:aR×V)=>p.1=q.1/\aN K H F p.2 q.2) a b
def si(K:ax)(H:Hp)(F:af->Prop)(fs:List (Str×PV))(a:List (Str×V)):Prop:=iK (λ(p:Str×PV) (q:Str×V)=>p.1=q.1/\aN K H F p.2 q.2) fs a
def gf(K:ax)(H:Hp)(F:af->Prop)(a:List (List aR×PV))(b:List (List aR×V)):Prop:=iK (λ(p:List aR×PV) (q:List aR×V)=>p.1=q.1/\aN K H F p.2 q.2) a b
def nS(k:Tx×List Tx):Str×List Str:=(tS k.1,k.2.map tS)
def kP(K:ax)(H:Hp)(F:af->Prop)(a:List ((Tx×List Tx)×PV))(b:List ((Str×List Str)×V)):Prop:=iK (λ(p:(Tx×List Tx)×PV) (q:(Str×List Str)×V)=>nS p.1=q.1/\aN K H F p.2 q.2) a b
def wD(K:ax)(H:Hp)(F:af->Prop)(d:List (List PV))(f:List af):Prop:=iK (λ(c:List PV) (b:af)=>∃a,H b=aa (.lst a)/\a_ K H F c a) d f
def eJ(K:ax)(H:Hp)(F:af->Prop)(l:PO)(a:af)(S:af->Prop):Prop :=
 match l with
 |.lst i=>(∃g,H a=aa (.lst g)/\a_ K H F i g)/\∀b,S b↔b=a
 |.dK f=>(∃d,H a=aa (.dK d)/\wF K H F f d)/\∀b,S b↔b=a
 |.lls m=>∃h,H a=aa (.lst (h.map .ref))/\wD K H F m h/\h.Nodup/\a∉h/\∀b,S b↔b=a\/b∈h
 |.ins C fs=>(∃j d,H a=aa (.ins C j d)/\si K H F fs d)/\∀b,S b↔b=a
 |.dT f=>(∃d,H a=aa (.dT d)/\gf K H F f d)/\∀b,S b↔b=a
 |.dN f=>(∃d,H a=aa (.dN d)/\kP K H F f d)/\∀b,S b↔b=a
 |.inl C fs y i=>∃j d b g,H a=aa (.ins C j (d++[(y,.ref b)]))/\si K H F fs d/\fs.lookup y=ae/\H b=aa (.lst g)/\a_ K H F i g/\a≠b/\∀c,S c↔c=a\/c=b
structure aQ(K:ax)(F:af->Prop)(S:Nat->af->Prop)(ε:ak)(σ:St)(H:Hp):Prop where
 len:ε.length=σ.length
 ex:∀a,F a->∃o,H a=aa o
 val:∀(i:Nat) (pv:PV),ε[i]?=aa (.val pv)->∃v,σ[i]?=aa (aa v)/\aN K H F pv v
 own:∀(i:Nat) (po:PO),ε[i]?=aa (.own po)->∃a,σ[i]?=aa (aa (.ref a))/\eJ K H F po a (S i)
 foot:∀(i:Nat) (b:af),S i b->(∃po,ε[i]?=aa (.own po))/\¬F b/\∃o,H b=aa o/\d8 o
 dist:∀(i j:Nat) (b:af),S i b->S j b->i=j
def U(S:Nat->af->Prop)(b:af):Prop:=∃i,S i b
section
variable{K:ax}{F d:af->Prop}{S:Nat->af->Prop}{g:ak}{f:St}{H H':Hp}
theorem aQ.fit(r:aQ K F S g f H):Fit (U S) F H:=λb ⟨i,h⟩=>(r.foot i b h).2
theorem wF.mono{a:List (aR×PV)}{b:List (aR×V)}(i:∀x v,aN K H F x v->aN K H' d x v)(h:wF K H F a b):wF K H' d a b:=by
 unfold wF at h ⊢
 induction h with
 |nil=>exact .nil
 |cons r _ c=>exact .cons ⟨r.1,i _ _ r.2⟩ c
theorem si.mono{fs:List (Str×PV)}{a:List (Str×V)}(c:∀x v,aN K H F x v->aN K H' d x v)(h:si K H F fs a):si K H' d fs a:=by
 unfold si at h ⊢
 induction h with
 |nil=>exact .nil
 |cons r _ b=>exact .cons ⟨r.1,c _ _ r.2⟩ b
theorem gf.mono{a:List (List aR×PV)}{b:List (List aR×V)}(i:∀x v,aN K H F x v->aN K H' d x v)(h:gf K H F a b):gf K H' d a b:=by
 unfold gf at h ⊢
 induction h with
 |nil=>exact .nil
 |cons r _ c=>exact .cons ⟨r.1,i _ _ r.2⟩ c
theorem kP.mono{a:List ((Tx×List Tx)×PV)}{b:List ((Str×List Str)×V)}(i:∀x v,aN K H F x v->aN K H' d x v)(h:kP K H F a b):kP K H' d a b:=by
 unfold kP at h ⊢
 induction h with
 |nil=>exact .nil
 |cons r _ c=>exact .cons ⟨r.1,i _ _ r.2⟩ c
theorem wD.mono{c:List (List PV)}{a:List af}(l:∀x v,a_ K H F x v->a_ K H' d x v)(i:∀b o,b∈a->H b=aa o->H' b=aa o)(h:wD K H F c a):wD K H' d c a:=by
 unfold wD at h ⊢
 induction h with
 |nil=>exact .nil
 |cons r _ m=>obtain⟨j,q,p⟩:=r;exact .cons ⟨j,i _ _ (by simp) q,l _ _ p⟩ (m λb o n=>i b o (by simp[n]))
theorem eJ.mono{r:PO}{a:af}{u:af->Prop}(l:∀x v,aN K H F x v->aN K H' d x v)(p:∀x v,a_ K H F x v->a_ K H' d x v)(i:∀b o,u b->H b=aa o->H' b=aa o)(h:eJ K H F r a u):eJ K H' d r a u:=by
 cases r with
 |lst z=>obtain⟨⟨m,e,q⟩,w⟩:=h;exact⟨⟨m,i a _ ((w a).mpr rfl) e,p _ _ q⟩,w⟩
 |dK j=>obtain⟨⟨c,e,q⟩,w⟩:=h;exact⟨⟨c,i a _ ((w a).mpr rfl) e,q.mono l⟩,w⟩
 |lls L=>obtain⟨J,e,q,E,D,w⟩:=h;exact⟨J,i a _ ((w a).mpr (.inl rfl)) e,q.mono p λb o G=>i b o ((w b).mpr (.inr G)),E,D,w⟩
 |ins C fs=>obtain⟨⟨s,c,e,q⟩,w⟩:=h;exact⟨⟨s,c,i a _ ((w a).mpr rfl) e,q.mono l⟩,w⟩
 |dT j=>obtain⟨⟨c,e,q⟩,w⟩:=h;exact⟨⟨c,i a _ ((w a).mpr rfl) e,q.mono l⟩,w⟩
 |dN j=>obtain⟨⟨c,e,q⟩,w⟩:=h;exact⟨⟨c,i a _ ((w a).mpr rfl) e,q.mono l⟩,w⟩
 |inl C fs y z=>obtain⟨s,c,b,m,e,q,n,I,A,B,w⟩:=h;exact⟨s,c,b,m,i a _ ((w a).mpr (.inl rfl)) e,q.mono l,n,i b _ ((w b).mpr (.inr rfl)) I,p _ _ A,B,w⟩
theorem aQ.al(r:aQ K F S g f H)(a:Al F d H H'):aQ K d S g f H' where
 len:=r.len
 ex:=λb h=>(a.fnew b h).elim (λz=>let ⟨o,q⟩:=r.ex b z;⟨o,a.same _ _ q⟩) λz=>z.2
 val:=λi pv e=>let ⟨v,l,j⟩:=r.val i pv e;⟨v,l,a.rep j⟩
 own:=λi n e=>let ⟨b,l,j⟩:=r.own i n e;⟨b,l,j.mono (λ_ _ q=>a.rep q) (λ_ _ q=>a.reps q) λc o _ q=>a.same _ _ q⟩
 foot:=λi b h=>by
  obtain⟨l,j,o,m,p⟩:=r.foot i b h;refine⟨l,λz=>?_,o,a.same _ _ m,p⟩;rcases a.fnew b z with y|⟨y,_⟩
  .exact j y
  .rw[m]at y;cases y
 dist:=r.dist
end
inductive R(α:Type) where
 |ok (a:α) (ε:ak)|er (c:ah) (ε:ak)|no
def R.bind{d b:Type}(r:R d)(k:d->ak->R b):R b:=match r with
 |.ok a ε=>k a ε
 |.er c ε=>.er c ε
 |.no=>.no
def a6{b:Type}(o:Option b)(c:ak):R b:=match o with
 |some a=>.ok a c
 |none=>.no
@[simp] theorem R.bind_ok{c d:Type}(a:c)(b:ak)(k:c->ak->R d):(R.ok a b).bind k=k a b:=rfl
@[simp] theorem R.bind_er{b d:Type}(c:ah)(a:ak)(k:b->ak->R d):(R.er c a:R b).bind k=.er c a:=rfl
@[simp] theorem R.bind_no{a b:Type}(k:a->ak->R b):(R.no:R a).bind k=.no:=rfl
@[simp] theorem dU{c:Type}(a:c)(b:ak):a6 (aa a) b=.ok a b:=rfl
@[simp] theorem P8{b:Type}(a:ak):a6 (ae:Option b) a=.no:=rfl
def Ok(K:ax)(E:XK)(h:St)(F:af->Prop)(S:Nat->af->Prop)(H:Hp){i:Type}(r:R i)(C:i->ak->(af->Prop)->(Nat->af->Prop)->Hp->Prop):Prop:=match r with
 |.ok a b=>∀g f d,aQ K g f b h d->bv (U S) (U f) F g H d->C a b g f d
 |.er c b=>∀x g f d,aQ K g f b h d->bv (U S) (U f) F g H d->E c x d
 |.no=>False
section
variable{K:ax}{E:XK}{b:St}{F:af->Prop}{S:Nat->af->Prop}{H:Hp}{d i:Type}{C C':d->ak->(af->Prop)->(Nat->af->Prop)->Hp->Prop}{D:i->ak->(af->Prop)->(Nat->af->Prop)->Hp->Prop}
theorem Ok.imp{r:R d}(h:Ok K E b F S H r C)(f:∀a j n l m,aQ K n l j b m->bv (U S) (U l) F n H m->C a j n l m->C' a j n l m):Ok K E b F S H r C':=by
 cases r with
 |ok a j=>exact λn l m r g=>f a j n l m r g (h n l m r g)
 |er c j=>exact h
 |no=>exact h
theorem Ok.from{r:R i}{q:af->Prop}{o:Nat->af->Prop}{p:Hp}(h:Ok K E b F S H r D)(g:bv (U S) (U o) F q H p):Ok K E b q o p r D:=by
 cases r with
 |ok a f=>exact λn l m j g'=>h n l m j (g.trans g')
 |er c f=>exact λx n l m j g'=>h x n l m j (g.trans g')
 |no=>exact h
theorem Ok.bind{r:R d}{k:d->ak->R i}(h:Ok K E b F S H (r.bind k) D):Ok K E b F S H r (λa ε1 m j l=>Ok K E b m j l (k a ε1) D):=by
 cases r with
 |ok a f=>exact λp n o r g=>Ok.from h g
 |er c f=>exact h
 |no=>exact h
end
structure Bx(p:Prop):Prop where
 run:p
def ja(X:Cx)(e:az):TE:=λa H Q=>Bx (∀b s,Inv X b a H s->aq (aw X.prog X.w) X.A (aM e X.env) (EP X b a Q) X.xe s)
def xV(X:Cx)(e:az):TT:=λa H Q=>Bx (∀b s,Inv X b a H s->aq (aw X.prog X.w) X.A (l9 e X.env (aM e X.env)) (TP X b a Q) X.xe s)
def wpS(X:Cx)(c:bi):TS:=λD b H=>Bx (∀a s,Inv X a b H s->aq (aw X.prog X.w) X.A (exec c X.env) (SP X a D) X.xe s)
def p8(X:Cx)(c:List bi):TS:=λD b H=>Bx (∀a s,Inv X a b H s->aq (aw X.prog X.w) X.A (execs c X.env) (SP X a D) X.xe s)
section
variable{X:Cx}{e:az}{b:bi}{a:List bi}
theorem bA:PE X e (ja X e):=λc s _ _ _ I h=>h.run c s I
theorem qa:PT X e (xV X e):=λc s _ _ _ I h=>h.run c s I
theorem Cq:PS X b (wpS X b):=λc s _ _ _ I h=>h.run c s I
theorem sJ:kR X a (p8 X a):=λc s _ _ _ I h=>h.run c s I
theorem bY{t:TE}(h:PE X e t){c:St}{H:Hp}{Q:VK}(q:t c H Q):ja X e c H Q:=⟨λd s I=>h d s c H Q I q⟩
theorem sT{t:TT}(h:PT X e t){c:St}{H:Hp}{Q:Bool->Hp->Prop}(q:t c H Q):xV X e c H Q:=⟨λd s I=>h d s c H Q I q⟩
theorem ie{t:TS}(h:PS X b t){c:St}{H:Hp}{D:jx}(q:t D c H):wpS X b D c H:=⟨λd s I=>h d s c H D I q⟩
theorem zv{t:TS}(h:kR X a t){c:St}{H:Hp}{D:jx}(q:t D c H):p8 X a D c H:=⟨λd s I=>h d s c H D I q⟩
end
def DE(X:Cx)(E:XK)(e:az)(d:ak->R PV):Prop :=
 ∀F S ε a H Q,aQ X.K F S ε a H->Ok X.K E a F S H (d ε) (λpv _ c _ b=>∀v,aN X.K b c pv v->Q v b)->ja X e a H Q
def DN(X:Cx)(E:XK)(e:az)(d:ak->R PO):Prop :=
 ∀F S g c H Q,aQ X.K F S g c H->Ok X.K E c F S H (d g) (λj _ i l f=>∀a h,eJ X.K f i j a h->(∀b,h b->H b=ae/\¬i b/\¬U l b/\∃o,f b=aa o/\d8 o)->Q (.ref a) f)->ja X e c H Q
def DT(X:Cx)(E:XK)(e:az)(d:ak->R Bool):Prop :=
 ∀F S ε a H Q,aQ X.K F S ε a H->Ok X.K E a F S H (d ε) (λb _ _ _ c=>Q b c)->xV X e a H Q
end Pu
namespace Pu
open L2
section
variable{X:Cx}{E:XK}{a b c:az}{m db A:ak->R PV}{pos:Pos}
def dC(pv:PV):ak->R PV:=λε=>.ok pv ε
theorem bz{i j pos}:DE X E (.Constant (.int i) j pos) (dC (.int i)):=λF S f d H Q r h=>bY wB (h F S H r (bv.refl ..) _ rfl)
theorem vO{i j pos}:DE X E (.Constant (.bool i) j pos) (dC (.bl i)):=λF S f d H Q r h=>bY LV (h F S H r (bv.refl ..) _ rfl)
theorem Bl{j pos}:DE X E (.Constant .none j pos) (dC .non):=λF S f d H Q r h=>bY L_ (h F S H r (bv.refl ..) _ rfl)
theorem oM(l:Tx){x:Str}{j pos}(d:x=tS l:=by decide +kernel)(f:l.length<=cx:=by decide):DE X E (.Constant (.str x) j pos) (dC (.str l)):=λF S i g H Q r h=>bY KC (h F S H r (bv.refl ..) _ (by rw[d];exact⟨rfl,f⟩))
def dV(i:Nat):ak->R PV:=λε=>match ε[i]? with
 |some (.val pv)=>.ok pv ε
 |_=>.no
theorem ar(i:Nat){x:Str}{pos:Pos}(g:X.N[i]?=aa x:=by rfl)(d:fu X.env.scope x:=by eq_refl)(f:(x==("__debug__":Str))=aj:=by decide)(n:(x==("__classdict__":Str))=aj:=by decide):DE X E (.Name x pos) (dV i):=λF S q o H Q r h=>by
 unfold dV at h;split at h
 .rename_i p e;obtain⟨v,l,j⟩:=r.val i p e;exact bY (gK g d f n) ⟨v,l,h F S H r (bv.refl ..) v j⟩
 .exact h.elim
theorem Ep{x:Str}{i:Int}{pos:Pos}(h:∃t,X.mg x=aa (.int i t))(d:Gl X x:=by rfl)(f:(x==("__debug__":Str))=aj:=by decide):DE X E (.Name x pos) (dC (.int i)):=λF S j g H Q r q=>by obtain⟨t,e⟩:=h;exact bY (DH (v:=.int i) d e ⟨t,rfl⟩ f) (q F S H r (bv.refl ..) _ rfl)
theorem NZ{x:Str}{l:Tx}{pos:Pos}(h:∃t,X.mg x=aa (.str (tS l) t))(f:Gl X x:=by rfl)(d:l.length<=cx:=by decide)(g:(x==("__debug__":Str))=aj:=by decide):DE X E (.Name x pos) (dC (.str l)):=λF S j i H Q r q=>by obtain⟨t,e⟩:=h;exact bY (DH (v:=tV l) f e ⟨t,rfl⟩ g) (q F S H r (bv.refl ..) _ ⟨rfl,d⟩)
def aQ.frz{K:ax}{F:af->Prop}{S:Nat->af->Prop}{p:ak}{u:St}{H:Hp}{i:Nat}{s:List PV}(r:aQ K F S p u H)(e:p[i]?=aa (.own (.lst s))):∃a B L,aQ K B L (p.set i (.val (.lst s))) u H/\bv (U S) (U L) F B H H/\u[i]?=aa (aa (.ref a))/\aN K H B (.lst s) (.ref a):=by
 obtain⟨a,J,⟨M,G,N⟩,I⟩:=r.own i _ e;have D:i<p.length:=(cY.mp e).1;have g:∀b,F b->F b\/b=a:=λb h=>.inl h;have mono:∀x v,aN K H F x v->aN K H (λb=>F b\/b=a) x v:=aN.mono g (λ_ _ _ q=>q) (λ_ _ q _=>q);have d:∀x v,a_ K H F x v->a_ K H (λb=>F b\/b=a) x v:=a_.mono g (λ_ _ _ q=>q) (λ_ _ q _=>q);have C:aN K H (λb=>F b\/b=a) (.lst s) (.ref a):=⟨a,M,rfl,.inl G,.inr rfl,d _ _ N⟩
 refine⟨a,λb=>F b\/b=a,λj b=>S j b/\j≠i,⟨by rw[gQ];exact r.len,λb h=>?_,λj pv q=>?_,λj y q=>?_,λj b h=>?_,λj k b P O=>r.dist j k b P.1 O.1⟩,?_,J,C⟩
 .rcases h with h|rfl
  .exact r.ex b h
  .exact⟨_,G⟩
 .by_cases f:i=j
  .subst f;rw[gh D]at q;cases q;exact⟨_,J,C⟩
  .rw[ef f]at q;obtain⟨v,n,l⟩:=r.val j pv q;exact⟨v,n,mono _ _ l⟩
 .by_cases f:i=j
  .subst f;rw[gh D]at q;cases q
  .rw[ef f]at q;obtain⟨v,n,l⟩:=r.own j y q;refine⟨v,n,?_⟩;have w:=l.mono (H':=H) mono d λ_ _ _ z=>z;have Q:(λb=>S j b/\j≠i)=S j:=by funext b;simp[fF f]
   rw[Q];exact w
 .obtain⟨⟨y,n⟩,l,w⟩:=r.foot j b h.1;refine⟨⟨y,by rw[ef (fF h.2)];exact n⟩,λz=>?_,w⟩;rcases z with z|rfl
  .exact l z
  .exact h.2 (r.dist j i b h.1 ((I b).mpr rfl))
 .refine⟨λ_ h=>.inl h,λb o h _=>h,λb o h=>⟨o,h⟩,λb h=>?_,λb ⟨j,h⟩=>.inl ⟨j,h.1⟩⟩;rcases h with h|rfl
  .exact .inl h
  .exact .inr (.inr ⟨i,(I b).mpr rfl⟩)
def dM(i:Nat):ak->R PV:=λε=>match ε[i]? with
 |some (.own (.lst d))=>.ok (.lst d) (ε.set i (.val (.lst d)))
 |_=>.no
theorem OO(i:Nat){x:Str}{pos:Pos}(l:X.N[i]?=aa x:=by rfl)(f:fu X.env.scope x:=by eq_refl)(j:(x==("__debug__":Str))=aj:=by decide)(q:(x==("__classdict__":Str))=aj:=by decide):DE X E (.Name x pos) (dM i):=λF S w v H Q r h=>by
 unfold dM at h;split at h
 .rename_i p e;obtain⟨a,u,s,d,g,o,n⟩:=r.frz e;exact bY (gK l f j q) ⟨_,o,h u s H d g _ n⟩
 .exact h.elim
def P2(K:ax)(r:R2)(f:PV->PV->Option PV):Prop:=∀(F:af->Prop) (H:Hp) (x y:PV) (v u:V) (Q:VK) (pv:PV),aN K H F x v->aN K H F y u->f x y=aa pv->(∀w g d,Al F g H d->aN K d g pv w->Q w d)->r v u H Q
def d2(f:PV->PV->Option PV)(m db:ak->R PV):ak->R PV:=λε=>(m ε).bind λx ε1=>(db ε1).bind λy d=>a6 (f x y) d
theorem wu{r:R2}{f:PV->PV->Option PV}(I:P2 X.K r f)(K:DE X E a m)(J:DE X E b db){F:af->Prop}{S:Nat->af->Prop}{l:ak}{d:St}{H:Hp}{Q:VK}(D:aQ X.K F S l d H)(h:Ok X.K E d F S H (d2 f m db l) (λpv _ q _ i=>∀v,aN X.K i q pv v->Q v i)):ja X a d H λx p=>ja X b d p λy o=>r x y o Q:=by
 refine K F S l d H _ D ((Ok.bind h).imp λx j T O p s W L v B=>?_);refine J T O j d p _ s ((Ok.bind L).imp λy z P N o G M g u C=>?_);cases e:f x y with
 |none=>rw[e]at g;exact g.elim
 |some pv=>rw[e]at g;exact I P o x y v u Q pv (B.grow M s.fit) C e λw q i al n=>g q N i (G.al al) al.grow w n
theorem bV{d:Operator}{r:R2}{f:PV->PV->Option PV}(j:bD X (fG d) r)(i:P2 X.K r f)(n:DE X E a m)(l:DE X E b db):DE X E (.BinOp a d b pos) (d2 f m db):=λF S p o H Q g h=>bY (Ba j bA bA) (wu i n l g h)
theorem qm{d:CmpOp}{r:R2}{f:PV->PV->Option PV}(j:bD X (dr d) r)(i:P2 X.K r f)(o:DE X E a m)(n:DE X E b db)(l:oQ d b=aj):DE X E (.Compare a [d] [b] pos) (d2 f m db):=λF S q p H Q g h=>bY (M5 j bA bA l) (wu i o n g h)
def lH:PV->Option Bool
 |.bl b=>aa b
 |_=>ae
def dB(d:ak->R PV):ak->R Bool:=λε=>(d ε).bind λx ε1=>a6 (lH x) ε1
theorem EB{K:ax}{H:Hp}{F:af->Prop}{x:PV}{v:V}{k:Bool}(h:aN K H F x v)(e:lH x=aa k):v=.bl k:=by
 cases x <;> simp[lH]at e;subst e;exact h
theorem rD{F:af->Prop}{S:Nat->af->Prop}{j:ak}{i:St}{H:Hp}{Q:Bool->Hp->Prop}{d:ak->R PV}(h:Ok X.K E i F S H (dB d j) (λk _ _ _ g=>Q k g)):Ok X.K E i F S H (d j) (λpv _ s _ g=>∀v,aN X.K g s pv v->∃k,v=.bl k/\Q k g):=by
 refine(Ok.bind h).imp λx l r p q o u f v n=>?_;cases e:lH x with
 |none=>rw[e]at f;exact f.elim
 |some k=>rw[e]at f;exact⟨k,EB n e,f r p q o (bv.refl ..)⟩
theorem g9{d:CmpOp}{r:R2}{f:PV->PV->Option PV}(j:bD X (dr d) r)(i:P2 X.K r f)(o:DE X E a m)(n:DE X E b db)(l:oQ d b=aj):DT X E (.Compare a [d] [b] pos) (dB (d2 f m db)):=λF S s q H Q g h=>sT (Jv j bA bA l) (wu (Q:=λx p=>∃k,x=.bl k/\Q k p) i o n g (rD h))
theorem qw{e:az}{d:ak->R PV}(n:DE X E e d)(l:∀f,l9 e X.env f=(do let v <-f;standAt e.pos;mV [v] (truthy v)):=by intro _;rfl):DT X E e (dB d):=λF S i g H Q j h=>sT (Nb bA l) (n F S i g H _ j (rD h))
def p7(f g:PV->PV->Option PV)(m db A:ak->R PV):ak->R PV:=λj=>(m j).bind λx i=>(db i).bind λy d=>(a6 ((f x y).bind lH) d).bind λk d=>
 match k with
 |true=>(A d).bind λz h=>a6 (g y z) h
 |false=>.ok (.bl aj) d
theorem Et{r O:R2}{f g:PV->PV->Option PV}(hp:P2 X.K r f)(fY:P2 X.K O g)(ha:DE X E a m)(hb:DE X E b db)(hc:DE X E c A){F:af->Prop}{S:Nat->af->Prop}{B:ak}{j:St}{H:Hp}{Q:VK}(rl:aQ X.K F S B j H)(h:Ok X.K E j F S H (p7 f g m db A B) (λpv _ l _ i=>∀v,aN X.K i l pv v->Q v i)):yo r O (ja X a) (ja X b) (ja X c) j H Q:=by
 refine ha F S B j H _ rl ((Ok.bind h).imp λx s F1 S1 H1 N g1 h1 v rv=>?_);refine hb F1 S1 s j H1 _ N ((Ok.bind h1).imp λy n T L P r2 g2 d u M=>?_);cases e:f x y with
 |none=>rw[e]at d;exact d.elim
 |some pv=>
  rw[e]at d;refine hp T P x y v u _ pv (rv.grow g2 N.fit) M e λw l i al D=>?_;cases K:lH pv with
  |none=>rw[jn,K]at d;exact d.elim
  |some k=>
   rw[jn,K]at d;refine⟨k,EB D K,?_⟩;have I:=r2.al al;cases k with
   |false=>exact nY (Ok.from d al.grow l L i I (bv.refl ..) _ rfl)
   |true=>
    have h3:Ok X.K E j T L P ((A n).bind λz q=>a6 (g y z) q) (λpv _ l _ i=>∀v,aN X.K i l pv v->Q v i):=d;refine oB (hc l L n j i _ I ((Ok.bind (Ok.from h3 al.grow)).imp λz W F4 S4 H4 r4 g4 p Z G=>?_));cases J:g y z with
    |none=>rw[J]at p;exact p.elim
    |some pz=>rw[J]at p;exact fY F4 H4 y z u Z Q pz ((al.rep M).grow g4 I.fit) G J λY F5 H5 o C=>p F5 S4 H5 (r4.al o) o.grow Y C
theorem OE{i d:CmpOp}{r j:R2}{f g:PV->PV->Option PV}(o:bD X (dr i) r)(v:bD X (dr d) j)(n:P2 X.K r f)(w:P2 X.K j g)(u:DE X E a m)(s:DE X E b db)(q:DE X E c A)(p:lastMarks [i,d] [b,c]=aj:=by with_unfolding_all rfl):DE X E (.Compare a [i,d] [b,c] pos) (p7 f g m db A):=λF S y x H Q l h=>bY (L5 o v bA bA bA p) (Et n w u s q l h)
theorem HQ{i d:CmpOp}{r j:R2}{f g:PV->PV->Option PV}(o:bD X (dr i) r)(v:bD X (dr d) j)(n:P2 X.K r f)(w:P2 X.K j g)(u:DE X E a m)(s:DE X E b db)(q:DE X E c A)(p:lastMarks [i,d] [b,c]=aj:=by with_unfolding_all rfl):DT X E (.Compare a [i,d] [b,c] pos) (dB (p7 f g m db A)):=λF S B z H Q l h=>sT (Mw o v bA bA bA p) (Et (Q:=λx y=>∃k,x=.bl k/\Q k y) n w u s q l (rD h))
variable{n B:ak->R Bool}{rest:List az}
def DW(X:Cx)(E:XK)(e:az)(d:ak->R Bool):Prop:=∀F S g f H Q,aQ X.K F S g f H->Ok X.K E f F S H (d g) (λb _ _ _ i=>Q b i)->∀(h:Sem ah) ag s,Inv X ag f H s->aq (aw X.prog X.w) X.A (l9 e X.env h) (TP X ag f Q) X.xe s
def IG(X:Cx)(e:az):TT:=λd H Q=>∀(f:Sem ah) ag s,Inv X ag d H s->aq (aw X.prog X.w) X.A (l9 e X.env f) (TP X ag d Q) X.xe s
theorem NR{e:az}:PW X e (IG X e):=λd f s _ _ _ I h=>h d f s I
theorem DW.dt{e:az}{d:ak->R Bool}(h:DW X E e d):DT X E e d:=λF S ε f H Q g q=>⟨λi s I=>h F S ε f H Q g q _ i s I⟩
def BV(n B:ak->R Bool):ak->R Bool:=λf=>(n f).bind λk d=>match k with
 |true=>B d
 |false=>.ok aj d
def kF(n B:ak->R Bool):ak->R Bool:=λd=>(n d).bind λk ε1=>match k with
 |true=>.ok ai ε1
 |false=>B ε1
def nN(n:ak->R Bool):ak->R Bool:=λf=>(n f).bind λk d=>.ok (!k) d
theorem yb(h:DT X E a n):DW X E (.BoolOp .Or [a] pos) n:=λF S f d H Q g q i j s I=>Kj qa i j s d H Q I (h F S f d H Q g q)
theorem yh(u:DT X E a n)(r:DW X E (.BoolOp .Or (b::rest) pos) B):DW X E (.BoolOp .Or (a::b::rest) pos) (kF n B):=λF S o d H Q p q v w s I=>by
 refine L4 qa NR v w s d H Q I (u F S o d H _ p ((Ok.bind q).imp λk f l i j g x h=>?_));cases k with
 |true=>exact oB (h l i j g (bv.refl ..))
 |false=>exact nY (r l i f d j Q g h)
theorem rP(j:DT X E a n):DT X E (.UnaryOp .Not a pos) (nN n):=λF S g d H Q h q=>sT (Io qa) (j F S g d H _ h ((Ok.bind q).imp λk f r o p i s l=>l r o p i (bv.refl ..)))
def nO(m db:ak->R PV):ak->R PV:=λf=>(dB m f).bind λk d=>match k with
 |true=>db d
 |false=>.ok (.bl aj) d
def y3(m db:ak->R PV):ak->R PV:=λf=>(dB m f).bind λk d=>match k with
 |true=>.ok (.bl ai) d
 |false=>db d
def zL(m:ak->R PV):ak->R PV:=λf=>(dB m f).bind λk d=>.ok (.bl (!k)) d
theorem zM{d:ak->R PV}{q:Type}{D:q->ak->(af->Prop)->(Nat->af->Prop)->Hp->Prop}{k:Bool->ak->R q}{F:af->Prop}{S:Nat->af->Prop}{p:ak}{o:St}{H:Hp}{P:Bool->Hp->Prop}(h:Ok X.K E o F S H ((dB d p).bind k) D) (f:∀c g l j i,aQ X.K l j g o i->bv (U S) (U j) F l H i->Ok X.K E o l j i (k c g) D->P c i):Ok X.K E o F S H (d p) (λpv _ y _ r=>∀v,aN X.K r y pv v->∃c,v=.bl c/\P c r):=by have u:=(Ok.bind h).imp (C':=λc g l j i=>P c i) λc g l j i s x w=>f c g l j i s x w;exact rD u
theorem rn{op}{d:ak->R PV}(h:DE X E a d):DE X E (.BoolOp op [a] pos) d:=λF S g f H Q i q=>bY (Jj bA) (h F S g f H Q i q)
theorem sI(s:DE X E a m)(r:DE X E (.BoolOp .And (b::rest) pos) db):DE X E (.BoolOp .And (a::b::rest) pos) (nO m db):=λF S o f H Q p q=>by
 refine bY (GF bA bA) (s F S o f H _ p (zM q λk d l i j g u h=>?_));cases k with
 |true=>exact oB (r l i d f j Q g h)
 |false=>exact nY (h l i j g (bv.refl ..) _ rfl)
theorem Lg(s:DE X E a m)(r:DE X E (.BoolOp .Or (b::rest) pos) db):DE X E (.BoolOp .Or (a::b::rest) pos) (y3 m db):=λF S o f H Q p q=>by
 refine bY (Mb bA bA) (s F S o f H _ p (zM q λk d l i j g u h=>?_));cases k with
 |true=>exact oB (h l i j g (bv.refl ..) _ rfl)
 |false=>exact nY (r l i d f j Q g h)
theorem M9(j:DE X E a m):DE X E (.UnaryOp .Not a pos) (zL m):=λF S g d H Q h q=>bY (Nz bA) (j F S g d H _ h (zM q λk f r o p i s l=>l r o p i (bv.refl ..) _ rfl))
def cE{d:Type}(t:ak->R Bool)(m db:ak->R d):ak->R d:=λf=>(t f).bind λk ε1=>match k with
 |true=>m ε1
 |false=>db ε1
theorem LM(r:DT X E c n)(u:DE X E a m)(s:DE X E b db):DE X E (.IfExp c a b pos) (cE n m db):=λF S o f H Q p q=>by
 refine bY (Ka qa bA bA) (r F S o f H _ p ((Ok.bind q).imp λk d l i j g v h=>?_));cases k with
 |true=>exact oB (u l i d f j Q g h)
 |false=>exact nY (s l i d f j Q g h)
def P1(K:ax)(r:V->Hp->VK->Prop)(f:PV->Option PV):Prop:=∀(F:af->Prop) (H:Hp) (x:PV) (v:V) (Q:VK) (pv:PV),aN K H F x v->f x=aa pv->(∀w g d,Al F g H d->aN K d g pv w->Q w d)->r v H Q
def d1(f:PV->Option PV)(m:ak->R PV):ak->R PV:=λg=>(m g).bind λx d=>a6 (f x) d
theorem Mh{r:V->Hp->VK->Prop}{f:PV->Option PV}(z:P1 X.K r f)(C:DE X E a m){F:af->Prop}{S:Nat->af->Prop}{j:ak}{d:St}{H:Hp}{Q:VK}(u:aQ X.K F S j d H)(h:Ok X.K E d F S H (d1 f m j) (λpv _ p _ i=>∀v,aN X.K i p pv v->Q v i)):ja X a d H λx o=>r x o Q:=by
 refine C F S j d H _ u ((Ok.bind h).imp λx q G D o y I g v s=>?_);cases e:f x with
 |none=>rw[e]at g;exact g.elim
 |some pv=>rw[e]at g;exact z G o x v Q pv s e λw p i al l=>g p D i (y.al al) al.grow w l
theorem Lm{d:UnaryOp}{r:V->Hp->VK->Prop}{f:PV->Option PV}(j:wH X (unaryOp d) r)(i:P1 X.K r f)(l:DE X E a m):DE X E (.UnaryOp d a pos) (d1 f m):=λF S p o H Q g h=>bY (Nn j bA) (Mh i l g h)
end
def nM(X:Cx)(d:List az):TA:=λb H Q=>Bx (∀a c s,Inv X c b H s->aq (aw X.prog X.w) X.A (spliced (dA a (aP d X.env))) (AP X c b Q) X.xe s)
def DA(X:Cx)(E:XK)(h:List az)(d:ak->R (List PV)):Prop :=
 ∀F S c a H Q,aQ X.K F S c a H->Ok X.K E a F S H (d c) (λb _ i _ g=>∀f,a_ X.K g i b f->Q f g)->nM X h a H Q
section
variable{X:Cx}{E:XK}{a b c e:az}{es:List az}{B db D d:ak->R PV}{j:ak->R (List PV)}{pos:Pos}
theorem ge{es:List az}:PA X es (nM X es):=λpos f s _ _ _ I h=>h.run pos f s I
theorem n8{t:TA}(h:PA X es t){f:St}{H:Hp}{Q:List V->Hp->Prop}(q:t f H Q):nM X es f H Q:=⟨λpos g s I=>h pos g s f H Q I q⟩
def aA:ak->R (List PV):=λε=>.ok [] ε
def au(d:ak->R PV)(j:ak->R (List PV)):ak->R (List PV):=λε=>(d ε).bind λx ε1=>(j ε1).bind λg f=>.ok (x::g) f
theorem a9:DA X E [] aA:=λF S i g H Q f h=>n8 jW (h F S H f (bv.refl ..) _ rfl)
theorem KA(u:DE X E e d)(s:DA X E es j)(r:aP (e::es) X.env=(aj,aM e X.env)::aP es X.env:=by rfl):DA X E (e::es) (au d j):=λF S m g H Q p h=>by refine n8 (iF bA ge r) (u F S m g H _ p ((Ok.bind h).imp λx f L G J i N y v o=>?_));refine s L G f g J _ i ((Ok.bind y).imp λM l K C I q A w n z=>?_);exact w K C I q (bv.refl ..) _ ⟨v,n,rfl,o.grow A i.fit,z⟩
theorem aQ.more{K:ax}{F N:af->Prop}{S:Nat->af->Prop}{n:ak}{m:St}{H:Hp}(r:aQ K F S n m H)(p:∀b,N b->¬U S b/\∃o,H b=aa o):aQ K (λb=>F b\/N b) S n m H:=by
 have mono:∀x v,aN K H F x v->aN K H (λb=>F b\/N b) x v:=aN.mono (λ_ h=>.inl h) (λ_ _ _ q=>q) (λ_ _ q _=>q);have f:∀x v,a_ K H F x v->a_ K H (λb=>F b\/N b) x v:=a_.mono (λ_ h=>.inl h) (λ_ _ _ q=>q) (λ_ _ q _=>q);refine⟨r.len,λb h=>h.elim (r.ex b) λz=>(p b z).2,λi pv e=>?_,λi s e=>?_,λi b h=>?_,r.dist⟩
 .obtain⟨v,l,g⟩:=r.val i pv e;exact⟨v,l,mono _ _ g⟩
 .obtain⟨v,l,g⟩:=r.own i s e;exact⟨v,l,g.mono mono f λ_ _ _ z=>z⟩
 .obtain⟨l,g,u⟩:=r.foot i b h;exact⟨l,λz=>z.elim g λw=>(p b w).1 ⟨i,h⟩,u⟩
def yn:PO->Option PV
 |.lst f=>aa (.lst f)
 |_=>ae
def dF(d:ak->R PO):ak->R PV:=λε=>(d ε).bind λf ε1=>a6 (yn f) ε1
theorem DN.de{d:ak->R PO}(h:DN X E e d):DE X E e (dF d):=λF S ε r H Q x q=>by
 unfold dF at q;refine h F S ε r H Q x ?_;cases i:d ε with
 |no=>rw[i]at q;exact q.elim
 |er c s=>rw[i]at q;exact q
 |ok G ε1=>
  rw[i]at q;intro O l m A g a p I n;cases G with
  |dK f=>exact q.elim
  |lls P=>exact q.elim
  |ins C fs=>exact q.elim
  |dT f=>exact q.elim
  |dN f=>exact q.elim
  |inl C fs y u=>exact q.elim
  |lst u=>
   have M:∀b,p b->¬U l b/\∃o,m b=aa o:=λb z=>let ⟨_,_,x3,o,x4,_⟩:=n b z;⟨x3,o,x4⟩
   obtain⟨⟨v,K,J⟩,L⟩:=I;have N:bv (U S) (U l) F (λb=>O b\/p b) H m:=⟨λb z=>.inl (g.fro b z),g.keep,g.there,λb z=>z.elim (g.fnew b) λw=>.inr (.inl (n b w).1),g.onew⟩
   exact q _ l m (A.more M) N _ ⟨a,v,rfl,.inl K,.inr ((L a).mpr rfl),a_.mono (λ_ z=>.inl z) (λ_ _ _ z=>z) (λ_ _ z _=>z) _ _ J⟩
def cu(f:List PV):Option PV:=if f.length<=1000 then aa (.tup f)else ae
def hU(f:List PV):Option PO:=if f.length<=1000 then aa (.lst f)else ae
def dL{g:Type}(f:List PV->Option g)(j:ak->R (List PV)):ak->R g:=λε=>(j ε).bind λh ε1=>a6 (f h) ε1
def PL(K:ax)(r:List V->Hp->VK->Prop)(f:List PV->Option PV):Prop:=∀(F:af->Prop) (H:Hp) (xs:List PV) (h:List V) (Q:VK) (pv:PV),a_ K H F xs h->f xs=aa pv->(∀w i g,Al F i H g->aN K g i pv w->Q w g)->r h H Q
def lN(K:ax)(r:List V->Hp->VK->Prop)(f:List PV->Option PO):Prop:=∀(F:af->Prop) (H:Hp) (i:List PV) (l:List V) (Q:VK) (m:PO),(∀a,F a->∃o,H a=aa o)->a_ K H F i l->f i=aa m ->
 (∀a h g n,Al F h H g->eJ K g h m a n->(∀b,n b->H b=ae/\¬h b/\∃o,g b=aa o/\d8 o)->Q (.ref a) g)->r l H Q
theorem zg{r:List V->Hp->VK->Prop}{f:List PV->Option PV}(z:PL X.K r f)(A:DA X E es j){F:af->Prop}{S:Nat->af->Prop}{n:ak}{g:St}{H:Hp}{Q:VK}(x:aQ X.K F S n g H)(h:Ok X.K E g F S H (dL f j n) (λpv _ q _ m=>∀v,aN X.K m q pv v->Q v m)):nM X es g H λi p=>r i p Q:=by
 refine A F S n g H _ x ((Ok.bind h).imp λi s I G p y J l u C=>?_);cases e:f i with
 |none=>rw[e]at l;exact l.elim
 |some pv=>rw[e]at l;exact z I p i u Q pv C e λw q m al o=>l q G m (y.al al) al.grow w o
theorem nV{O i F l:af->Prop}{H f:Hp}(g:bv O i F l H f){b:af}(h:f b=ae):H b=ae:=by
 cases q:H b with
 |none=>rfl
 |some o=>obtain⟨o',e⟩:=g.there b o q;rw[h]at e;cases e
theorem vR{r:List V->Hp->VK->Prop}{f:List PV->Option PO}(N:lN X.K r f)(O:DA X E es j){F:af->Prop}{S:Nat->af->Prop}{s:ak}{l:St}{H:Hp}{Q:VK}(L:aQ X.K F S s l H)(h:Ok X.K E l F S H (dL f j s) (λv _ q Z g=>∀a p,eJ X.K g q v a p->(∀b,p b->H b=ae/\¬q b/\¬U Z b/\∃o,g b=aa o/\d8 o)->Q (.ref a) g)):nM X es l H λm x=>r m x Q:=by
 refine O F S s l H _ L ((Ok.bind h).imp λm C F1 Y x u T n K P=>?_);cases e:f m with
 |none=>rw[e]at n;exact n.elim
 |some v=>
  rw[e]at n;refine N F1 x m K Q v u.ex P e λa q g p al M W=>n q Y g (u.al al) al.grow a p M λb z=>?_;obtain⟨y,J,o,I,G⟩:=W b z;refine⟨nV T y,J,λ⟨i,w⟩=>?_,o,I,G⟩;obtain⟨_,_,o',A,_⟩:=u.foot i b w;rw[y]at A;cases A
theorem yI{n:Nat}(h:n<=1000):n<=aX:=l8 (MR h)
theorem JJ{K:ax}:PL K (λf H Q=>f.length<=aX/\∀p,H p=ae->Q (.ref p) (upd H p (.tup f))) cu:=λF H f i Q pv g e q=>by
 unfold cu at e;split at e
 .cases e;refine⟨by rw[g.len];exact yI (by assumption),λp h=>q _ F _ (Al.new0 h) ⟨p,i,rfl,bW,(Al.new0 h).reps g⟩⟩
 .cases e
theorem vA{K:ax}{F:af->Prop}{H:Hp}{l:af}{g:List PV}{f:List V}(i:H l=ae)(h:a_ K H F g f):eJ K (upd H l (.lst f)) F (.lst g) l (λb=>b=l):=⟨⟨f,bW,(Al.new0 i).reps h⟩,λb=>Iff.rfl⟩
theorem vN{F:af->Prop}{H:Hp}{l:af}{o:HO}(g:H l=ae)(i:∀a,F a->∃o,H a=aa o)(h:d8 o):∀b,b=l->H b=ae/\¬F b/\∃f,(upd H l o) b=aa f/\d8 f:=λb z=>by
 subst z;exact⟨g,(λw=>by obtain⟨o,q⟩:=i b w;rw[g]at q;cases q),o,bW,h⟩
theorem NV{K:ax}:lN K (λf H Q=>f.length<=aX/\∀p,H p=ae->Q (.ref p) (upd H p (.lst f))) hU:=λF H f l Q m i h e q=>by
 unfold hU at e;split at e
 .cases e;exact⟨by rw[h.len];exact yI (by assumption),λp g=>q p F _ _ (Al.new0 g) (vA g h) (vN g i trivial)⟩
 .cases e
theorem kJ{x1}(h:DA X E es j):DE X E (.Tuple es x1 pos) (dL cu j):=λF S i g H Q f q=>bY (Ic ge) (zg JJ h f q)
theorem vk(h:DA X E es j):DN X E (.List es pos) (dL hU j):=λF S i g H Q f q=>bY (Oc ge) (vR NV h f q)
theorem we(h:DA X E es j):DE X E (.List es pos) (dF (dL hU j)):=(vk h).de
variable{x:Str}{p:Pos}{m T:String}{r:List V->Hp->VK->Prop}{f:List PV->Option PV}{A:List PV->Option PO}
theorem cO(u:fk X (.builtin m) r)(i:PL X.K r f)(n:X.mg x=ae)(h:dW x=aa (.builtin m))(v:DA X E (e::es) j)(o:Gl X x:=by rfl)(l:x≠"__name__":=by decide)(w:(x==("__debug__":Str))=aj:=by decide)(s:aP (e::es) X.env=(aj,aM e X.env)::aP es X.env:=by rfl) (y:(dA pos (aP es X.env)).any (·.1)=aj:=by rfl):DE X E (.Call (.Name x p) (e::es) [] pos) (dL f j):=λF S C z H Q g q=>bY (qr u o n h ge l w s y) (zg i v g q)
theorem yk(u:fk X (.builtin m) r)(i:lN X.K r A)(n:X.mg x=ae)(h:dW x=aa (.builtin m))(v:DA X E (e::es) j)(o:Gl X x:=by rfl)(l:x≠"__name__":=by decide)(w:(x==("__debug__":Str))=aj:=by decide)(s:aP (e::es) X.env=(aj,aM e X.env)::aP es X.env:=by rfl) (y:(dA pos (aP es X.env)).any (·.1)=aj:=by rfl):DN X E (.Call (.Name x p) (e::es) [] pos) (dL A j):=λF S C z H Q g q=>bY (qr u o n h ge l w s y) (vR i v g q)
theorem z5(u:fk X (.type T) r)(i:PL X.K r f)(n:X.mg x=ae)(h:dW x=aa (.type T))(v:DA X E (e::es) j)(o:Gl X x:=by rfl)(l:x≠"__name__":=by decide)(w:(x==("__debug__":Str))=aj:=by decide)(s:aP (e::es) X.env=(aj,aM e X.env)::aP es X.env:=by rfl) (y:(dA pos (aP es X.env)).any (·.1)=aj:=by rfl):DE X E (.Call (.Name x p) (e::es) [] pos) (dL f j):=λF S C z H Q g q=>bY (zz u o n h ge l w s y) (zg i v g q)
theorem CZ(u:fk X (.type T) r)(i:lN X.K r A)(n:X.mg x=ae)(h:dW x=aa (.type T))(v:DA X E (e::es) j)(o:Gl X x:=by rfl)(l:x≠"__name__":=by decide)(w:(x==("__debug__":Str))=aj:=by decide)(s:aP (e::es) X.env=(aj,aM e X.env)::aP es X.env:=by rfl) (y:(dA pos (aP es X.env)).any (·.1)=aj:=by rfl):DN X E (.Call (.Name x p) (e::es) [] pos) (dL A j):=λF S C z H Q g q=>bY (zz u o n h ge l w s y) (vR i v g q)
theorem g8{r:R2}{f:PV->PV->Option PV}(l:kC X r)(n:P2 X.K r f)(q:DE X E a B)(o:DE X E b db)(i:Ds b:=by exact λ_ _=>rfl):DE X E (.Subscript a b pos) (d2 f B db):=λF S u s H Q g h=>bY (CO l bA bA i) (wu n q o g h)
def zc(X:Cx)(e:Option az):TO:=λg H Q=>Bx (∀h s,Inv X h g H s->aq (aw X.prog X.w) X.A (evalPart e X.env) (λu l=>∃o i,Inv X h g i l/\l_ u o/\Q o i) X.xe s)
theorem Bv{o:Option az}:L2.PO X o (zc X o):=λg s _ _ _ I h=>h.run g s I
theorem ER{o:Option az}{t:TO}(h:L2.PO X o t){g:St}{H:Hp}{Q:Option Int->Hp->Prop}(q:t g H Q):zc X o g H Q:=⟨λi s I=>h i s g H Q I q⟩
def DO(X:Cx)(E:XK)(e:Option az)(d:ak->R (Option Int)):Prop:=∀F S h g H Q,aQ X.K F S h g H->Ok X.K E g F S H (d h) (λo _ _ _ i=>Q o i)->zc X e g H Q
def eF:ak->R (Option Int):=λε=>.ok ae ε
def Eh:PV->Option Int
 |.int i=>aa i
 |_=>ae
def dq(d:ak->R PV):ak->R (Option Int):=λε=>(d ε).bind λx ε1=>a6 ((Eh x).map aa) ε1
theorem oy:DO X E ae eF:=λF S l i H Q g h=>ER JS (h F S H g (bv.refl ..))
theorem lK(w:DE X E e d):DO X E (aa e) (dq d):=λF S o l H Q s h=>by
 refine ER (LK bA) (w F S o l H _ s ((Ok.bind h).imp λx n C y z u G g v q=>?_));cases x <;> first|exact(show False from g).elim|skip
 rename_i i;exact⟨i,q,g C y z u (bv.refl ..)⟩
def dI{i:Type}(f:PV->Option Int->Option Int->Option i)(d:ak->R PV)(o n:ak->R (Option Int)):ak->R i:=λε=>(d ε).bind λx ε1=>(o ε1).bind λl h=>(n h).bind λu g=>a6 (f x l u) g
def De(K:ax)(r:V->Option Int->Option Int->Hp->VK->Prop)(f:PV->Option Int->Option Int->Option PV):Prop:=∀(F:af->Prop) (H:Hp) (x:PV) (h i:Option Int) (v:V) (Q:VK) (pv:PV),aN K H F x v->f x h i=aa pv->(∀w l g,Al F l H g->aN K g l pv w->Q w g)->r v h i H Q
theorem mO{r:V->Option Int->Option Int->Hp->VK->Prop}{f:PV->Option Int->Option Int->Option PV}{C G:Option az}{J I:ak->R (Option Int)}{P:Pos}(Y:lP X r)(Z:De X.K r f)(he:DE X E e d)(hl:DO X E C J)(W:DO X E G I):DE X E (.Subscript e (.Slice C G ae P) pos) (dI f d J I):=λF S L i H Q N h=>by
 refine bY (KO Y bA Bv Bv) (he F S L i H _ N ((Ok.bind h).imp λx o F1 S1 H1 z g1 h1 v M=>?_));refine hl F1 S1 o i H1 _ z ((Ok.bind h1).imp λl n F2 S2 H2 y g2 h2=>?_);refine W F2 S2 n i H2 _ y ((Ok.bind h2).imp λu K F3 S3 H3 O g3 g=>?_);cases s:f x l u with
 |none=>rw[s]at g;exact g.elim
 |some pv=>rw[s]at g;exact Z F3 H3 x l u v Q pv ((M.grow g2 z.fit).grow g3 y.fit) s λw F' H' al q=>g F' S3 H' (O.al al) al.grow w q
end
inductive aO where
 |next|ret (s:Slot)|brk|cont
def sE(K:ax)(H:Hp)(F:af->Prop)(s:Slot)(v:V)(c:af->Prop):Prop:=match s with
 |.val pv=>aN K H F pv v/\∀b,¬c b
 |.own d=>∃a,v=.ref a/\eJ K H F d a c
 |.none=>False
def i9(b:List Nat)(c a:St):Prop:=∀i∈b,a[i]?=c[i]?
theorem i9.refl(a:List Nat)(b:St):i9 a b b:=λ_ _=>rfl
theorem i9.trans{c:List Nat}{g f d:St}(a:i9 c g f)(b:i9 c f d):i9 c g d:=λi h=>(b i h).trans (a i h)
theorem i9.set{a:List Nat}{b:St}{i:Nat}{x:Option V}(h:i∉a):i9 a b (b.set i x):=λj c=>by rw[ef (by rintro rfl;exact h c)]
def wv(f:af->Prop)(c:Nat->af->Prop)(d:Hp)(a:af->Prop):Prop:=∀b,a b->¬f b/\¬U c b/\∃o,d b=aa o/\d8 o
def jh(K:ax)(E:XK)(i:List Nat)(j:St)(F:af->Prop)(S:Nat->af->Prop)(H:Hp)(r:R aO)(D:jx):Prop:=match r with
 |.ok .next f=>∀g h a d,aQ K g h f a d->bv (U S) (U h) F g H d->i9 i j a->D.nx a d
 |.ok .brk f=>∀g h a d,aQ K g h f a d->bv (U S) (U h) F g H d->i9 i j a->D.bk a d
 |.ok .cont f=>∀g h a d,aQ K g h f a d->bv (U S) (U h) F g H d->i9 i j a->D.ct a d
 |.ok (.ret s) f=>∀v g h a d l,aQ K g h f a d->bv (U S) (λb=>U h b\/l b) F g H d->i9 i j a->sE K d g s v l->wv g h d l->D.rt v d
 |.er c f=>∀x g h a d,aQ K g h f a d->bv (U S) (U h) F g H d->i9 i j a->E c x d
 |.no=>False
def DS(X:Cx)(E:XK)(b:List Nat)(f:bi)(d:ak->R aO):Prop:=∀F S c a H D,aQ X.K F S c a H->jh X.K E b a F S H (d c) D->wpS X f D a H
def g6(X:Cx)(E:XK)(b:List Nat)(f:List bi)(d:ak->R aO):Prop:=∀F S c a H D,aQ X.K F S c a H->jh X.K E b a F S H (d c) D->p8 X f D a H
section
variable{K:ax}{E:XK}{b:List Nat}{d i:St}{F m:af->Prop}{S j:Nat->af->Prop}{H l:Hp}{D:jx}
theorem jh.from{r:R aO}(h:jh K E b d F S H r D)(g:bv (U S) (U j) F m H l)(p:i9 b d i):jh K E b i m j l r D:=by
 cases r with
 |no=>exact h
 |er c y=>exact λx w q a u n g' o=>h x w q a u n (g.trans g') (p.trans o)
 |ok f y=>
  cases f with
  |next=>exact λw q a u n g' o=>h w q a u n (g.trans g') (p.trans o)
  |brk=>exact λw q a u n g' o=>h w q a u n (g.trans g') (p.trans o)
  |cont=>exact λw q a u n g' o=>h w q a u n (g.trans g') (p.trans o)
  |ret s=>exact λv w q a u z n g' o=>h v w q a u z n (g.trans g') (p.trans o)
theorem jh.bindE{o:Type}{r:R o}{k:o->ak->R aO}(h:jh K E b d F S H (r.bind k) D):Ok K E d F S H r (λa f m j l=>jh K E b d m j l (k a f) D):=by
 cases r with
 |no=>exact h
 |er c g=>exact λx u q s p n=>h x u q d s p n (i9.refl _ _)
 |ok a g=>exact λu q s p n=>h.from n (i9.refl _ _)
end
section
variable{X:Cx}{E:XK}{pin:List Nat}{l:bi}{rest:List bi}{d d1 d2:ak->R aO}{e:az}{de:ak->R PV}{pos:Pos}
def c_:ak->R aO:=λa=>.ok .next a
theorem iB:g6 X E pin [] c_:=λF S c a H D b h=>zv HP (h F S a H b (bv.refl ..) (i9.refl _ _))
def ba(d1 d2:ak->R aO):ak->R aO:=λε=>match d1 ε with
 |.ok .next ε1=>d2 ε1
 |r=>r
theorem bM(u:DS X E pin l d1)(q:g6 X E pin rest d2):g6 X E pin (l::rest) (ba d1 d2):=λF S i m H D n h=>by
 refine zv (GQ Cq sJ) (u F S i m H {D with nx:=p8 X rest D} n ?_);unfold ba at h;split at h
 .rename_i g w;rw[w];exact λz x b y o v p=>q z x g b y D o (h.from v p)
 .rename_i r j;generalize d1 i=r1 at h j;cases r1 with
  |no=>exact h
  |er c a=>exact h
  |ok f a=>
   cases f with
   |next=>exact absurd rfl (j a)
   |brk=>exact h
   |cont=>exact h
   |ret s=>exact h
theorem bE(f:DS X E pin l d1):g6 X E pin [l] d1:=λF S b a H D c h=>zv (HH Cq) (f F S b a H D c h)
def OC(f:aO):ak->R aO:=λa=>.ok f a
def N5(d:ak->R PV):ak->R aO:=λb=>(d b).bind λ_ a=>.ok .next a
def cq(d:ak->R PV):ak->R aO:=λε=>(d ε).bind λx a=>.ok (.ret (.val x)) a
theorem bv.cup{O c F i:af->Prop}{H f:Hp}(g:bv O c F i H f):bv O (λb=>c b\/False) F i H f:=⟨g.fro,g.keep,g.there,g.fnew,λa h=>h.elim (g.onew a) li⟩
theorem dw(j:DE X E e de):DS X E pin (.Return (aa e) pos) (cq de):=λF S c a H D g h=>ie (yr bA) (j F S c a H _ g (h.bindE.imp λx b p n o i q m v f=>m v p n a o (λ_=>False) i (bv.refl ..).cup (i9.refl _ _) ⟨f,λ_ z=>z⟩ λ_ z=>z.elim))
def uV(d:ak->R PO):ak->R aO:=λε=>(d ε).bind λx ε1=>.ok (.ret (.own x)) ε1
theorem Kh{dn:ak->R PO}(u:DN X E e dn):DS X E pin (.Return (aa e) pos) (uV dn):=λF S j g H D p h=>by
 refine ie (yr bA) (u F S j g H _ p ?_);unfold uV at h;cases i:dn j with
 |no=>rw[i]at h;exact h.elim
 |er c o=>rw[i]at h;exact λx J B G r v=>h x J B g G r v (i9.refl _ _)
 |ok K n=>rw[i]at h;intro I A C q f a y s m;exact h _ I A g C y q ⟨f.fro,f.keep,f.there,f.fnew,λb z=>z.elim (f.onew b) λw=>.inr (m b w).1⟩ (i9.refl _ _) ⟨a,rfl,s⟩ λb z=>let ⟨_,x2,x3,x4⟩:=m b z;⟨x2,x3,x4⟩
theorem aQ.drop{K:ax}{F:af->Prop}{S:Nat->af->Prop}{ε:ak}{n:St}{H:Hp}(r:aQ K F S ε n H)(i:Nat):aQ K F (λj b=>S j b/\j≠i) (ε.set i .none) n H:=by
 have no:∀{j s},(ε.set i .none)[j]?=aa s->s≠.none->j≠i/\ε[j]?=aa s:=λ{j s} e q=>by
  by_cases c:i=j
  .subst c;by_cases u:i<ε.length
   .rw[gh u]at e;exact absurd (dz e).symm q
   .rw[xu (by rw[gQ];lia)]at e;cases e
  .rw[ef c]at e;exact⟨fF c,e⟩
 refine⟨by rw[gQ];exact r.len,r.ex,λj pv e=>r.val j pv (no e (by intro z;cases z)).2,λj f e=>?_,λj b h=>?_,λj k b m g=>r.dist j k b m.1 g.1⟩
 .obtain⟨c,e⟩:=no e (by intro z;cases z);obtain⟨a,m,g⟩:=r.own j f e;have v:(λb=>S j b/\j≠i)=S j:=by funext b;simp[c]
  exact⟨a,m,by rw[v];exact g⟩
 .obtain⟨⟨f,p⟩,o⟩:=r.foot j b h.1;exact⟨⟨f,by rw[ef (fF h.2)];exact p⟩,o⟩
theorem aQ.set{K:ax}{F:af->Prop}{S:Nat->af->Prop}{f:ak}{m:St}{H:Hp}{i:Nat}{pv:PV}{v:V}(r:aQ K F S f m H)(h:aN K H F pv v):aQ K F (λj b=>S j b/\j≠i) (f.set i (.val pv)) (m.set i (aa v)) H:=by
 have s:=r.drop i;have len:(f.set i (.val pv)).length=(m.set i (aa v)).length:=by rw[gQ,gQ];exact r.len
 refine⟨len,r.ex,λj p e=>?_,λj n e=>?_,λj b h=>?_,s.dist⟩
 .by_cases c:i=j
  .subst c;have g:i<f.length:=by have:=(cY.mp e).1;rw[gQ]at this;exact this
   rw[gh g]at e;cases e;exact⟨v,gh (by rw[<-r.len];exact g),h⟩
  .rw[ef c]at e;obtain⟨w,q,o⟩:=r.val j p e;exact⟨w,by rw[ef c];exact q,o⟩
 .have c:i≠j:=by
   rintro rfl;have g:i<f.length:=by have:=(cY.mp e).1;rw[gQ]at this;exact this
   rw[gh g]at e;cases e
  rw[ef c]at e;obtain⟨a,q,o⟩:=r.own j n e;have y:(λb=>S j b/\j≠i)=S j:=by funext b;simp[fF c]
  exact⟨a,by rw[ef c];exact q,by rw[y];exact o⟩
 .obtain⟨⟨n,u⟩,x⟩:=s.foot j b h;refine⟨⟨n,?_⟩,x⟩;rw[ef (fF h.2)]at u ⊢;exact u
theorem bv.less{S:Nat->af->Prop}{F:af->Prop}{H:Hp}(i:Nat):bv (U S) (U λj b=>S j b/\j≠i) F F H H:=⟨λ_ z=>z,λ_ _ z _=>z,λ_ o z=>⟨o,z⟩,λ_ z=>.inl z,λb ⟨j,z⟩=>.inl ⟨j,z.1⟩⟩
theorem aQ.setOwn{K:ax}{F:af->Prop}{S:Nat->af->Prop}{q:ak}{x:St}{H:Hp}{i:Nat}{s:PO}{a:af}{n:af->Prop}(r:aQ K F S q x H)(o:i<q.length)(h:eJ K H F s a n)(u:wv F S H n):aQ K F (λj b=>(S j b/\j≠i)\/(j=i/\n b)) (q.set i (.own s)) (x.set i (aa (.ref a))) H:=by
 have B:=r.drop i;refine⟨by rw[gQ,gQ];exact r.len,r.ex,λj p e=>?_,λj g e=>?_,λj b h=>?_,λj k b f c=>?_⟩
 .have m:i≠j:=by rintro rfl;rw[gh o]at e;cases e
  rw[ef m]at e;obtain⟨w,f,c⟩:=r.val j p e;exact⟨w,by rw[ef m];exact f,c⟩
 .by_cases m:i=j
  .subst m;rw[gh o]at e;cases e;have v:(λb=>(S i b/\i≠i)\/(i=i/\n b))=n:=by funext b;simp
   exact⟨a,gh (by rw[<-r.len];exact o),by rw[v];exact h⟩
  .rw[ef m]at e;obtain⟨D,f,c⟩:=r.own j g e;have v:(λb=>(S j b/\j≠i)\/(j=i/\n b))=S j:=by funext b;simp[fF m]
   exact⟨D,by rw[ef m];exact f,by rw[v];exact c⟩
 .rcases h with h|⟨rfl,h⟩
  .obtain⟨⟨g,y⟩,C⟩:=B.foot j b h;refine⟨⟨g,?_⟩,C⟩;rw[ef (fF h.2)]at y ⊢;exact y
  .obtain⟨A,G,z⟩:=u b h;exact⟨⟨s,gh o⟩,A,z⟩
 .rcases f with f|⟨rfl,f⟩ <;> rcases c with c|⟨rfl,c⟩
  .exact r.dist j k b f.1 c.1
  .exact absurd ⟨j,f.1⟩ (u b c).2.1
  .exact absurd ⟨k,c.1⟩ (u b f).2.1
  .rfl
def bG(i:Nat)(d:ak->R PV):ak->R aO:=λε=>(d ε).bind λx ε1=>.ok .next (ε1.set i (.val x))
theorem eT(i:Nat){x:Str}{p:Pos}(u:X.N.Nodup)(s:DE X E e de)(o:i∉pin:=by decide)(q:X.N[i]?=aa x:=by rfl)(m:Loc X.env.scope x:=by first|exact Or.inl rfl|exact Or.inr rfl)(n:iM e (aa (.Name x p)) pos.line X.env=pure aj:=by rfl)(r:X.fn x=ai\/X.env.scope.names.lookup x=aa .local:=by first|exact .inl rfl|exact .inr rfl):DS X E pin (.Assign [.Name x p] e pos) (bG i de):=λF S c a H D g h=>ie (EG u q m bA n r) (s F S c a H _ g (h.bindE.imp λx b z B y j A w v f=>w z _ _ y (j.set f) (bv.less i) (i9.set o)))
def jY(i:Nat)(d:ak->R PO):ak->R aO:=λε=>(d ε).bind λx ε1=>if i<ε1.length then .ok .next (ε1.set i (.own x))else .no
theorem sG(i:Nat){x:Str}{p:Pos}{dn:ak->R PO}(K:X.N.Nodup)(J:DN X E e dn)(C:i∉pin:=by decide)(G:X.N[i]?=aa x:=by rfl)(A:Loc X.env.scope x:=by first|exact Or.inl rfl|exact Or.inr rfl)(B:iM e (aa (.Name x p)) pos.line X.env=pure aj:=by rfl)(I:X.fn x=ai\/X.env.scope.names.lookup x=aa .local:=by first|exact .inl rfl|exact .inr rfl):DS X E pin (.Assign [.Name x p] e pos) (jY i dn):=λF S q o H D u h=>by
 refine ie (EG K G A bA B I) (J F S q o H _ u ?_);unfold jY at h;cases n:dn q with
 |no=>rw[n]at h;exact h.elim
 |er c s=>rw[n]at h;exact λx Q M O w L=>h x Q M o O w L (i9.refl _ _)
 |ok T g=>
  rw[n]at h;simp only[R.bind_ok]at h;intro P Y N v f a W y r;by_cases m:i<g.length
  .rw[if_pos m]at h;refine h P _ _ N (v.setOwn m y λb z=>(r b z).2) ⟨f.fro,f.keep,f.there,f.fnew,λb ⟨j,z⟩=>?_⟩ (i9.set C);rcases z with z|⟨_,z⟩
   .exact f.onew b ⟨j,z.1⟩
   .exact .inr (r b z).1
  .rw[if_neg m]at h;exact h.elim
theorem iG{c:az}{a b:List bi}{t:ak->R Bool}(r:DT X E c t)(u:g6 X E pin a d1)(s:g6 X E pin b d2):DS X E pin (.If c a b pos) (cE t d1 d2):=λF S p g H D q h=>by
 refine ie (Op qa sJ sJ) (r F S p g H _ q (h.bindE.imp λk f o m n i v j=>?_));cases k with
 |true=>exact oB (u o m f g n D i j)
 |false=>exact nY (s o m f g n D i j)
def CQ:ak->R aO:=λ_=>.no
theorem Oj{a:List bi}:g6 X E pin a CQ:=λ_ _ _ _ _ _ _ h=>h.elim
def dR(r:R aO):R aO:=match r with
 |.er _ _=>.no
 |r=>r
theorem mH(h:DS X.nox E0 pin l d):DS X E pin l (λa=>dR (d a)):=λF S a b H D i q=>Bx.mk λm s I=>by
 have q:jh X.K E pin b F S H (dR (d a)) D:=q;have j:jh X.K E0 pin b F S H (d a) D:=by
  cases e:d a with
  |no=>rw[e]at q;exact q
  |er c g=>rw[e]at q;exact q.elim
  |ok f g=>rw[e]at q;cases f <;> exact q
 exact eP ((h F S a b H D i j).run m s (I.wish _)) (λ_ _ z=>z.unwish) λ_ _ z=>z.elim
def sW(X:Cx)(f a:az):TI:=λb H h=>Bx (∀c s,Inv X c b H s->aq (aw X.prog X.w) X.A (aM a X.env) (λv g=>aq (aw X.prog X.w) X.A (lc v) (rG X c b f h) X.xe g) X.xe s)
theorem E_{b a:az}:PI X b a (sW X b a):=λc s _ _ _ I h=>h.run c s I
theorem yy{f a:az}{t:TI}(h:PI X f a t){b:St}{H:Hp}{c:It->Hp->Prop}(q:t b H c):sW X f a b H c:=⟨λg s I=>h g s b H c I q⟩
def DI(X:Cx)(E:XK)(q a:az)(d:ak->R (List PV)):Prop:=∀F S m c H n,aQ X.K F S m c H ->
 Ok X.K E c F S H (d m) (λg _ p r i=>∀J f o,a_ X.K i p g f->f.length<=aX->Walk J f o->(∀h j b,bv (U r) (U h) p j i b->o b)->n J i)->sW X q a c H n
def cz(i:Nat)(db:ak->R aO):List PV->ak->R aO
 |[],ε=>.ok .next ε
 |x::b,ε=>match db (ε.set i (.val x))with
  |.ok .next a=>cz i db b a
  |.ok .cont a=>cz i db b a
  |.ok .brk a=>.ok .next a
  |r=>r
def cR(i:Nat)(b:ak->R (List PV))(db:ak->R aO):ak->R aO:=λε=>(b ε).bind λa ε1=>cz i db a ε1
theorem kN(i:Nat){x:Str}{p:Pos}{o:az}{r:List bi}{di:ak->R (List PV)}{G:ak->R aO}(P:PassesOwn (aw X.prog X.w) X.A X.env X.xe)(hc:X.calm=ai)(hN:X.N.Nodup)(hi:DI X E (.Name x p) o di)(hb:g6 X E pin r G)(hp:i∉pin:=by decide) (B:X.N[i]?=aa x:=by rfl) (Q:Loc X.env.scope x:=by first|exact Or.inl rfl|exact Or.inr rfl) (hs:∀x,mX o X.env x=pure x:=by intro _;rfl)(hf:X.fn x=ai\/X.env.scope.names.lookup x=aa .local:=by first|exact .inl rfl|exact .inr rfl):DS X E pin (.For (.Name x p) o r [] pos) (cR i di G):=λF S ε σ H D rl h=>by
 refine ie (KS P hc E_ (wK hN B Q hf) sJ hs) (hi F S ε σ H _ rl (h.bindE.imp λz K F1 S1 H1 r1 g1 h1 J vs RR Z hz hw keep=>?_));refine MF hw (λk a n=>∃u w m,aQ X.K u w m a n/\bv (U S1) (U w) F1 u H1 n/\jh X.K E pin a u w n (cz i G (z.drop k) m) D) ⟨F1,S1,K,r1,bv.refl ..,h1⟩ (λk a n _ ⟨u,w,m,_,g,_⟩=>keep w u n g) ?_ ?_
 .rintro k v a n hv ⟨u,w,m,N,C,q⟩;obtain⟨x,B,rx⟩:=Z.back hv;have hk:k<z.length:=(cY.mp B).1;have ed:z.drop k=x::z.drop (k+1):=by rw[xx hk];congr 1;exact(cY.mp B).2
  rw[ed]at q;have L:=rx.grow C r1.fit;have r2:=N.set (i:=i) L;have T:bv (U w) (U λj b=>w j b/\j≠i) u u n n:=bv.less i;show p8 X r _ (a.set i (aa v)) n;refine hb u _ _ _ n _ r2 ?_;unfold cz at q;have q:=q.from T (i9.set (x:=aa v) hp);cases e:G (m.set i (.val x))with
  |no=>rw[e]at q;exact q
  |er c y=>rw[e]at q;exact q
  |ok f y=>
   rw[e]at q;cases f with
   |next=>exact λY W I H3 M A O=>⟨Y,W,y,M,(C.trans T).trans A,q.from A O⟩
   |cont=>exact λY W I H3 M A O=>⟨Y,W,y,M,(C.trans T).trans A,q.from A O⟩
   |brk=>exact q
   |ret s=>exact q
 .rintro a n ⟨u,w,m,N,C,q⟩;have Q:vs.length=z.length:=Z.len;rw[Q,List.drop_length]at q;exact q u w a n N (bv.refl ..) (i9.refl _ _)
end
def wq(K:ax)(E:XK)(i:List V)(F:af->Prop)(S:Nat->af->Prop)(H:Hp)(r:R Slot)(Q:VK):Prop:=match r with
 |.ok s h=>∀v d f a g,aQ K d f h (i.map aa) a->bv (U S) (λb=>U f b\/g b) F d H a->sE K a d s v g->wv d f a g->(∀b,g b->H b=ae)->Q v a
 |.er c h=>∀x d f a,aQ K d f h (i.map aa) a->bv (U S) (U f) F d H a->E c x a
 |.no=>False
def ce(K:ax)(g:ak->R Slot):Sp:=λa H Q E=>∃F S b,aQ K F S b (a.map aa) H/\wq K E a F S H (g b) Q
structure c8(CX:fK)(P:aL)(w:aE)(K:ax)(mg:Str->Option ah)(base:aB)(x:Str)(k:Nat)(ps:List Str)(sp:Sp):Prop where
 ex:∃f fd,mg x=aa (.ref f)/\jU P w K mg base CX k f fd ps sp/\Binds K fd ps []/\tw K (.ref f)=ai
def back:ak->ak->Option ak
 |[],_=>aa []
 |.own _::a,.own c::b=>(back a b).map (.own c::·)
 |.own _::_,_=>ae
 |s::a,_::b=>(back a b).map (s::·)
 |_::_,[]=>ae
theorem vM:∀{a c b:ak},back a c=aa b->b.length=a.length/\∀(i:Nat) (s:Slot),b[i]?=aa s->(∃g f,a[i]?=aa (.own g)/\c[i]?=aa (.own f)/\s=.own f)\/(a[i]?=aa s/\∀g,s≠.own g)
 |[],_,b,h=>by cases h;exact⟨rfl,λi s e=>by simp at e⟩
 |.own g::a,.own f::c,b,h=>by
  unfold back at h;cases e:back a c with
  |none=>rw[e]at h;cases h
  |some r=>
   rw[e]at h;cases h;obtain⟨l,q⟩:=vM e;refine⟨by simp[l],λi s d=>?_⟩;cases i with
   |zero=>simp at d;subst d;exact .inl ⟨g,f,rfl,rfl,rfl⟩
   |succ i=>simpa using q i s (by simpa using d)
 |.own g::a,.none::c,b,h=>by cases h
 |.own g::a,.val _::c,b,h=>by cases h
 |.own g::a,[],b,h=>by cases h
 |.none::a,[],b,h=>by cases h
 |.val _::a,[],b,h=>by cases h
 |.none::a,x::c,b,h=>by
  have h:(back a c).map (Slot.none::·)=aa b:=by unfold back at h;cases x <;> exact h
  cases e:back a c with
  |none=>rw[e]at h;cases h
  |some r=>
   rw[e]at h;cases h;obtain⟨l,q⟩:=vM e;refine⟨by simp[l],λi s d=>?_⟩;cases i with
   |zero=>simp at d;subst d;exact .inr ⟨rfl,λ_ z=>by cases z⟩
   |succ i=>simpa using q i s (by simpa using d)
 |.val pv::a,x::c,b,h=>by
  have h:(back a c).map (Slot.val pv::·)=aa b:=by unfold back at h;cases x <;> exact h
  cases e:back a c with
  |none=>rw[e]at h;cases h
  |some r=>
   rw[e]at h;cases h;obtain⟨l,q⟩:=vM e;refine⟨by simp[l],λi s d=>?_⟩;cases i with
   |zero=>simp at d;subst d;exact .inr ⟨rfl,λ_ z=>by cases z⟩
   |succ i=>simpa using q i s (by simpa using d)
def bL(n:Nat)(d:ak->R aO):ak->R Slot:=λf=>match d (f++df n .none)with
 |.ok (.ret r) a=>(a6 (back f a) []).bind λb _=>.ok r b
 |.ok .next a=>(a6 (back f a) []).bind λb _=>.ok (.val .non) b
 |.er c a=>(a6 (back f a) []).bind λb _=>.er c b
 |_=>.no
section
variable{K:ax}{F x:af->Prop}{S o:Nat->af->Prop}{c l m:ak}{f:St}{H u:Hp}{d:List V}
theorem aQ.start(r:aQ K F S c (d.map aa) H)(n:Nat):aQ K F S (c++df n .none) (d.map aa++df n ae) H:=by
 have A:c.length=(d.map aa).length:=r.len;have no:∀{j:Nat}{s:Slot},(c++df n Slot.none)[j]?=aa s->s≠.none->c[j]?=aa s:=λ{j s} e y=>by
  by_cases B:j<c.length
  .rw[ir B]at e;exact e
  .rw[oR ∅,List.getElem?_replicate]at e;split at e
   .exact absurd (dz e).symm y
   .cases e
 have p:∀{j:Nat}{v:Option V},(d.map aa)[j]?=aa v->(d.map aa++df n ae)[j]?=aa v:=λ{j v} e=>by rw[ir (cY.mp e).1];exact e
 refine⟨by simp[A],r.ex,λj pv e=>?_,λj a e=>?_,λj b h=>?_,r.dist⟩
 .obtain⟨v,i,g⟩:=r.val j pv (no e (by intro z;cases z));exact⟨v,p i,g⟩
 .obtain⟨v,i,g⟩:=r.own j a (no e (by intro z;cases z));exact⟨v,p i,g⟩
 .obtain⟨⟨a,q⟩,w⟩:=r.foot j b h;exact⟨⟨a,by rw[ir (cY.mp q).1];exact q⟩,w⟩
theorem Cr{i:PO}{a:af}{n:af->Prop}(h:eJ K H F i a n)(j:ga i=ai):∀b,n b↔b=a:=by
 cases i with
 |lst p=>exact h.2
 |dK g=>exact h.2
 |lls q=>cases j
 |ins C fs=>exact h.2
 |dT g=>exact h.2
 |dN g=>exact h.2
 |inl C fs y p=>cases j
theorem JV{g:PO}{a:af}{i:af->Prop}(h:eJ K H F g a i):i a:=by
 cases g with
 |lst j=>exact(h.2 a).mpr rfl
 |dK b=>exact(h.2 a).mpr rfl
 |lls n=>obtain⟨p,_,_,_,_,w⟩:=h;exact(w a).mpr (.inl rfl)
 |ins C fs=>exact(h.2 a).mpr rfl
 |dT b=>exact(h.2 a).mpr rfl
 |dN b=>exact(h.2 a).mpr rfl
 |inl C fs y j=>obtain⟨_,_,_,_,_,_,_,_,_,_,w⟩:=h;exact(w a).mpr (.inl rfl)
theorem aQ.back{X:af->Prop}{D:List Nat}{n:Nat}(C:aQ K F S c (d.map aa) H)(r:aQ K x o l f u)(g:bv (U S) X F x H u)(p:i9 D (d.map aa++df n ae) f)(P:∀(i:Nat) (s:PO),c[i]?=aa (.own s)->i∈D)(Q:back c l=aa m):∃B,aQ K x B m (d.map aa) u/\(∀b,U B b->U o b)/\((∀(i:Nat) (s:PO),c[i]?=aa (.own s)->ga s=ai)->∀b,U S b->U B b):=by
 obtain⟨M,G⟩:=vM Q;have inj:∀(i:Nat) (s:PO),c[i]?=aa (.own s)->∃a,(d.map aa)[i]?=aa (aa (.ref a))/\f[i]?=aa (aa (.ref a))/\eJ K H F s a (S i):=λi s e=>by obtain⟨a,y,A⟩:=C.own i s e;refine⟨a,y,?_,A⟩;rw[p i (P i s e),ir (cY.mp y).1];exact y
 have bk:∀(i:Nat) (s:PO),c[i]?=aa (.own s)->∃w,m[i]?=aa (.own w)/\l[i]?=aa (.own w):=λi s e=>by
  have hi:i<m.length:=by rw[M];exact(cY.mp e).1
  rcases G i m[i] (by simp[hi])with⟨p1,p2,q1,q2,q3⟩|⟨q1,q2⟩
  .exact⟨p2,by rw[eh hi,q3],q2⟩
  .rw[e]at q1;exact absurd (dz q1).symm (q2 s)
 refine⟨λi b=>o i b/\∃s,c[i]?=aa (.own s),⟨by rw[M];exact C.len,r.ex,λi pv e=>?_,λi s e=>?_,λi b h=>?_,λi j b y A=>r.dist i j b y.1 A.1⟩,λb ⟨i,h⟩=>⟨i,h.1⟩,λO b ⟨i,h⟩=>?_⟩
 .rcases G i _ e with⟨_,_,_,_,z⟩|⟨q1,_⟩
  .cases z
  .obtain⟨v,y,A⟩:=C.val i pv q1;exact⟨v,y,A.grow g C.fit⟩
 .rcases G i _ e with⟨p1,p2,q1,q2,q3⟩|⟨_,q2⟩
  .cases q3;obtain⟨a,y,A,N⟩:=inj i p1 q1;obtain⟨W,E,I⟩:=r.own i s q2;rw[A]at E;cases E;refine⟨a,y,?_⟩;have T:(λb=>o i b/\∃s,c[i]?=aa (.own s))=o i:=by funext b;exact propext ⟨λz=>z.1,λz=>⟨z,p1,q1⟩⟩
   rw[T];exact I
  .exact absurd rfl (q2 s)
 .obtain⟨s,q⟩:=h.2;obtain⟨w,L,J⟩:=bk i s q;exact⟨⟨w,L⟩,(r.foot i b h.1).2⟩
 .obtain⟨⟨s,q⟩,_⟩:=C.foot i b h;obtain⟨a,y,A,N⟩:=inj i s q;obtain⟨w,L,J⟩:=bk i s q;obtain⟨W,E,I⟩:=r.own i w J;rw[A]at E;cases E;have e:b=a:=(Cr N (O i s q) b).mp h;exact⟨i,e ▸ JV I,s,q⟩
end
theorem wn{K:ax}{E:XK}{a:List V}{F:af->Prop}{S:Nat->af->Prop}{H:Hp}{r:R Slot}{Q:VK}(h:wq K E a F S H r Q):r≠.no:=λz=>by rw[z]at h;exact h
theorem Hi{K:ax}{g:ak->R Slot}{m:Nat}(f:∀a,g a≠.no->a.length=m):∀b H Q E,ce K g b H Q E->b.length=m:=λb H Q E ⟨F,S,a,c,ok⟩=>by have:=f a (wn ok);have d:=c.len;rw[dD]at d;lia
theorem OL{X:Cx}{E:XK}{u:List bi}{N P:List Str}{s:List V}{H:Hp}{Q:VK}{n:Nat}{g:ak->R Slot}{d:ak->R aO}{A:List Nat}(hn:N.length=P.length+n)(aH:∀a,g a≠.no->a.length=P.length) (jQ:∀a,g a≠.no->∀(i:Nat) po,a[i]?=aa (.own po)->i∈A) (Z:∀a p m,g a=.ok p m->(∃pv,p=.val pv)\/∀(i:Nat) po,a[i]?=aa (.own po)->ga po=ai) (hg:∀a,g a≠.no->bL n d a=g a)(hb:g6 X E A u d) (lA:ce X.K g s H Q E):p8 X u {nx:=λ_ l=>Q .non l,rt:=Q} (L2.start N s) H:=by
 obtain⟨F,S,a,L,ok⟩:=lA;have hl:=aH a (wn ok);have h2:=L.len;rw[dD]at h2;have es:L2.start N s=s.map aa++df n ae:=by unfold L2.start;rw[show N.length-s.length=n by lia]
 rw[es];refine hb F S _ _ H _ (L.start n) ?_;have W:=jQ a (wn ok);have kr:=hg a (wn ok);have K:=Z a;rw[<-kr]at ok K;unfold bL at ok K;generalize d (a++df n .none)=r at ok K ⊢;cases r with
 |no=>exact ok
 |er c h=>
  intro x q C j l D f G;have ok:wq X.K E s F S H ((a6 (back a h) []).bind λm _=>.er c m) Q:=ok;cases e:back a h with
  |none=>rw[e]at ok;exact ok.elim
  |some m=>rw[e]at ok;obtain⟨B,y,o,_⟩:=L.back D f G W e;exact ok x q B l y ⟨f.fro,f.keep,f.there,f.fnew,λb z=>f.onew b (o b z)⟩
 |ok fl h=>
  have I:∀(p:Slot),(∀m,back a h=aa m->(∃pv,p=.val pv)\/∀(i:Nat) po,a[i]?=aa (.own po)->ga po=ai)->wq X.K E s F S H ((a6 (back a h) []).bind λm _=>.ok p m) Q->∀(v:V) q C j l J,aQ X.K q C h j l->bv (U S) (λb=>U C b\/J b) F q H l->i9 A (s.map aa++df n ae) j->sE X.K l q p v J->wv q C l J->Q v l:=by
   intro p O ok v q C j l J D f G T M;cases e:back a h with
   |none=>rw[e]at ok;exact ok.elim
   |some m=>
    rw[e]at ok;obtain⟨B,y,o,Y⟩:=L.back D f G W e;refine ok v q B l J y ⟨f.fro,f.keep,f.there,f.fnew,λb z=>f.onew b (z.imp (o b) id)⟩ T (λb z=>⟨(M b z).1,λw=>(M b z).2.1 (o b w),(M b z).2.2⟩) λb z=>?_;rcases O m e with⟨pv,rfl⟩|hf
    .exact absurd z (T.2 b)
    rcases f.onew b (.inr z)with w|w
    .exact absurd (o b (Y hf b w)) (M b z).2.1
    .exact w
  cases fl with
  |brk=>exact ok.elim
  |cont=>exact ok.elim
  |ret p=>exact I p (λm e=>K p m (by show(a6 (back a h) []).bind _=_;rw[e];rfl)) ok
  |next=>exact λq C j l D f G=>I (.val .non) (λ_ _=>.inl ⟨_,rfl⟩) ok .non q C j l (λ_=>False) D ⟨f.fro,f.keep,f.there,f.fnew,λb z=>z.elim (f.onew b) li⟩ G ⟨rfl,λ_ z=>z⟩ λ_ z=>z.elim
theorem BC{f:af}{p:gw}{D:fK}{P:aL}{w:aE}{K:ax}{v:Str->Option ah}{j:aB}{x b:Str}{h:bi}{N l:List Str}{k n:Nat}{g:ak->R Slot}{d:ak->R aO}{m:List Nat}(Z:n_ K x b h f p)(Y:cJ N l (bd h))(S:N.length=l.length+n)(hb:∀(kV o u:ah) (z:Option af) (B y:ah) (q:List ah),q.length=l.length->eQ (jl x b (jw h) (gg h) (bd h) .none kV o u z B y) ⟨q,[]⟩=pure (l.zip q))(C:∀c,g c≠.no->c.length=l.length) (M:∀c,g c≠.no->∀(i:Nat) po,c[i]?=aa (.own po)->i∈m) (G:∀c r X,g c=.ok r X->(∃pv,r=.val pv)\/∀(i:Nat) po,c[i]?=aa (.own po)->ga po=ai) (T:∀c,g c≠.no->bL n d c=g c)(L:∀(A:aS) (a:List Env) (s:ao) (H:Hp) (E:XK),Room k (A.deeper (jj b (bd h) s.heap.objs.size f p.code))->g6 (h8 D P w K v j N b (bd h) f p.code A a s H E) E m (gg h) d):jU P w K v j D (k+1) f p l (ce K g):=by obtain⟨oc,od,kV,o,u,z,B,y,F,rfl,I,W⟩:=Z.ex;exact GH I W Y (Hi C) λA a s H vs Q E O J=>⟨_,sJ,OL S C M G T (L A a s H E O) J⟩
theorem Dd{f:af}{u:gw}{B:fK}{P:aL}{w:aE}{K:ax}{y:Str->Option ah}{l:aB}{x b:Str}{j:bi}{N m:List Str}{k n:Nat}{g:ak->R Slot}{d:ak->R aO}{p:List Nat}(Q:n_ K x b j f u)(O:cJ N m (bd j))(F:N.length=m.length+n)(I:∀(kV v C:ah) (L:Option af) (q J:ah) (r:List ah),r.length=m.length->eQ (jl x b (jw j) (gg j) (bd j) .none kV v C L q J) ⟨r,[]⟩=pure (m.zip r))(M:∀c,g c≠.no->c.length=m.length) (z:∀c,g c≠.no->∀(i:Nat) o,c[i]?=aa (.own o)->i∈p/\ga o=ai) (G:∀c,g c≠.no->bL n d c=g c)(D:∀(f:af) (q:ah) (A:aS) (a:List Env) (s:ao) (H:Hp) (E:XK),Room k (A.deeper (jj b (bd j) s.heap.objs.size f q))->g6 (h8 B P w K y l N b (bd j) f q A a s H E) E p (gg j) d):jU P w K y l B (k+1) f u m (ce K g):=BC Q O F I M (λc h i o e=>(z c h i o e).1) (λc S T h=>.inr λi o e=>(z c (by rw[h];exact nofun) i o e).2) G λA a s H E=>D f u.code A a s H E
theorem O4{v:fK}{P:aL}{w:aE}{K:ax}{p:Str->Option ah}{c:aB}{x:Str}{b:bi}{N j:List Str}{k n:Nat}{g:ak->R Slot}{d:ak->R aO}{l:List Nat}(D:c7 K p x b)(O:cJ N j (bd b))(C:N.length=j.length+n)(u:∀(kV q y:ah) (L:Option af) (m J:ah) (o:List ah),o.length=j.length->eQ (jl x x (jw b) (gg b) (bd b) .none kV q y L m J) ⟨o,[]⟩=pure (j.zip o))(M:∀a,g a≠.no->a.length=j.length) (B:∀a,g a≠.no->∀(i:Nat) po,a[i]?=aa (.own po)->i∈l/\ga po=ai) (G:∀a,g a≠.no->bL n d a=g a)(z:∀(f:af) (m:ah) (A:aS) (h:List Env) (s:ao) (H:Hp) (E:XK),Room k (A.deeper (jj x (bd b) s.heap.objs.size f m))->g6 (h8 v P w K p c N x (bd b) f m A h s H E) E l (gg b) d):c8 v P w K p c x (k+1) j (ce K g):=by obtain⟨f,I,F,r⟩:=D.ex;exact⟨f,I,F,Dd r O C u M B G z,r.binds u,r.kp⟩
abbrev bZ:=Sum PV Nat
def iA(K:ax)(b:St)(F:af->Prop)(H:Hp):List bZ->List V->Prop
 |[],a=>a=[]
 |.inl pv::c,a=>∃v r,a=v::r/\aN K H F pv v/\iA K b F H c r
 |.inr i::c,a=>∃v r,a=v::r/\b[i]?=aa (aa v)/\iA K b F H c r
def DG(X:Cx)(E:XK)(g:List az)(d:ak->R (List bZ)):Prop :=
 ∀F S b a H Q,aQ X.K F S b a H->Ok X.K E a F S H (d b) (λh _ i _ f=>∀c,iA X.K a i f h c->Q c f)->nM X g a H Q
section
variable{X:Cx}{E:XK}{e:az}{b:List az}{de:ak->R PV}{c:ak->R (List bZ)}{f:Pos}
def cb:ak->R (List bZ):=λε=>.ok [] ε
def gV(d:ak->R PV)(c:ak->R (List bZ)):ak->R (List bZ):=λε=>(d ε).bind λx ε1=>(c ε1).bind λg a=>.ok (.inl x::g) a
def gO(i:Nat)(c:ak->R (List bZ)):ak->R (List bZ):=λd=>match d[i]? with
 |some (.own _)=>(c d).bind λg a=>.ok (.inr i::g) a
 |_=>.no
theorem cr:DG X E [] cb:=λF S g d H Q a h=>n8 jW (h F S H a (bv.refl ..) _ rfl)
theorem HR(r:DE X E e de)(q:DG X E b c)(p:aP (e::b) X.env=(aj,aM e X.env)::aP b X.env:=by rfl):DG X E (e::b) (gV de c):=λF S j d H Q n h=>by refine n8 (iF bA ge p) (r F S j d H _ n ((Ok.bind h).imp λx a G A C g J u v m=>?_));refine q G A a d C _ g ((Ok.bind u).imp λI i D z B o y s l w=>?_);exact s D z B o (bv.refl ..) _ ⟨v,l,rfl,m.grow y g.fit,w⟩
theorem g_(i:Nat){x:Str}{p:Pos}(u:DG X E b c)(w:X.N[i]?=aa x:=by rfl)(r:fu X.env.scope x:=by eq_refl)(v:(x==("__debug__":Str))=aj:=by decide)(A:(x==("__classdict__":Str))=aj:=by decide) (s:aP (.Name x p::b) X.env=(aj,aM (.Name x p) X.env)::aP b X.env:=by rfl):DG X E (.Name x p::b) (gO i c):=λF S m j H Q d h=>by
 unfold gO at h;split at h
 .rename_i q e;obtain⟨a,g,_⟩:=d.own i q e;refine n8 (iF (gK w r v A) ge s) ⟨_,g,u F S m j H _ d ((Ok.bind h).imp λG l D B C o I y n z=>?_)⟩;exact y D B C o (bv.refl ..) _ ⟨_,n,rfl,g,z⟩
 .exact h.elim
end
def gu(a:ak):List bZ->Option ak
 |[]=>aa []
 |.inl pv::b=>(gu a b).map (.val pv::·)
 |.inr i::b=>match a[i]? with
  |some (.own c)=>(gu a b).map (.own c::·)
  |_=>ae
def g7:ak->List bZ->ak->ak
 |a,.inl _::c,_::b=>g7 a c b
 |a,.inr i::c,s::b=>g7 (a.set i s) c b
 |a,_,_=>a
def c9:List bZ->List Nat
 |[]=>[]
 |.inl _::as=>c9 as
 |.inr i::as=>i::c9 as
theorem CV:∀{as:List bZ}{i:Nat},i∈c9 as↔∃k:Nat,as[k]?=aa (.inr i)
 |[],i=>by simp[c9]
 |.inl _::as,i=>by
  unfold c9;rw[CV];constructor
  .rintro⟨k,h⟩;exact⟨k+1,by simpa using h⟩
  .rintro⟨k,h⟩;cases k with
   |zero=>simp at h
   |succ k=>exact⟨k,by simpa using h⟩
 |.inr j::as,i=>by
  unfold c9;rw[br,CV];constructor
  .rintro(rfl|⟨k,h⟩)
   .exact⟨0,rfl⟩
   .exact⟨k+1,by simpa using h⟩
  .rintro⟨k,h⟩;cases k with
   |zero=>simp at h;exact .inl h.symm
   |succ k=>exact .inr ⟨k,by simpa using h⟩
theorem wc{d:ak}:∀{a:List bZ}{c:ak},gu d a=aa c->c.length=a.length/\∀(k:Nat) (s:Slot),c[k]?=aa s->(∃pv,a[k]?=aa (.inl pv)/\s=.val pv)\/∃i f,a[k]?=aa (.inr i)/\d[i]?=aa (.own f)/\s=.own f
 |[],c,h=>by cases h;exact⟨rfl,λk s e=>by simp at e⟩
 |.inl pv::a,c,h=>by
  unfold gu at h;cases e:gu d a with
  |none=>rw[e]at h;cases h
  |some r=>
   rw[e]at h;cases h;obtain⟨l,q⟩:=wc e;refine⟨by simp[l],λk s b=>?_⟩;cases k with
   |zero=>simp at b;exact .inl ⟨pv,rfl,b.symm⟩
   |succ k=>simpa using q k s (by simpa using b)
 |.inr i::a,c,h=>by
  unfold gu at h;split at h
  .rename_i f g;cases e:gu d a with
   |none=>rw[e]at h;cases h
   |some r=>
    rw[e]at h;cases h;obtain⟨l,q⟩:=wc e;refine⟨by simp[l],λk s b=>?_⟩;cases k with
    |zero=>simp at b;exact .inr ⟨i,f,rfl,g,b.symm⟩
    |succ k=>simpa using q k s (by simpa using b)
  .cases h
theorem vh:∀(c:List bZ) (a b:ak),(g7 a c b).length=a.length
 |[],a,b=>by cases b <;> rfl
 |.inl _::c,a,[]=>rfl
 |.inr _::c,a,[]=>rfl
 |.inl _::c,a,s::b=>vh c a b
 |.inr i::c,a,s::b=>by show(g7 (a.set i s) c b).length=_;rw[vh,gQ]
theorem qo:∀(a:List bZ) (b c:ak) (j:Nat),j∉c9 a->(g7 b a c)[j]?=b[j]?
 |[],b,c,j,_=>by cases c <;> rfl
 |.inl _::a,b,[],j,_=>rfl
 |.inr _::a,b,[],j,_=>rfl
 |.inl _::a,b,s::c,j,h=>qo a b c j h
 |.inr i::a,b,s::c,j,h=>by
  have d:¬(j=i\/j∈c9 a):=by simpa[c9]using h
  show(g7 (b.set i s) a c)[j]?=_;rw[qo a _ c j λz=>d (.inr z),ef λz=>d (.inl z.symm)]
theorem rh:∀(a:List bZ) (b c:ak) (j k:Nat) (s:Slot),(c9 a).Nodup->j<b.length->a[k]?=aa (.inr j)->c[k]?=aa s->(g7 b a c)[j]?=aa s
 |[],b,c,j,k,s,_,_,h,_=>by simp at h
 |_::a,b,[],j,k,s,_,_,_,h=>by simp at h
 |.inl _::a,b,t::c,j,0,s,_,_,h,_=>by simp at h
 |.inl _::a,b,t::c,j,k+1,s,nd,hj,h,g=>rh a b c j k s nd hj (by simpa using h) (by simpa using g)
 |.inr i::a,b,t::c,j,0,s,nd,hj,h,g=>by simp at h g;subst h g;have d:i∉c9 a:=(lj.mp nd).1;show(g7 (b.set i t) a c)[i]?=_;rw[qo a _ c i d,gh hj]
 |.inr i::a,b,t::c,j,k+1,s,nd,hj,h,g=>rh a (b.set i t) c j k s (lj.mp nd).2 (by rw[gQ];exact hj) (by simpa using h) (by simpa using g)
theorem iA.len{K:ax}{b:St}{F:af->Prop}{H:Hp}:∀{a:List bZ}{vs:List V},iA K b F H a vs->vs.length=a.length
 |[],_,h=>by rw[show _=[] from h];rfl
 |.inl _::a,_,⟨v,r,e,_,h⟩=>by rw[e,dE,dE,iA.len h]
 |.inr _::a,_,⟨v,r,e,_,h⟩=>by rw[e,dE,dE,iA.len h]
theorem iA.val{K:ax}{d:St}{F:af->Prop}{H:Hp}:∀{as:List bZ}{c:List V}{k:Nat}{pv:PV},iA K d F H as c->as[k]?=aa (.inl pv)->∃v,c[k]?=aa v/\aN K H F pv v
 |[],_,k,_,_,e=>by simp at e
 |.inl x::as,_,0,pv,⟨v,r,e,h,_⟩,q=>by simp at q;subst q e;exact⟨v,rfl,h⟩
 |.inr _::as,_,0,pv,_,q=>by simp at q
 |.inl x::as,_,k+1,pv,⟨v,r,e,_,h⟩,q=>by obtain⟨w,a,b⟩:=iA.val (k:=k) h (by simpa using q);subst e;exact⟨w,by simpa using a,b⟩
 |.inr x::as,_,k+1,pv,⟨v,r,e,_,h⟩,q=>by obtain⟨w,a,b⟩:=iA.val (k:=k) h (by simpa using q);subst e;exact⟨w,by simpa using a,b⟩
theorem iA.own{K:ax}{c:St}{F:af->Prop}{H:Hp}:∀{as:List bZ}{d:List V}{k i:Nat},iA K c F H as d->as[k]?=aa (.inr i)->∃v,d[k]?=aa v/\c[i]?=aa (aa v)
 |[],_,k,_,_,e=>by simp at e
 |.inr x::as,_,0,pv,⟨v,r,e,h,_⟩,q=>by simp at q;subst q e;exact⟨v,rfl,h⟩
 |.inl _::as,_,0,pv,_,q=>by simp at q
 |.inl x::as,_,k+1,pv,⟨v,r,e,_,h⟩,q=>by obtain⟨w,a,b⟩:=iA.own (k:=k) h (by simpa using q);subst e;exact⟨w,by simpa using a,b⟩
 |.inr x::as,_,k+1,pv,⟨v,r,e,_,h⟩,q=>by obtain⟨w,a,b⟩:=iA.own (k:=k) h (by simpa using q);subst e;exact⟨w,by simpa using a,b⟩
section
variable{K:ax}{F A:af->Prop}{S m:Nat->af->Prop}{c s f:ak}{u:St}{H y:Hp}{as:List bZ}{d:List V}
def lS(as:List bZ)(S:Nat->af->Prop)(k:Nat)(b:af):Prop:=∃i,as[k]?=aa (.inr i)/\S i b
theorem vU(b:af)(h:U (lS as S) b):U S b:=let ⟨_,i,_,h⟩:=h;⟨i,h⟩
theorem wE:∀{as:List bZ}{i k l:Nat},(c9 as).Nodup->as[k]?=aa (.inr i)->as[l]?=aa (.inr i)->k=l
 |[],_,_,_,_,h,_=>by simp at h
 |.inl _::as,i,0,_,_,h,_=>by simp at h
 |.inl _::as,i,_,0,_,_,h=>by simp at h
 |.inl _::as,i,k+1,l+1,nd,h1,h2=>by rw[wE (as:=as) (i:=i) (k:=k) (l:=l) nd (by simpa using h1) (by simpa using h2)]
 |.inr j::as,i,0,0,_,_,_=>rfl
 |.inr j::as,i,0,l+1,nd,h1,h2=>by simp at h1;subst h1;exact absurd (CV.mpr ⟨l,by simpa using h2⟩) (lj.mp nd).1
 |.inr j::as,i,k+1,0,nd,h1,h2=>by simp at h2;subst h2;exact absurd (CV.mpr ⟨k,by simpa using h1⟩) (lj.mp nd).1
 |.inr j::as,i,k+1,l+1,nd,h1,h2=>by rw[wE (as:=as) (i:=i) (k:=k) (l:=l) (lj.mp nd).2 (by simpa using h1) (by simpa using h2)]
theorem aQ.cal(r:aQ K F S c u H)(C:iA K u F H as d)(L:gu c as=aa s)(J:(c9 as).Nodup):aQ K F (lS as S) s (d.map aa) H:=by
 obtain⟨G,B⟩:=wc L;have D:∀{k:Nat}{v:V},d[k]?=aa v->(d.map aa)[k]?=aa (aa v):=λ{k v} e=>by rw[gx,e];rfl
 refine⟨by rw[G,dD,C.len],r.ex,λk pv e=>?_,λk E e=>?_,λk b h=>?_,λk l b g o=>?_⟩
 .rcases B k _ e with⟨p,q1,n⟩|⟨_,_,_,_,z⟩
  .cases n;obtain⟨v,x,w⟩:=C.val q1;exact⟨v,D x,w⟩
  .cases z
 .rcases B k _ e with⟨_,_,z⟩|⟨i,p,q1,n,q3⟩
  .cases z
  .cases q3;obtain⟨v,x,w⟩:=C.own q1;obtain⟨a,b1,b2⟩:=r.own i E n;rw[w]at b1;cases b1;have M:lS as S k=S i:=by
    funext b;exact propext ⟨λ⟨j,g,o⟩=>by rw[q1]at g;cases g;exact o,λh=>⟨i,q1,h⟩⟩
   exact⟨a,D x,by rw[M];exact b2⟩
 .obtain⟨i,g,o⟩:=h;obtain⟨⟨E,q⟩,n⟩:=r.foot i b o;have I:k<s.length:=by rw[G];exact(cY.mp g).1
  refine⟨?_,n⟩;rcases B k s[k] (by simp[I])with⟨_,z,_⟩|⟨j,p,z1,z2,z3⟩
  .rw[g]at z;cases z
  .exact⟨p,by rw[eh I,z3]⟩
 .obtain⟨i,x,w⟩:=g;obtain⟨j,b1,b2⟩:=o;have:=r.dist i j b w b2;subst this;exact wE J x b1
theorem aQ.called{O':af->Prop}(r:aQ K F S c u H)(ha:iA K u F H as d)(hs:gu c as=aa s)(P:(c9 as).Nodup)(N:aQ K A m f (d.map aa) y)(g:bv (U (lS as S)) O' F A H y)(hO:∀b,U m b->O' b)(kw:∀(k:Nat) i,as[k]?=aa (.inr i)->∃D,f[k]?=aa (.own D)):∃Y,aQ K A Y (g7 c as f) u y/\bv (U S) (U Y) F A H y/\∀b,U Y b->U m b\/U S b:=by
 have up:∀{k:Nat}{v:V},(d.map aa)[k]?=aa (aa v)->d[k]?=aa v:=λ{k v} e=>by
  rw[gx]at e;cases q:d[k]? with
  |none=>rw[q]at e;cases e
  |some x=>rw[q]at e;cases e;rfl
 have fit:Fit (U (lS as S)) F H:=λb h=>r.fit b (vU b h);have L:∀i D,c[i]?=aa (.own D)->i<c.length:=λi D e=>(cY.mp e).1;have lt:∀(k:Nat) i,as[k]?=aa (.inr i)->i<c.length:=λk i e=>by
  obtain⟨hl,hg⟩:=wc hs;have E:k<s.length:=by rw[hl];exact(cY.mp e).1
  rcases hg k s[k] (by simp[E])with⟨_,z,_⟩|⟨j,p,z1,z2,z3⟩
  .rw[e]at z;cases z
  .rw[e]at z1;cases z1;exact L _ _ z2
 refine⟨λj b=>(∃k:Nat,as[k]?=aa (.inr j)/\m k b)\/(j∉c9 as/\S j b),⟨by rw[vh];exact r.len,N.ex,λj pv e=>?_,λj D e=>?_,λj b h=>?_,λi j b B C=>?_⟩,⟨g.fro,λb o e n=>g.keep b o e λz=>n (vU b z),g.there,λa z=>(g.fnew a z).imp id λw=>w.imp id (vU a),λb ⟨j,z⟩=>?_⟩,λb ⟨j,z⟩=>?_⟩
 .by_cases I:j∈c9 as
  .obtain⟨k,E⟩:=CV.mp I;obtain⟨D,q⟩:=kw k j E;rw[rh as c f j k _ P (lt k j E) E q]at e;cases e
  .rw[qo as c f j I]at e;obtain⟨v,B,C⟩:=r.val j pv e;exact⟨v,B,C.grow g fit⟩
 .by_cases I:j∈c9 as
  .obtain⟨k,E⟩:=CV.mp I;obtain⟨po',q⟩:=kw k j E;rw[rh as c f j k _ P (lt k j E) E q]at e;cases e;obtain⟨a,B,C⟩:=N.own k D q;obtain⟨v,Q,X⟩:=ha.own E;rw[up B]at Q;cases Q;have W:(λb=>(∃k:Nat,as[k]?=aa (.inr j)/\m k b)\/(j∉c9 as/\S j b))=m k:=by
    funext b;refine propext ⟨λz=>?_,λz=>.inl ⟨k,E,z⟩⟩;rcases z with⟨l,z1,z2⟩|⟨z,_⟩
    .rw[wE P E z1];exact z2
    .exact absurd I z
   exact⟨a,X,by rw[W];exact C⟩
  .rw[qo as c f j I]at e;obtain⟨a,B,C⟩:=r.own j D e;have W:(λb=>(∃k:Nat,as[k]?=aa (.inr j)/\m k b)\/(j∉c9 as/\S j b))=S j:=by
    funext b;refine propext ⟨λz=>?_,λz=>.inr ⟨I,z⟩⟩;rcases z with⟨l,z1,z2⟩|⟨_,z⟩
    .exact absurd (CV.mpr ⟨l,z1⟩) I
    .exact z
   have h3:eJ K y A D a (S j):=by refine C.mono (λ_ _ q=>q.grow g fit) (λ_ _ q=>q.grow g fit) λb o z q=>g.keep b o q λ⟨l,i,M,J⟩=>?_;have:=r.dist i j b J z;subst this;exact I (CV.mpr ⟨l,M⟩)
   exact⟨a,B,by rw[W];exact h3⟩
 .rcases h with⟨k,B,C⟩|⟨B,C⟩
  .obtain⟨⟨D,q⟩,T⟩:=N.foot k b C;exact⟨⟨D,rh as c f j k _ P (lt k j B) B q⟩,T⟩
  .obtain⟨⟨D,q⟩,T,o,O,q4⟩:=r.foot j b C;have no:¬U (lS as S) b:=λ⟨l,i,M,J⟩=>by have:=r.dist i j b J C;subst this;exact B (CV.mpr ⟨l,M⟩)
   refine⟨⟨D,by rw[qo as c f j B];exact q⟩,λz=>?_,o,g.keep b o O no,q4⟩;rcases g.fnew b z with w|w|w
   .exact T w
   .rw[O]at w;cases w
   .exact no w
 .have G:∀{i j:Nat}{b:af},(∃k:Nat,as[k]?=aa (.inr i)/\m k b)->(j∉c9 as/\S j b)->False:=λ{i j b} ⟨k,M,J⟩ ⟨w3,Z⟩=>by
   obtain⟨_,_,o,O,_⟩:=r.foot j b Z;rcases g.onew b (hO b ⟨k,J⟩)with⟨l,i',z1,z2⟩|z
   .have:=r.dist i' j b z2 Z;subst this;exact w3 (CV.mpr ⟨l,z1⟩)
   .rw[O]at z;cases z
  rcases B with B|B <;> rcases C with C|C
  .obtain⟨k,Q,X⟩:=B;obtain⟨l,b1,b2⟩:=C;have:=N.dist k l b X b2;subst this;rw[Q]at b1;cases b1;rfl
  .exact(G B C).elim
  .exact(G C B).elim
  .exact r.dist i j b B.2 C.2
 .rcases z with⟨k,_,z⟩|⟨_,z⟩
  .rcases g.onew b (hO b ⟨k,z⟩)with w|w
   .exact .inl (vU b w)
   .exact .inr w
  .exact .inl ⟨j,z⟩
 .rcases z with⟨k,_,z⟩|⟨_,z⟩
  .exact .inl ⟨k,z⟩
  .exact .inr ⟨j,z⟩
end
def DR(X:Cx)(E:XK)(e:az)(d:ak->R Slot):Prop :=
 ∀F S f a H Q,aQ X.K F S f a H->Ok X.K E a F S H (d f) (λs _ h i c=>∀v g,sE X.K c h s v g->(∀b,g b->H b=ae/\¬h b/\¬U i b/\∃o,c b=aa o/\d8 o)->Q v c)->ja X e a H Q
def iH:List bZ->ak->Bool
 |[],_=>ai
 |.inl _::as,_::ss=>iH as ss
 |.inr _::as,.own _::ss=>iH as ss
 |_,_=>aj
theorem ox:∀{as:List bZ}{ss:ak},iH as ss=ai->∀(k:Nat) i,as[k]?=aa (.inr i)->∃a,ss[k]?=aa (.own a)
 |[],_,_,k,i,h=>by simp at h
 |.inl _::as,s::ss,q,0,i,h=>by simp at h
 |.inl _::as,s::ss,q,k+1,i,h=>by simpa using ox (as:=as) (ss:=ss) (by unfold iH at q;exact q) k i (by simpa using h)
 |.inr _::as,.own a::ss,q,0,i,h=>⟨a,rfl⟩
 |.inr _::as,.own a::ss,q,k+1,i,h=>by simpa using ox (as:=as) (ss:=ss) (by unfold iH at q;exact q) k i (by simpa using h)
 |.inr _::as,.val _::ss,q,k,i,h=>by cases q
 |.inr _::as,.none::ss,q,k,i,h=>by cases q
 |.inl _::as,[],q,k,i,h=>by cases q
 |.inr _::as,[],q,k,i,h=>by cases q
def jR{f:Type}(d:ak)(b:List bZ)(r:R f):R f:=match r with
 |.ok s a=>if iH b a then .ok s (g7 d b a)else .no
 |.er c a=>if iH b a then .er c (g7 d b a)else .no
 |.no=>.no
def bn(g:ak->R Slot)(c:ak->R (List bZ)):ak->R Slot:=λε=>(c ε).bind λa ε1=>(a6 (if(c9 a).Nodup then gu ε1 a else ae) ε1).bind λb ε1=>jR ε1 a (g b)
section
variable{l:fK}{X:Cx}{E:XK}{pin:List Nat}{e:az}{es:List az}{j:ak->R (List bZ)}{pos:Pos}{x:Str}{k:Nat}{m:List Str}{g:ak->R Slot}{p:Pos}{d:ak->R Slot}
theorem M3{K:ax}{F0 r:af->Prop}{S0 C:Nat->af->Prop}{a:ak}{G:St}{H n:Hp}{c:List bZ}{Z:List V}{Q:VK}(A:aQ K r C a G n)(g1:bv (U S0) (U C) F0 r H n)(P:iA K G r n c Z)(q:Ok K E G r C n ((a6 (if(c9 c).Nodup then gu a c else ae) a).bind λD a=>jR a c (g D)) λs _ u W h=>∀v F,sE K h u s v F->(∀b,F b->H b=ae/\¬u b/\¬U W b/\∃o,h b=aa o/\d8 o)->Q v h):ce K g Z n Q E:=by
 have q:=Ok.bind q;by_cases B:(c9 c).Nodup
 .rw[if_pos B]at q;cases es:gu a c with
  |none=>rw[es]at q;exact q.elim
  |some D=>
   rw[es]at q;have q:=q r C n A (bv.refl ..);dsimp only at q;refine⟨r,lS c C,D,A.cal P es B,?_⟩;cases O:g D with
   |no=>rw[O]at q;exact q.elim
   |er cv S=>
    rw[O]at q;intro y u W h J N;unfold jR at q;dsimp only at q;by_cases f:iH c S=ai
    .rw[if_pos f]at q;obtain⟨T,I,M,_⟩:=A.called P es B J N (λ_ z=>z) (ox f);exact q y u T h I M
    .rw[if_neg f]at q;exact q.elim
   |ok s S=>
    rw[O]at q;intro v u W h F J N rv L fr;unfold jR at q;dsimp only at q;by_cases f:iH c S=ai
    .rw[if_pos f]at q;obtain⟨T,I,M,u2⟩:=A.called P es B J N (λ_ z=>.inl z) (ox f);refine q u T h I M v F rv λb z=>⟨nV g1 (fr b z),(L b z).1,λw=>?_,(L b z).2.2⟩
     rcases u2 b w with w|⟨i,w⟩
     .exact(L b z).2.1 w
     .obtain⟨_,_,o,Y,_⟩:=A.foot i b w;rw[fr b z]at Y;cases Y
    .rw[if_neg f]at q;exact q.elim
 .rw[if_neg B]at q;exact q.elim
theorem cB(c:c8 l X.prog X.w X.K X.mg X.base x k m (ce X.K g))(s:Room k X.A)(r:qf l X E)(A:DG X E (e::es) j)(w:Gl X x:=by rfl)(y:(x==("__debug__":Str))=aj:=by decide) (C:aP (e::es) X.env=(aj,aM e X.env)::aP es X.env:=by rfl) (B:(dA pos (aP es X.env)).any (·.1)=aj:=by rfl):DR X E (.Call (.Name x p) (e::es) [] pos) (bn g j):=λF S i a H Q n h=>by obtain⟨f,K,u,I,z,v⟩:=c.ex;refine bY (Cf I s w u v z .nil r ge y C B) (A F S i a H _ n ((Ok.bind h).imp λL b O M N o D q J G=>?_));rw[iP];exact M3 o D G q
def Ew:Slot->Option PV
 |.val pv=>aa pv
 |.own (.lst a)=>aa (.lst a)
 |_=>ae
def bB(d:ak->R Slot):ak->R PV:=λε=>(d ε).bind λs ε1=>a6 (Ew s) ε1
def DK:Slot->Option PO
 |.own a=>aa a
 |_=>ae
def vL(d:ak->R Slot):ak->R PO:=λb=>(d b).bind λs a=>a6 (DK s) a
theorem DR.dn(h:DR X E e d):DN X E e (vL d):=λF S f i H Q u q=>by
 unfold vL at q;refine h F S f i H Q u ?_;cases b:d f with
 |no=>rw[b]at q;exact q.elim
 |er c o=>rw[b]at q;exact q
 |ok s n=>
  rw[b]at q;cases s with
  |none=>exact q.elim
  |val pv=>exact q.elim
  |own I=>intro G C D w z v B r A;obtain⟨a,rfl,y⟩:=r;exact q G C D w z a B y A
theorem DR.de(h:DR X E e d):DE X E e (bB d):=λF S ε f H Q i q=>by
 unfold bB at q;cases b:d ε with
 |no=>rw[b]at q;exact q.elim
 |er c n=>refine h F S ε f H Q i ?_;rw[b]at q ⊢;exact q
 |ok s ε1=>
  cases s with
  |none=>rw[b]at q;exact q.elim
  |val pv=>refine h F S ε f H Q i ?_;rw[b]at q ⊢;exact λD A B u z v J r I=>q D A B u z v r.1
  |own w=>
   refine h.dn.de F S ε f H Q i ?_;unfold dF vL;rw[b]at q ⊢;cases w with
   |lst o=>exact q
   |dK a=>exact q
   |lls G=>exact q
   |ins C fs=>exact q
   |dT a=>exact q
   |dN a=>exact q
   |inl C fs y o=>exact q
def pP(d:ak->R Slot):ak->R aO:=λb=>(d b).bind λs a=>.ok (.ret s) a
theorem xU(C:DR X E e d):DS X E pin (.Return (aa e) pos) (pP d):=λF S n f H D y h=>by
 refine ie (yr bA) (C F S n f H _ y ?_);unfold pP at h;cases i:d n with
 |no=>rw[i]at h;exact h.elim
 |er c r=>rw[i]at h;exact λx O K M B G=>h x O K f M B G (i9.refl _ _)
 |ok s q=>rw[i]at h;intro N J L A a v I u o;exact h v N J f L I A ⟨a.fro,a.keep,a.there,a.fnew,λb z=>z.elim (a.onew b) λw=>.inr (o b w).1⟩ (i9.refl _ _) u λb z=>(o b z).2
def sZ(d:ak->R Slot):ak->R aO:=λb=>(d b).bind λ_ a=>.ok .next a
theorem Bn(o:DR X E e d)(n:iM e ae pos.line X.env=pure aj:=by rfl):DS X E pin (.Expr e pos) (sZ d):=λF S c a H D f h=>ie (y0 bA n) (o F S c a H _ f (h.bindE.imp λx b u r s i y q v A w z=>q u r a s i (bv.refl ..) (i9.refl _ _)))
end
end Pu
namespace L2
section
variable{X:Cx}{l:List (af×Obj)}{i:St}{H:Hp}{s:ao}{d:cU}{x:Str}{j:List Str}{g:List Nat}
theorem Kx{E m O:az}{y:Str}{py J F:Pos}{G k:Nat}{N:V->Hp->St->Prop}{A:List az}{wi:TI}{ts:TT}{te:TE}(B:iD X d x j g)(hk:k<=g.length)(hc:X.calm=ai)(hi:PI X O m wi)(dj:∀C r w Y P,PG (bN X d j C r w Y P) O λv M H Q=>∃vs,vs.length=k+1/\M.length=j.length/\N v H vs/\Q (vs++M.drop (k+1)) H)(ht:∀C r w Y P,oC (bN X d j C r w Y P) A ts) (he:∀C r w Y P,PE (bN X d j C r w Y P) E te) (hN:X.N.Nodup) (pc:X.N[G]?=aa y) (uq:Loc X.env.scope y) (pe:iM (.ListComp E [⟨O,m,A,0⟩] d J) (aa (.Name y py)) F.line X.env=pure ai) (hf:X.fn y=ai\/X.env.scope.names.lookup y=aa .local) (hs:∀x,mX m X.env x=pure x):PS X (.Assign [.Name y py] (.ListComp E [⟨O,m,A,0⟩] d J) F) (λD i H=>z6 wi N k ts te g i H λv H'=>D.nx (i.set G (aa v)) H'):=by
 intro l s i H D I h;rw[exec_Assign_Name_used _ _ _ _ pe];refine ap (wpAny_standAt (ap ?_));show aq _ X.A (do let _ <-comprehension (.ListComp E [⟨O,m,A,0⟩] d J) d X.env _ (newList []) aj (aM m X.env) (aa (mW (.Name y py) X.env))) _ _ s;refine ap (eP (?_:aq _ X.A _ (λ_ s'=>SP X l D .next s') X.xe s) (λ_ s' hq=>aC (aC hq)) λ_ _ e=>e);refine Ee (use:=aa (mW (.Name y py) X.env)) B hk hc hi dj ht he hs I h λ{K s6 H3 H5 fp σ5 a f} Z f3 I6 q=>?_;obtain⟨mm,hn6,_⟩:=I6.loc;have J6:Inv X l i _ _:=Z.unblock f3 I6 (Heap.SameBut.refl _ _);have S:K.heap.objs.size≠X.env.locals:=λe=>absurd Z.lt (by rw[<-e];exact eO _);have T:∀z c,X.env.cells.lookup z=aa c->c≠K.heap.objs.size:=λz c e e2=>by obtain⟨vv,oo,ho,_⟩:=Z.cell z c e;exact absurd (bo ho) (by rw[e2];exact eO _)
 refine wpAny_assign_Name (D9 (v:=.ref a) J6 hN pc uq rfl (λs7 I7 ⟨a7,sb7,ha7⟩=>?_) hf);have na7:K.heap.objs.size≠a7:=by
  rcases ha7 with z|z
  .rw[z];exact S
  .exact(T _ _ z).symm
 refine⟨mm,hn6.sameBut sb7 na7,λlC sb=>⟨_,_,?_,q⟩⟩;have W:H5 K.heap.objs.size=ae:=I6.free;refine I7.call' (s':={s7 with heap:=lC}) (ch:=[K.heap.objs.size]) rfl ⟨λb o e n hb L=>?_,λb o e n hb L=>?_,λb o e n L=>n,λb o e L=>?_,λb xs e=>e,λb o u e=>e,λb ps e=>e⟩ ?_ I7.bare λb hb=>?_
 .exact(sb.2 b (by simpa using L)).trans e
 .exact⟨o.slots,(sb.2 b (by simpa using L)).trans (by simpa using e)⟩
 .exact⟨o,(sb.2 b (by simpa using L)).trans e⟩
 .intro b u e;refine(I7.hok b u e).stay (λc v hc q=>(sb.2 c ?_).trans q) (λ_ q=>q) λ_ _ q=>q;rintro rfl;rcases hc with z|z
  .rw[<-z,W]at e;cases e
  .rw[W]at z;cases z
 .have e:b=K.heap.objs.size:=by simpa using hb
  subst e;refine⟨.inr Z.sz,S,T,λp hp e2=>?_⟩;obtain⟨e3,_⟩:=Z.pin p hp;exact absurd (bo e3) (by rw[e2];exact eO _)
theorem Os{n a:az}{y:Str}{p A o f:Pos}{h:Nat}{m:List az}{u:TI}{w:TT}{z:TE}(B:iD X d x j g)(N:X.calm=ai)(K:PI X (.Name x p) a u)(I:∀C b c r q,oC (bN X d j C b c r q) m w) (M:∀C b c r q,PE (bN X d j C b c r q) n z) (O:X.N.Nodup) (G:X.N[h]?=aa y) (E:Loc X.env.scope y) (F:iM (.ListComp n [⟨.Name x p,a,m,0⟩] d o) (aa (.Name y A)) f.line X.env=pure ai) (L:X.fn y=ai\/X.env.scope.names.lookup y=aa .local) (J:∀x,mX a X.env x=pure x):PS X (.Assign [.Name y A] (.ListComp n [⟨.Name x p,a,m,0⟩] d o) f) (λD i H=>zZ u w z g i H λv P=>D.nx (i.set h (aa v)) P):=Kx B (j9 _) N K (BE B) I M O G E F L J
end
end L2
namespace Pu
open L2
def eD(ε:ak):List Nat->Option (List bZ)
 |[]=>aa []
 |j::cap=>match ε[j]? with
  |some (.val pv)=>(eD ε cap).map (.inl pv::·)
  |some (.own _)=>(eD ε cap).map (.inr j::·)
  |_=>ae
def eN{b:Type}(cap:List Nat)(d:ak->R b)(x:PV):ak->R b:=λε=>(a6 (eD ε cap) ε).bind λa _=>(a6 (if(c9 a).Nodup then gu ε (.inl x::a)else ae) ε).bind λc _=>jR ε (.inl x::a) (d c)
def dQ{a:Type}(r:R a):R a:=match r with
 |.er _ _=>.no
 |r=>r
def jf(cap:List Nat)(dt:ak->R Bool)(de:ak->R PV):List PV->List PV->ak->R (List PV)
 |[],b,ε=>.ok b ε
 |x::d,b,ε=>(dQ (eN cap dt x ε)).bind λk a=>match k with
  |true=>(dQ (eN cap de x a)).bind λy c=>jf cap dt de d (b++[y]) c
  |false=>jf cap dt de d b a
def cS(cap:List Nat)(d:ak->R (List PV))(dt:ak->R Bool)(de:ak->R PV):ak->R PO:=λε=>(d ε).bind λc ε1=>(jf cap dt de c [] ε1).bind λb a=>.ok (.lst b) a
theorem xT{K:ax}{F:af->Prop}{S:Nat->af->Prop}{f:ak}{d:St}{H:Hp}(r:aQ K F S f d H):∀{b:List Nat}{i:List bZ},eD f b=aa i->∃c,iA K d F H i c/\eK d b=c.map aa
 |[],i,h=>by cases h;exact⟨[],rfl,rfl⟩
 |j::b,i,h=>by
  unfold eD at h;split at h
  .rename_i pv e;cases q:eD f b with
   |none=>rw[q]at h;cases h
   |some bs=>
    rw[q]at h;cases h;obtain⟨c,m,l⟩:=xT r q;obtain⟨v,g,n⟩:=r.val j pv e;refine⟨v::c,⟨v,c,rfl,n,m⟩,?_⟩;show(d[j]?).join::eK d b=_;rw[g,l];rfl
  .rename_i o e;cases q:eD f b with
   |none=>rw[q]at h;cases h
   |some bs=>
    rw[q]at h;cases h;obtain⟨c,m,l⟩:=xT r q;obtain⟨a,g,n⟩:=r.own j o e;refine⟨.ref a::c,⟨_,c,rfl,g,m⟩,?_⟩;show(d[j]?).join::eK d b=_;rw[g,l];rfl
  .cases h
theorem BK{K:ax}{E:XK}{F:af->Prop}{S:Nat->af->Prop}{s:ak}{f:St}{H:Hp}{I:Type}{b:List Nat}{d:ak->R I}{x:PV}{v:V}{C:I->ak->(af->Prop)->(Nat->af->Prop)->Hp->Prop}(r:aQ K F S s f H) (O:aN K H F x v) (h:Ok K E f F S H (dQ (eN b d x s)) C):∃M l,aQ K F M l (aa v::eK f b) H/\Ok K E0 (aa v::eK f b) F M H (d l) (λa _ q _ p=>∃j w,aQ K q w j f p/\bv (U S) (U w) F q H p/\C a j q w p):=by
 unfold eN at h;cases D:eD s b with
 |none=>rw[D]at h;exact h.elim
 |some g=>
  rw[D]at h;simp only[dU,R.bind_ok]at h;by_cases A:(c9 g).Nodup
  .rw[if_pos A]at h;cases u:gu s (.inl x::g)with
   |none=>rw[u]at h;exact h.elim
   |some l=>
    rw[u]at h;simp only[dU,R.bind_ok]at h;obtain⟨y,W,T⟩:=xT r D;have o:iA K f F H (.inl x::g) (v::y):=⟨v,y,rfl,O,W⟩
    have n:aa v::eK f b=(v::y).map aa:=by rw[T];rfl
    have m:(c9 (.inl x::g)).Nodup:=A;refine⟨lS (.inl x::g) S,l,by rw[n];exact r.cal o u m,?_⟩;rw[n];cases B:d l with
    |no=>rw[B]at h;exact h.elim
    |er c G=>
     rw[B]at h;unfold jR at h;dsimp only at h;by_cases i:iH (.inl x::g) G=ai
     .rw[if_pos i]at h;exact h.elim
     .rw[if_neg i]at h;exact h.elim
    |ok a G=>
     rw[B]at h;intro q w p P Q;unfold jR at h;dsimp only at h;by_cases i:iH (.inl x::g) G=ai
     .rw[if_pos i]at h;obtain⟨N,J,L,_⟩:=r.called o u m P Q (λ_ z=>z) (ox i);exact⟨_,N,J,L,h q N p J L⟩
     .rw[if_neg i]at h;exact h.elim
  .rw[if_neg A]at h;exact h.elim
def yY(X:Cx)(a:List az):TT:=λb H Q=>Bx (∀d s,Inv X d b H s->aq (aw X.prog X.w) X.A (forIn a ai λc r=>if r=ai then do let ok <-l9 c X.env (aM c X.env);pure (ForInStep.yield ok)else pure (ForInStep.yield r)) (TP X d b Q) X.xe s)
def DF(X:Cx)(E:XK)(c:List az)(d:ak->R Bool):Prop:=∀F S f a H Q,aQ X.K F S f a H->Ok X.K E a F S H (d f) (λb _ _ _ g=>Q b g)->yY X c a H Q
def dYes:ak->R Bool:=λε=>.ok ai ε
theorem rN{X:Cx}{E:XK}:DF X E [] dYes:=λF S d a H Q b h=>⟨λc s I=>JH c s a H Q I (h F S H b (bv.refl ..))⟩
theorem sx{X:Cx}{E:XK}{c:az}{d:ak->R Bool}(h:DT X E c d):DF X E [c] d:=λF S b a H Q f q=>⟨λg s I=>E9 qa g s a H Q I (h F S b a H Q f q)⟩
theorem Ok.bindB{K:ax}{E:XK}{b:St}{F s:af->Prop}{S n:Nat->af->Prop}{H p:Hp}{j i:Type}{D:i->ak->(af->Prop)->(Nat->af->Prop)->Hp->Prop}{r:R j}{k:j->ak->R i}(h:Ok K E b F S H (r.bind k) D)(g:bv (U S) (U n) F s H p):Ok K E b s n p r (λa d _ _ _=>Ok K E b F S H (k a d) D):=by
 cases r with
 |no=>exact h
 |er c f=>exact λx u o q l m=>h x u o q l (g.trans m)
 |ok a f=>exact λu o q l m=>h
section
variable{X:Cx}{E:XK}{c:cU}{x:Str}{N':List Str}{cap:List Nat}
theorem bv.stay{O a F d:af->Prop}{H b:Hp}(g:bv O a F d H b){l:af}{o:HO}(e:H l=aa o)(n:¬O l)(f:¬F l):b l=aa o/\¬d l/\¬a l :=
 ⟨g.keep l o e n,λz=>(g.fnew l z).elim f λw=>w.elim (λq=>by rw[e]at q;cases q) n,λz=>(g.onew l z).elim n λq=>by rw[e]at q;cases q⟩
theorem aQ.lay{K:ax}{F:af->Prop}{S:Nat->af->Prop}{i:ak}{h:St}{H:Hp}{l:af}{o o':HO}(r:aQ K F S i h H)(y:H l=aa o)(no:d8 o)(v:¬F l)(nS:¬U S l):bv (λb=>U S b\/b=l) (U S) F F H (L2.upd H l o')/\Fit (λb=>U S b\/b=l) F H/\aQ K F S i h (L2.upd H l o'):=by
 have f:bv (λb=>U S b\/b=l) (U S) F F H (L2.upd H l o'):=⟨λ_ z=>z,λb o e n=>by rw[bj λz=>n (.inr z)];exact e,λb o e=>by
  by_cases m:b=l
  .subst m;exact⟨_,bW⟩
  .exact⟨o,by rw[bj m];exact e⟩,λ_ z=>.inl z,λ_ z=>.inl (.inl z)⟩
 have g:Fit (λb=>U S b\/b=l) F H:=λb z=>by
  rcases z with z|rfl
  .exact r.fit b z
  .exact⟨v,_,y,no⟩
 refine⟨f,g,r.len,λb z=>let ⟨o,q⟩:=r.ex b z;f.there b o q,λj pv e=>?_,λj u e=>?_,λj b z=>?_,r.dist⟩
 .obtain⟨w,d,a⟩:=r.val j pv e;exact⟨w,d,a.grow f g⟩
 .obtain⟨w,d,a⟩:=r.own j u e;refine⟨w,d,a.mono (λ_ _ q=>q.grow f g) (λ_ _ q=>q.grow f g) λb o z q=>?_⟩;rw[bj (by rintro rfl;exact nS ⟨j,z⟩)];exact q
 .obtain⟨d,a,o,s,p⟩:=r.foot j b z;exact⟨d,a,o,by rw[bj (by rintro rfl;exact nS ⟨j,z⟩)];exact s,p⟩
theorem bv.lay{O d F h:af->Prop}{H f:Hp}{l:af}{o':HO}(g:bv O d F h H f)(a:H l=ae):bv O d F h H (L2.upd f l o'):=by
 refine⟨g.fro,λb o e n=>?_,λb o e=>?_,g.fnew,g.onew⟩
 .rw[bj (by rintro rfl;rw[a]at e;cases e)];exact g.keep b o e n
 .obtain⟨i,q⟩:=g.there b o e;exact⟨i,by rw[bj (by rintro rfl;rw[a]at e;cases e)];exact q⟩
theorem Kz{elt B:az}{px:Pos}{ifs:List az}{di:ak->R (List PV)}{dt:ak->R Bool}{de:ak->R PV}(hi:DI X E (.Name x px) B di)(ht:∀C d f r p,DF (bN X c N' C d f r p) E0 ifs dt) (he:∀C d f r p,DE (bN X c N' C d f r p) E0 elt de){F:af->Prop}{S:Nat->af->Prop}{ε:ak}{j:St}{H:Hp}{Q:VK} (rl:aQ X.K F S ε j H) (h:Ok X.K E j F S H (cS cap di dt de ε) (λpo _ s M g=>∀a Sa,eJ X.K g s po a Sa->(∀b,Sa b->H b=ae/\¬s b/\¬U M b/\∃o,g b=aa o/\d8 o)->Q (.ref a) g)):zZ (sW X (.Name x px) B) (λj H Q=>∀C d f r p,yY (bN X c N' C d f r p) ifs j H Q) (λj H Q=>∀C d f r p,ja (bN X c N' C d f r p) elt j H Q) cap j H Q:=by
 refine hi F S ε j H _ rl ((Ok.bind h).imp λA ε1 O S1 H1 r1 g1 h1 J vs RR rs hz hw keep l hl=>?_);have h1:=h1.bind;have hvl:vs.length=A.length:=rs.len;have a0:Al O O H1 (upd H1 l (.lst [])):=Al.new0 hl;have nF1:¬O l:=λz=>by obtain⟨o,q⟩:=r1.ex l z;rw[hl]at q;cases q
 have nS1:¬U S1 l:=λ⟨i,z⟩=>by obtain⟨_,_,o,q,_⟩:=r1.foot i l z;rw[hl]at q;cases q
 have hH:H l=ae:=nV g1 hl;refine⟨λi m G g=>m=A.length-i/\i<=A.length/\∃s M Z T,aQ X.K s M Z j g/\bv (U S1) (U M) O s H1 g/\g l=aa (.lst G)/\¬s l/\¬U M l/\a_ X.K g s T G/\G.length<=i /\ Ok X.K E j O S1 H1 (jf cap dt de (A.drop i) T Z) (λys' w W S2 N=>Ok X.K E j W S2 N (R.ok (PO.lst ys') w) (λpo _ s M g=>∀a Sa,eJ X.K g s po a Sa->(∀b,Sa b->H b=ae/\¬s b/\¬U M b/\∃o,g b=aa o/\d8 o)->Q (.ref a) g)),⟨_,rfl,j9 _,O,S1,ε1,[],r1.al a0,a0.grow,bW,nF1,nS1,rfl,aZ _,h1⟩,?_⟩;rintro i m G N ⟨rfl,hi,W,S2,w,T,P,L,el,nF2,nS2,n,hyl,q2⟩;have RH:=keep S2 W N L;by_cases aW:i<A.length
 .obtain⟨v,hv⟩:∃v,vs[i]?=aa v:=⟨_,eh ∅⟩
  obtain⟨go,yl⟩:=(hw N RH i).1 v hv;refine .inr ⟨go,λv' g y=>⟨[aa v'],rfl,rfl,?_⟩⟩;obtain⟨e1,e2⟩:=yl v' g y;subst e1 e2;obtain⟨px',hx,rx⟩:=rs.back hv;have ed:A.drop i=px'::A.drop (i+1):=by rw[xx aW];congr 1;exact(cY.mp hx).2
  rw[ed]at q2;have rx2:=rx.grow L r1.fit;have q3:=Ok.bindB q2 L;obtain⟨Sb,ss,rb,okb⟩:=BK P rx2 q3;intro C d f r p;refine ht C d f r p W Sb ss _ g _ rb (okb.imp λb _ F3 _ H3 _ _ ⟨Y,S3,r3,K,q4⟩=>?_);obtain⟨el3,nF3,nS3⟩:=K.stay el nS2 nF2;cases b with
  |false=>exact nY ⟨_,∅,rfl,aW,F3,S3,Y,T,r3,L.trans K,el3,nF3,nS3,n.grow K P.fit,∅,q4⟩
  |true=>refine oB ?_;have q5:Ok X.K E j O S1 H1 ((dQ (eN cap de px' Y)).bind λy w=>jf cap dt de (A.drop (i+1)) (T++[y]) w) _:=q4;obtain⟨Sc,sc,rc,okc⟩:=BK r3 (rx2.grow K P.fit) (Ok.bindB q5 (L.trans K));intro C d f r p;refine he C d f r p F3 Sc sc _ H3 _ rc (okc.imp λy _ F4 _ H4 _ _ ⟨ε4,S4,r4,g4,q6⟩ u ru=>?_);obtain⟨el4,nF4,nS4⟩:=g4.stay el3 nS3 nF3;have I:=(n.grow K P.fit).grow g4 r3.fit;obtain⟨gl,D,r5⟩:=r4.lay (o':=.lst (G++[u])) el4 trivial nF4 nS4;have g5:=((L.trans K).trans g4).lay (o':=.lst (G++[u])) hl;refine⟨el4,?_,_,∅,rfl,aW,F4,S4,ε4,T++[y],r5,g5,bW,nF4,nS4,(I.grow gl D).app (.one (ru.grow gl D)),by simp;lia,q6⟩;lia
 .have e:i=A.length:=∅
  subst e;refine .inl ⟨(hw N RH _).2 hvl.symm,?_⟩;rw[List.drop_length]at q2;exact q2 W S2 N P L W S2 N P (bv.refl ..) l (λb=>b=l) ⟨⟨G,el,n⟩,λb=>Iff.rfl⟩ λb z=>by subst z;exact⟨hH,nF2,nS2,_,el,trivial⟩
theorem kD{j d:az}{m pos:Pos}{i:List az}{o:ak->R (List PV)}{dt:ak->R Bool}{de:ak->R PV}(B:iD X c x N' cap)(w:X.calm=ai)(u:DI X E (.Name x m) d o)(q:∀C a b g f,DF (bN X c N' C a b g f) E0 i dt) (v:∀C a b g f,DE (bN X c N' C a b g f) E0 j de) (r:∀x,mX d X.env x=pure x:=by intro _;rfl):DN X E (.ListComp j [⟨.Name x m,d,i,0⟩] c pos) (cS cap o dt de):=λF S y l H Q p h=>bY (Ku (wi:=sW X (.Name x m) d) (ts:=λl H Q=>∀C a b g f,yY (bN X c N' C a b g f) i l H Q) (te:=λl H Q=>∀C a b g f,ja (bN X c N' C a b g f) j l H Q) (pos:=pos) B w E_ (λC a b g f n s l H Q I h=>(h C a b g f).run n s I) (λC a b g f n s l H Q I h=>(h C a b g f).run n s I) r) (Kz u q v p h)
end
theorem Iq(x y:Tx):tS x++tS y=tS (x++y):=by
 show(⟨x.toArray++y.toArray⟩:Str)=⟨(x++y).toArray⟩
 simp
def bp:PV->PV->Option PV
 |.int i,.int j=>aa (.int (i+j))
 |.str x,.str y=>if(x++y).length<=cx then aa (.str (x++y))else ae
 |.tup b,.tup a=>if b≠[]/\a≠[]/\b.length+a.length<=1000 then aa (.tup (b++a))else ae
 |.lst b,.lst a=>if b.length+a.length<=cx then aa (.lst (b++a))else ae
 |_,_=>ae
def eW:PV->PV->Option PV
 |.int i,.int j=>aa (.int (i-j))
 |_,_=>ae
def sR(i:Int):Bool:=decide (-(2^64)<i/\i<2^64)
def j0:PV->PV->Option PV
 |.int i,.int j=>if sR i||sR j then aa (.int (i*j))else ae
 |.str x,.int j=>if 0<=j/\j<=100/\x.length<=100 then aa (.str (df j.toNat x).flatten)else ae
 |_,_=>ae
def fL:PV->PV->Option PV
 |.int i,.int j=>if 0<j then aa (.int (i % j))else ae
 |_,_=>ae
def se:PV->PV->Option PV
 |.int i,.int j=>if 0<=j/\j<=1000000/\i.natAbs<2^64 then aa (.int (i^j.toNat))else ae
 |_,_=>ae
def sh:PV->Option PV
 |.int i=>aa (.int (-i))
 |_=>ae
def Dp:R2:=λx y H Q=>∃l b c a,x=.ref l/\y=.ref b/\Rd H l (.lst c)/\Rd H b (.lst a)/\c.length+a.length<=aX/\∀p,H p=ae->Q (.ref p) (upd H p (.lst (c++a)))
def vC(K:ax):R2:=λx y H Q=>((i8 λi j=>V.int (i+j)) x y H Q\/∃i j,x=.str i/\y=.str j/\i.length+j.length<=aX/\Q (.str (i++j)) H)\/(Ci K x y H Q\/Dp x y H Q)
def Dy:R2:=λx y H Q=>rI zd (λi j=>.int (i*j)) x y H Q\/∃(z:Tx) (n:Nat),x=tV z/\y=.int n/\n<=100/\z.length<=100/\Q (tV (df n z).flatten) H
section
variable{X:Cx}{K:ax}
theorem pN:P2 K (i8 λi j=>.int (i-j)) eW:=λF H x y v u Q pv b a e q=>by
 unfold eW at e;split at e
 .cases e;exact⟨_,_,b,a,q _ F H (Al.refl ..) rfl⟩
 .cases e
theorem qv:P2 K (rI (λ_ j=>0<j) λi j=>.int (i % j)) fL:=λF H x y v u Q pv b a e q=>by
 unfold fL at e;split at e
 .split at e
  .cases e;exact⟨_,_,b,a,by assumption,q _ F H (Al.refl ..) rfl⟩
  .cases e
 .cases e
theorem O_:P2 K (rI rY λi j=>.int (i^j.toNat)) se:=λF H x y v u Q pv b a e q=>by
 unfold se at e;split at e
 .split at e
  .cases e;exact⟨_,_,b,a,by assumption,q _ F H (Al.refl ..) rfl⟩
  .cases e
 .cases e
theorem Oh:P1 K (rU λi=>.int (-i)) sh:=λF H x v Q pv a e q=>by
 unfold sh at e;split at e
 .cases e;exact⟨_,a,q _ F H (Al.refl ..) rfl⟩
 .cases e
theorem zx{d:List (af×Obj)}{c:St}{H:Hp}{s:ao}{l:af}{b:List V}(I:Inv X d c H s)(h:Rd H l (.lst b)):∃(a:List ah) (n:Nat),bq b a/\s.heap.get? l=aa {cls:=.type "list",data:=.seq a.toArray n}/\b.length<=aX:=by obtain⟨z,a,n,r,e⟩:=h.ok I.hok;exact⟨a,n,r,e,z⟩
theorem Ja:bD X (fG .Add) Dp:=by
 intro D s p H x y v u Q I i g h;obtain⟨l,b,z,w,rfl,rfl,f,j,C,q⟩:=h;cases i;cases g;obtain⟨c,n,r,e,_⟩:=zx I f;obtain⟨a,A,d,o,_⟩:=zx I j;have f:=r.length;have B:=d.length;refine PySem.P.add_list e o ?_ (by rw[bJ,bJ];lia);have m:c.toArray++a.toArray=(c++a).toArray:=by simp
 rw[m];exact⟨.ref _,_,I.lnew (t':=s.toks) (r.append d) (by rw[cK];lia),rfl,q _ I.fresh⟩
theorem gb:bD X (fG .Add) (vC X.K):=(P7.or IS).or (PY.or Ja)
theorem f8:P2 K (vC K) bp:=λF H x y v u Q pv l j e q=>by
 unfold bp at e;split at e
 .cases e;exact .inl (.inl ⟨_,_,l,j,q _ F H (Al.refl ..) rfl⟩)
 .rename_i x y;split at e
  .rename_i c;cases e;refine .inl (.inr ⟨_,_,l.1,j.1,?_,?_⟩)
   .rw[kM,kM];rw[cK]at c;exact cA c jV
   .exact q _ F H (Al.refl ..) ⟨by rw[Iq];rfl,c⟩
  .cases e
 .rename_i w s;split at e
  .rename_i c;cases e;obtain⟨a,n,rfl,r,f⟩:=l;obtain⟨b,m,rfl,o,d⟩:=j;have h:=f.len;have g:=d.len;refine .inr (.inl ⟨a,b,n,m,rfl,rfl,bR.of r,bR.of o,λz=>c.1 (by rw[z]at h;exact jK h.symm),by rw[h,g];exact yI c.2.2,λz=>absurd (by rw[z]at g;exact jK g.symm) c.2.1,λ_ p i=>?_⟩);exact q _ F _ (Al.new0 i) ⟨p,_,rfl,bW,(Al.new0 i).reps (f.app d)⟩
  .cases e
 .rename_i w s;split at e
  .rename_i c;cases e;obtain⟨a,n,rfl,r,B,f⟩:=l;obtain⟨b,m,rfl,o,A,d⟩:=j;have h:=f.len;have g:=d.len;refine .inr (.inr ⟨a,b,n,m,rfl,rfl,r,o,by rw[h,g];exact cA c jV,λp i=>?_⟩);exact q _ _ _ (Al.new i) ⟨p,_,rfl,.inl bW,.inr rfl,(Al.new i).reps (f.app d)⟩
  .cases e
 .cases e
theorem yQ:bD X (fG .Mult) Dy:=PP.or L0
theorem yB:P2 K Dy j0:=λF H x y v u Q pv b a e q=>by
 unfold j0 at e;split at e
 .rename_i i j;split at e
  .rename_i h;cases e;refine .inl ⟨_,_,b,a,?_,q _ F H (Al.refl ..) rfl⟩;rw[xn]at h;exact h.imp of_decide_eq_true of_decide_eq_true
  .cases e
 .rename_i x j;split at e
  .rename_i h;cases e;refine .inr ⟨x,j.toNat,b.1,?_,∅,h.2.2,q _ F H (Al.refl ..) ⟨rfl,?_⟩⟩
   .rw[show u=V.int j from a];congr 1;lia
   .rw[KR];have c:j.toNat<=100:=∅
    exact cA (xo c h.2.2) (by decide)
  .cases e
 .cases e
def hG(f:Int->Int->Bool):PV->PV->Option PV
 |.int i,.int j=>aa (.bl (f i j))
 |_,_=>ae
theorem oF{f:Int->Int->Bool}:P2 K (i8 λi j=>.bl (f i j)) (hG f):=λF H x y v u Q pv b a e q=>by
 unfold hG at e;split at e
 .cases e;exact⟨_,_,b,a,q _ F H (Al.refl ..) rfl⟩
 .cases e
def cV:PV->Option V
 |.non=>aa .non
 |.bl b=>aa (.bl b)
 |.int i=>aa (.int i)
 |.str x=>aa (tV x)
 |_=>ae
theorem i7{H:Hp}{F:af->Prop}{x:PV}{v w:V}(r:aN K H F x v)(e:cV x=aa w):v=w:=by
 cases x <;> simp[cV]at e <;> subst e
 .exact r
 .exact r
 .exact r
 .exact r.1
theorem rm{x:PV}{w:V}(e:cV x=aa w):gc w=ai:=by
 cases x <;> simp[cV]at e <;> subst e <;> rfl
mutual
def cN:PV->PV->Option Bool
 |.tup c,y=>match y with
  |.tup a=>fO c a
  |_=>ae
 |.lst c,y=>match y with
  |.lst a=>fO c a
  |_=>ae
 |.non,y=>(cV y).map (cZ .non)
 |.bl b,y=>(cV y).map (cZ (.bl b))
 |.int i,y=>(cV y).map (cZ (.int i))
 |.str x,y=>(cV y).map (cZ (tV x))
 |.raw _,_=>ae
 |.exc _,_=>ae
def fO:List PV->List PV->Option Bool
 |[],c=>aa c.isEmpty
 |x::d,c=>match c with
  |[]=>aa aj
  |y::c=>(cN x y).bind λa=>(fO d c).map λb=>a&&b
end
mutual
def ii:PV->Nat
 |.tup a=>gv a+1
 |.lst a=>gv a+1
 |_=>0
def gv:List PV->Nat
 |[]=>0
 |x::a=>max (ii x) (gv a)
end
theorem E7{H:Hp}{d a:Nat}{x y:V}{k:Bool}(h:gJ K H d x y k)(l:d<=a):gJ K H a x y k:=λX g i b s u v A I f c j=>h X g i b s u v A I f c ∅
theorem vW{H:Hp}{F:af->Prop}{w:V}{y:PV}{u:V}{k:Bool}{d:Nat}(b:gc w=ai)(e:(cV y).map (cZ w)=aa k)(a:aN K H F y u):gJ K H d w u k:=by
 cases q:cV y with
 |none=>rw[q]at e;cases e
 |some z=>
  rw[q]at e;cases e;rw[i7 a q];exact HC b (rm q)
theorem Hd{H:Hp}{a:af}{c b:List V}(h:Rd H a (.lst c))(g:Rd H a (.lst b)):c=b:=by
 rcases h with h|⟨o,h⟩ <;> rcases g with g|⟨d,g⟩ <;> rw[h]at g <;> cases g <;> rfl
theorem OX{a:Bool}{e:Nat->Bool}{n m:Nat}:fA (λj=>if j=0 then a else e (j-1)) (n+1) (m+1)=(a&&fA e n m):=by
 unfold fA;rw[show min (n+1) (m+1)=min n m+1 by lia,xi,qE,xj,if_pos rfl,Bool.and_assoc];congr 1;congr 1
 .simp
mutual
theorem yH{H:Hp}{F:af->Prop}:∀(x y:PV) {v:V}{k:Bool},cN x y=aa k->aN K H F x v->aN K H F y v->k=ai
 |.tup h,y,v,k,e,d,c=>by
  unfold cN at e;split at e
  .obtain⟨a,n,rfl,j,f⟩:=d;obtain⟨b,m,l,g,i⟩:=c;cases l;rw[j]at g;cases g;exact zm h _ e f i
  .cases e
 |.lst h,y,v,k,e,d,c=>by
  unfold cN at e;split at e
  .obtain⟨a,n,rfl,j,_,f⟩:=d;obtain⟨b,m,l,g,_,i⟩:=c;cases l;rw[Hd j g]at f;exact zm h _ e f i
  .cases e
 |.non,y,v,k,e,d,c=>by
  unfold cN at e;cases q:cV y with
  |none=>rw[q]at e;cases e
  |some z=>rw[q]at e;cases e;rw[<-i7 c q,show v=V.non from d];rfl
 |.bl b,y,v,k,e,d,c=>by
  unfold cN at e;cases q:cV y with
  |none=>rw[q]at e;cases e
  |some z=>rw[q]at e;cases e;rw[<-i7 c q,show v=V.bl b from d];exact beq_self_eq_true b
 |.int b,y,v,k,e,d,c=>by
  unfold cN at e;cases q:cV y with
  |none=>rw[q]at e;cases e
  |some z=>rw[q]at e;cases e;rw[<-i7 c q,show v=V.int b from d];exact beq_self_eq_true b
 |.str b,y,v,k,e,d,c=>by
  unfold cN at e;cases q:cV y with
  |none=>rw[q]at e;cases e
  |some z=>rw[q]at e;cases e;rw[<-i7 c q,show v=tV b from d.1];exact beq_self_eq_true (tS b)
 |.raw _,_,_,_,e,_,_=>by unfold cN at e;cases e
 |.exc _,_,_,_,e,_,_=>by unfold cN at e;cases e
theorem zm{H:Hp}{F:af->Prop}:∀(d c:List PV) {f:List V}{k:Bool},fO d c=aa k->a_ K H F d f->a_ K H F c f->k=ai
 |[],c,f,k,e,i,g=>by
  unfold fO at e;rw[show f=[] from i]at g;have:=g.len;cases c with
  |nil=>cases e;rfl
  |cons=>simp at this
 |x::d,c,f,k,e,i,g=>by
  unfold fO at e;obtain⟨v,r,rfl,m,l⟩:=i;cases c with
  |nil=>have:=g.len;simp at this
  |cons y c=>
   obtain⟨q,s,p,o,n⟩:=g;cases p;simp only at e;cases h:cN x y with
   |none=>rw[h]at e;cases e
   |some a=>
    cases j:fO d c with
    |none=>rw[h,j]at e;cases e
    |some b=>
     rw[h,j]at e;cases e;rw[yH x y h m o,zm d c j l n];rfl
end
mutual
theorem Pb{H:Hp}{F:af->Prop}:∀(x y:PV) {v u:V}{k:Bool},cN x y=aa k->aN K H F x v->aN K H F y u->gJ K H (ii x) v u k
 |.tup i,y,v,u,k,e,d,c=>by
  have p:=e;unfold cN at e;split at e
  .rename_i h;obtain⟨a,r,rfl,o,l⟩:=id d;obtain⟨b,q,rfl,n,j⟩:=id c;by_cases g:a=b
   .subst g;rw[yH _ _ p d c];exact BJ
   .obtain⟨f,m,rfl⟩:=sC i h e l j;unfold ii;exact IC (bR.of o) (bR.of n) g m
  .cases e
 |.lst i,y,v,u,k,e,d,c=>by
  have p:=e;unfold cN at e;split at e
  .rename_i h;obtain⟨a,r,rfl,o,_,l⟩:=id d;obtain⟨b,q,rfl,n,_,j⟩:=id c;by_cases g:a=b
   .subst g;rw[yH _ _ p d c];exact BJ
   .obtain⟨f,m,rfl⟩:=sC i h e l j;unfold ii;exact GE (.inl o) (.inl n) g m
  .cases e
 |.non,y,v,u,k,e,d,c=>by unfold cN at e;rw[show v=V.non from d];exact vW rfl e c
 |.bl b,y,v,u,k,e,d,c=>by unfold cN at e;rw[show v=V.bl b from d];exact vW rfl e c
 |.int b,y,v,u,k,e,d,c=>by unfold cN at e;rw[show v=V.int b from d];exact vW rfl e c
 |.str b,y,v,u,k,e,d,c=>by unfold cN at e;rw[show v=tV b from d.1];exact vW rfl e c
 |.raw _,_,_,_,_,e,_,_=>by unfold cN at e;cases e
 |.exc _,_,_,_,_,e,_,_=>by unfold cN at e;cases e
theorem sC{H:Hp}{F:af->Prop}:∀(d c:List PV) {g i:List V}{k:Bool},fO d c=aa k->a_ K H F d g->a_ K H F c i -> ∃f:Nat->Bool,(∀(j:Nat) x y,g[j]?=aa x->i[j]?=aa y->gJ K H (gv d) x y (f j))/\k=fA f g.length i.length
 |[],c,g,i,k,e,n,l=>by
  unfold fO at e;rw[show g=[] from n];refine⟨λ_=>ai,λj x y h=>by simp at h,?_⟩;have:=l.len;cases e;unfold fA;cases c with
  |nil=>simp at this;simp[this]
  |cons=>rw[this];simp
 |x::d,c,g,i,k,e,n,l=>by
  unfold fO at e;obtain⟨v,r,rfl,B,A⟩:=n;cases c with
  |nil=>
   cases e;rw[show i=[] from l];exact⟨λ_=>ai,λj x y _ h=>by simp at h,by simp[fA]⟩
  |cons y c=>
   obtain⟨u,E,rfl,D,C⟩:=l;simp only at e;cases m:cN x y with
   |none=>rw[m]at e;cases e
   |some a=>
    cases o:fO d c with
    |none=>rw[m,o]at e;cases e
    |some b=>
     rw[m,o]at e;cases e;obtain⟨f,z,rfl⟩:=sC d c o A C;refine⟨λj=>if j=0 then a else f (j-1),λj p q w s=>?_,by rw[dE,dE,OX]⟩;cases j with
     |zero=>simp at w s;subst w s;show gJ K H _ _ _ (if(0:Nat)=0 then a else f (0-1));rw[if_pos rfl];exact E7 (Pb x y m B D) (by unfold gv;exact Nat.le_max_left _ _)
     |succ j=>show gJ K H _ _ _ (if j+1=0 then a else f (j+1-1));rw[if_neg ∅];exact E7 (z j p q (by simpa using w) (by simpa using s)) (show gv d<=max (ii x) (gv d)from Nat.le_max_right _ _)
end
def eqT(neg:Bool)(x y:PV):Option PV:=match cV x,cV y with
 |some v,aa u=>if oE v u then aa (.bl (neg^^decide (v=u)))else ae
 |none,ae=>if ii x<=8 then(cN x y).map λk=>.bl (neg^^k)else ae
 |_,_=>ae
def Er(K:ax):R2:=λx y H Q=>Dt x y H Q\/rR K aj x y H Q
def BF(K:ax):R2:=λx y H Q=>CI x y H Q\/rR K ai x y H Q
theorem j3(a:X.A.units+64<cLine):bD X (dr .Eq) (Er X.K):=P0.or (GV a)
theorem yf(a:X.A.units+64<cLine):bD X (dr .NotEq) (BF X.K):=Qe.or (Mv a)
theorem Es{H:Hp}{F:af->Prop}{x y:PV}{v u:V}{k:Bool}{Q:VK}{neg:Bool}(h:cV x=ae)(e:cN x y=aa k)(B:ii x<=8)(A:aN K H F x v)(w:aN K H F y u)(q:Q (.bl (neg^^k)) H):rR K neg v u H Q:=by
 have d:∀{g:Bool},k=g->Q (.bl (if neg=ai then !g else g)) H:=λ{g} z=>by subst z;cases neg <;> simpa using q
 cases x with
 |tup c=>
  unfold cN at e;split at e
  .rename_i i;obtain⟨a,l,rfl,r,n⟩:=A;obtain⟨b,j,rfl,p,m⟩:=w;obtain⟨f,o,s⟩:=sC c i e n m;unfold ii at B;exact⟨a,b,l,j,gv c,f,rfl,rfl,.inr ⟨bR.of r,bR.of p⟩,∅,o,d s⟩
  .cases e
 |lst c=>
  unfold cN at e;split at e
  .rename_i i;obtain⟨a,l,rfl,r,_,n⟩:=A;obtain⟨b,j,rfl,p,_,m⟩:=w;obtain⟨f,o,s⟩:=sC c i e n m;unfold ii at B;exact⟨a,b,l,j,gv c,f,rfl,rfl,.inl ⟨.inl r,.inl p⟩,∅,o,d s⟩
  .cases e
 |raw _=>unfold cN at e;cases e
 |exc _=>unfold cN at e;cases e
 |non=>cases h
 |bl _=>cases h
 |int _=>cases h
 |str _=>cases h
theorem jT:P2 K (Er K) (eqT aj):=λF H x y v u Q pv g f e q=>by
 unfold eqT at e;split at e
 .rename_i a b d h;split at e
  .rename_i i;cases e;rw[i7 g d,i7 f h];refine .inl ⟨i,?_⟩;have:=q (.bl (decide (a=b))) F H (Al.refl ..) (by simp[aN]);exact this
  .cases e
 .rename_i d h;split at e
  .rename_i j;cases c:cN x y with
   |none=>rw[c]at e;cases e
   |some k=>
    rw[c]at e;cases e;exact .inr (Es (neg:=aj) d c j g f (q _ F H (Al.refl ..) rfl))
  .cases e
 .cases e
theorem zb:P2 K (BF K) (eqT ai):=λF H x y v u Q pv g f e q=>by
 unfold eqT at e;split at e
 .rename_i a b d h;split at e
  .rename_i i;cases e;rw[i7 g d,i7 f h];refine .inl ⟨i,?_⟩;have:=q (.bl (!decide (a=b))) F H (Al.refl ..) (by simp[aN]);exact this
  .cases e
 .rename_i d h;split at e
  .rename_i j;cases c:cN x y with
   |none=>rw[c]at e;cases e
   |some k=>
    rw[c]at e;cases e;exact .inr (Es (neg:=ai) d c j g f (q _ F H (Al.refl ..) rfl))
  .cases e
 .cases e
end
end Pu
namespace Pu
open L2
section
variable{X:Cx}{K:ax}
def uU(i j:Tx):Bool:=!(Fg (tS j) (tS i) 0 (tS j).length 1).isEmpty
def ig:List PV->Option (List V)
 |[]=>aa []
 |x::a=>(cV x).bind λv=>(ig a).map λr=>v::r
theorem u8{H:Hp}{F:af->Prop}:∀{a:List PV}{d b:List V},a_ K H F a d->ig a=aa b->d=b/\b.all gc=ai
 |[],_,_,r,e=>by cases e;exact⟨r,rfl⟩
 |x::a,_,b,⟨v,r,rfl,g,f⟩,e=>by
  unfold ig at e;cases q:cV x with
  |none=>rw[q]at e;cases e
  |some w=>
   cases c:ig a with
   |none=>rw[q,c]at e;cases e
   |some j=>
    rw[q,c]at e;cases e;obtain⟨i,h⟩:=u8 f c;exact⟨by rw[i7 g q,i],by rw[qE,rm q,h];rfl⟩
def pU(neg:Bool):PV->PV->Option PV
 |.str x,.str y=>aa (.bl (neg^^uU x y))
 |x,.lst a=>(cV x).bind λv=>(ig a).map λb=>.bl (neg^^sk v b)
 |x,.tup a=>(cV x).bind λv=>(ig a).map λb=>.bl (neg^^sk v b)
 |_,_=>ae
def EL(K:ax):R2:=λx y H Q=>(∃i j,x=.str i/\y=.str j/\Q (.bl (!(Fg j i 0 j.length 1).isEmpty)) H)\/yP K aj x y H Q
theorem NA:bD X (dr .In) (EL X.K):=PU.or NH
theorem Cj{H:Hp}{F:af->Prop}{x:PV}{c:List PV}{v:V}{p:af}{b:List V}{Q:VK}{neg:Bool}{pv:PV}(g:aN K H F x v)(i:bP K H p b\/bR K H p b)(h:a_ K H F c b)(e:((cV x).bind λv=>(ig c).map λf=>PV.bl (neg^^sk v f))=aa pv) (q:∀w,aN K H F pv w->Q w H):yP K neg v (.ref p) H Q:=by
 cases a:cV x with
 |none=>rw[a]at e;cases e
 |some w=>
  cases d:ig c with
  |none=>rw[a,d]at e;cases e
  |some f=>
   rw[a,d]at e;cases e;obtain⟨rfl,j⟩:=u8 h d;rw[i7 g a];refine⟨p,b,rfl,i,rm a,j,?_⟩;have:=q _ rfl;cases neg <;> simpa using this
theorem GL:P2 K (EL K) (pU aj):=λF H x y v u Q pv d c e q=>by
 unfold pU at e;split at e
 .cases e;exact .inl ⟨_,_,d.1,c.1,by have:=q _ F H (Al.refl ..) rfl;simpa[uU]using this⟩
 .obtain⟨a,h,rfl,g,_,f⟩:=c;exact .inr (Cj (neg:=aj) d (.inl (.inl g)) f e λw b=>q w F H (Al.refl ..) b)
 .obtain⟨a,h,rfl,g,f⟩:=c;exact .inr (Cj (neg:=aj) d (.inr (bR.of g)) f e λw b=>q w F H (Al.refl ..) b)
 .cases e
def gH(a:Bool):PV->PV->Option PV
 |x,.non=>match x with
  |.non=>aa (.bl (a^^ai))
  |.raw _=>ae
  |_=>aa (.bl (a^^aj))
 |_,_=>ae
theorem GS{H:Hp}{F:af->Prop}{x:PV}{v:V}(r:aN K H F x v)(h:x≠.non)(c:∀w,x≠.raw w):decide (v=V.non)=aj:=by
 refine decide_eq_false λz=>?_;subst z;cases x with
 |non=>exact h rfl
 |raw w=>exact c w rfl
 |bl _=>cases r
 |int _=>cases r
 |str _=>cases r.1
 |tup _=>obtain⟨a,b,e,_⟩:=r;cases e
 |lst _=>obtain⟨a,b,e,_⟩:=r;cases e
 |exc _=>obtain⟨a,e,_⟩:=r;cases e
theorem Bh{H:Hp}{F:af->Prop}{x y:PV}{v u:V}{Q:VK}{pv:PV}{a:Bool}(c:aN K H F x v)(f:aN K H F y u)(e:gH a x y=aa pv)(q:∀w d b,Al F d H b->aN K b d pv w->Q w b):u=.non/\Q (.bl (a^^decide (v=V.non))) H:=by
 unfold gH at e;split at e
 .refine⟨f,?_⟩;split at e
  .cases e;rw[show v=V.non from c];exact q _ F H (Al.refl ..) rfl
  .cases e
  .rename_i h g;cases e;rw[GS c (λz=>h z) (λw z=>g w z)];exact q _ F H (Al.refl ..) rfl
 .cases e
theorem NG:P2 K (λx y H Q=>y=.non/\Q (.bl (decide (x=.non))) H) (gH aj):=λF H x y v u Q pv b a e q=>by have:=Bh b a e q;simpa using this
theorem NK:P2 K (λx y H Q=>y=.non/\Q (.bl (!decide (x=.non))) H) (gH ai):=λF H x y v u Q pv b a e q=>by have:=Bh b a e q;simpa using this
def aG:List PV->Option PV
 |[.str x]=>aa (.int x.length)
 |[.lst xs]=>aa (.int xs.length)
 |[.tup xs]=>aa (.int xs.length)
 |_=>ae
theorem f_{H:Hp}{F:af->Prop}{x:PV}{a:List V}(r:a_ K H F [x] a):∃v,a=[v]/\aN K H F x v:=by obtain⟨v,b,rfl,d,c⟩:=r;rw[show b=[] from c];exact⟨v,rfl,d⟩
theorem d_:PL K (λg H Q=>∃x n,g=[x]/\B_ K x H n/\Q (.int n) H) aG:=λF H g i Q pv c e q=>by
 unfold aG at e;split at e
 .cases e;obtain⟨v,rfl,h⟩:=f_ c;rw[h.1];exact⟨_,_,rfl,⟨by rw[kM];exact cA h.2 jV,rfl⟩,by rw[kM];exact q _ F H (Al.refl ..) rfl⟩
 .cases e;obtain⟨v,rfl,a,b,rfl,f,_,d⟩:=f_ c;exact⟨_,_,rfl,.inl ⟨b,.inl f,rfl⟩,by rw[d.len];exact q _ F H (Al.refl ..) rfl⟩
 .cases e;obtain⟨v,rfl,a,b,rfl,f,d⟩:=f_ c;exact⟨_,_,rfl,.inr ⟨b,bR.of f,rfl⟩,by rw[d.len];exact q _ F H (Al.refl ..) rfl⟩
 .cases e
def qg:List PV->Option PO
 |[.lst a]=>aa (.lst a)
 |[.tup a]=>aa (.lst a)
 |_=>ae
theorem Dr:lN K (λh H Q=>∃p c,h=[.ref p]/\(bP K H p c\/bR K H p c)/\∀l,H l=ae->Q (.ref l) (upd H l (.lst c))) qg:=λF H h m Q n j i e q=>by
 unfold qg at e;split at e
 .cases e;obtain⟨v,rfl,a,d,rfl,g,_,f⟩:=f_ i;exact⟨a,d,rfl,.inl (.inl g),λl b=>q l F _ _ (Al.new0 b) (vA b f) (vN b j trivial)⟩
 .cases e;obtain⟨v,rfl,a,d,rfl,g,f⟩:=f_ i;exact⟨a,d,rfl,.inr (bR.of g),λl b=>q l F _ _ (Al.new0 b) (vA b f) (vN b j trivial)⟩
 .cases e
def lT:List PV->Option PV
 |[.lst a]=>aa (.tup a)
 |[.tup a]=>aa (.tup a)
 |_=>ae
theorem zJ:PL K (λg H Q=>∃p d,g=[.ref p]/\((bP K H p d/\∀l,H l=ae->Q (.ref l) (upd H l (.tup d)))\/(bR K H p d/\Q (.ref p) H))) lT:=λF H g j Q pv h e q=>by
 unfold lT at e;split at e
 .cases e;obtain⟨v,rfl,a,b,rfl,c,_,f⟩:=f_ h;exact⟨a,b,rfl,.inl ⟨.inl c,λl i=>q _ F _ (Al.new0 i) ⟨l,b,rfl,bW,(Al.new0 i).reps f⟩⟩⟩
 .cases e;obtain⟨v,rfl,a,b,rfl,c,f⟩:=f_ h;exact⟨a,b,rfl,.inr ⟨bR.of c,q _ F H (Al.refl ..) ⟨a,b,rfl,c,f⟩⟩⟩
 .cases e
def fE:List PV->Option (List Tx)
 |[]=>aa []
 |.str x::a=>(fE a).map (x::·)
 |_=>ae
def am(ls:List Tx):List PV:=ls.map .str
theorem pT(a:List Tx):fE (am a)=aa a:=by
 induction a with
 |nil=>rfl
 |cons x a b=>show(fE (am a)).map (x::·)=_;rw[b];rfl
theorem pK:∀{a:List PV}{b:List Tx},fE a=aa b->a=am b
 |[],b,e=>by cases e;rfl
 |.str x::a,b,e=>by
  unfold fE at e;cases q:fE a with
  |none=>rw[q]at e;cases e
  |some r=>rw[q]at e;cases e;rw[pK q];rfl
 |.non::_,_,e=>by cases e
 |.bl _::_,_,e=>by cases e
 |.int _::_,_,e=>by cases e
 |.tup _::_,_,e=>by cases e
 |.lst _::_,_,e=>by cases e
 |.raw _::_,_,e=>by cases e
 |.exc _::_,_,e=>by cases e
theorem PQ{H:Hp}{F:af->Prop}:∀{a:List Tx}{b:List V},a_ K H F (am a) b↔b=cy a/\∀x∈a,x.length<=cx
 |[],b=>by simp[am,a_,cy]
 |x::a,b=>by
  show(∃v r,b=v::r/\(v=tV x/\x.length<=cx)/\a_ K H F (am a) r)↔_;constructor
  .rintro⟨v,r,rfl,⟨rfl,f⟩,h2⟩;obtain⟨rfl,d⟩:=PQ.mp h2;exact⟨rfl,λy c=>by
    rcases br.mp c with rfl|c
    .exact f
    .exact d y c⟩
  .rintro⟨rfl,h⟩;exact⟨tV x,cy a,rfl,⟨rfl,h x (by simp)⟩,PQ.mpr ⟨rfl,λy c=>h y (by simp[c])⟩⟩
def lG:List PV->Option (List Bool)
 |[]=>aa []
 |.bl b::a=>(lG a).map (b::·)
 |_=>ae
theorem C8{H:Hp}{F:af->Prop}:∀{a:List PV}{c:List V}{bs:List Bool},a_ K H F a c->lG a=aa bs->c=bs.map V.bl
 |[],_,_,r,e=>by cases e;exact r
 |.bl b::a,_,bs,⟨v,r,rfl,f,d⟩,e=>by
  unfold lG at e;cases q:lG a with
  |none=>rw[q]at e;cases e
  |some g=>rw[q]at e;cases e;rw[C8 d q,show v=V.bl b from f];rfl
 |.non::_,_,_,_,e=>by cases e
 |.str _::_,_,_,_,e=>by cases e
 |.int _::_,_,_,_,e=>by cases e
 |.tup _::_,_,_,_,e=>by cases e
 |.lst _::_,_,_,_,e=>by cases e
 |.raw _::_,_,_,_,e=>by cases e
 |.exc _::_,_,_,_,e=>by cases e
def qi:List PV->Option PV
 |[.lst a]=>(lG a).map λbs=>.bl (bs.all id)
 |_=>ae
theorem Aa:PL K (λc H Q=>∃(p:af) (bs:List Bool),c=[.ref p]/\bP K H p (bs.map V.bl)/\Q (.bl (bs.all id)) H) qi:=λF H c i Q pv g e q=>by
 unfold qi at e;split at e
 .rename_i f;cases b:lG f with
  |none=>rw[b]at e;cases e
  |some bs=>
   rw[b]at e;cases e;obtain⟨v,rfl,a,j,rfl,d,_,h⟩:=f_ g;rw[C8 h b]at d;exact⟨a,bs,rfl,.inl d,q _ F H (Al.refl ..) rfl⟩
 .cases e
def sV:PV->Option String
 |.non=>aa "NoneType"
 |.bl _=>aa "bool"
 |.int _=>aa "int"
 |.str _=>aa "str"
 |.tup _=>aa "tuple"
 |.lst _=>aa "list"
 |_=>ae
def iJ:List PV->Option PV
 |[x,.raw (.ty T)]=>(sV x).bind λt=>(iO [] (.type t) (.type T)).map λb=>.bl b
 |_=>ae
theorem rF:fk X (.builtin "isinstance") (λa H Q=>∃x t T b,a=[x,.ty T]/\io X.K H x (.type t)/\iO X.K (.type t) (.type T)=aa b/\Q (.bl b) H):=by
 intro m s i H a j Q I r h;obtain⟨x,t,T,b,rfl,ty,e,q⟩:=h;cases r with
 |cons g f=>
  cases f with
  |cons d c=>
   cases c;cases d;exact JA I g ty e λl=>⟨.bl b,H,I.tok _,rfl,q⟩
theorem Ke{H:Hp}{F:af->Prop}{x:PV}{v:V}{t:String}(r:aN K H F x v)(e:sV x=aa t):io K H v (.type t):=by
 cases x with
 |non=>cases e;rw[show v=V.non from r];exact .non
 |bl b=>cases e;rw[show v=V.bl b from r];exact .bl b
 |int b=>cases e;rw[show v=V.int b from r];exact .int b
 |str b=>cases e;rw[show v=tV b from r.1];exact .str _
 |tup d=>cases e;obtain⟨a,f,rfl,c,_⟩:=r;exact .tup c
 |lst d=>
  cases e;obtain⟨a,f,rfl,c,_⟩:=r;rcases c with c|⟨o,c⟩
  .exact .lst c
  .exact .frz c
 |raw _=>cases e
 |exc _=>cases e
theorem sr:PL K (λd H Q=>∃x t T b,d=[x,.ty T]/\io K H x (.type t)/\iO K (.type t) (.type T)=aa b/\Q (.bl b) H) iJ:=λF H d j Q pv f e q=>by
 unfold iJ at e;split at e
 .rename_i x T;cases a:sV x with
  |none=>rw[a]at e;cases e
  |some t=>
   cases c:iO [] (.type t) (.type T)with
   |none=>rw[a,jn,c]at e;cases e
   |some b=>
    rw[a,jn,c]at e;cases e;obtain⟨v,l,rfl,i,h⟩:=f;obtain⟨u,rfl,g⟩:=f_ h;rw[show u=V.ty T from g];exact⟨v,t,T,b,rfl,Ke i a,c,q _ F H (Al.refl ..) rfl⟩
 .cases e
theorem rM{E:XK}{x:Str}{T:String}{f:Pos}(c:X.mg x=ae)(a:dW x=aa (.type T))(d:Gl X x:=by rfl)(b:x≠"__name__":=by decide)(g:(x==("__debug__":Str))=aj:=by decide):DE X E (.Name x f) (dC (.raw (.ty T))):=λF S i h H Q r q=>bY (J7 (v:=.ty T) d c a rfl b g) (q F S H r (bv.refl ..) _ rfl)
def bO:PV->PV->Option PV
 |.lst a,.int i=>dP a i
 |.tup a,.int i=>dP a i
 |.str x,.int i=>(dP x i).map λc=>.str [c]
 |_,_=>ae
theorem BP{H:Hp}{F:af->Prop}{a:List PV}{b:List V}{i:Int}{x:PV}(r:a_ K H F a b)(e:dP a i=aa x):∃v,dP b i=aa v/\aN K H F x v:=by
 unfold dP at e ⊢;rw[r.len];cases q:jc a.length i with
 |none=>rw[q]at e;cases e
 |some j=>rw[q]at e;exact r.get e
theorem il:P2 K (wt K) bO:=λF H x y v u Q pv b f e q=>by
 unfold bO at e;split at e
 .rename_i n i;obtain⟨a,d,rfl,j,_,g⟩:=b;obtain⟨w,m,l⟩:=BP g e;exact .inl ⟨a,d,i,w,rfl,f,.inl j,m,q _ F H (Al.refl ..) l⟩
 .rename_i n i;obtain⟨a,d,rfl,j,g⟩:=b;obtain⟨w,m,l⟩:=BP g e;exact .inr (.inl ⟨a,d,i,w,rfl,f,bR.of j,m,q _ F H (Al.refl ..) l⟩)
 .rename_i x i;cases h:dP x i with
  |none=>rw[h]at e;cases e
  |some c=>
   rw[h]at e;cases e;rw[b.1];exact .inr (.inr ⟨_,i,c,rfl,f,by rw[kM];exact cA b.2 jV,by rw[jy];exact h,q _ F H (Al.refl ..) ⟨rfl,by show 1<=cx;decide⟩⟩)
 .cases e
def eV{b:Type}(a:List b)(c d:Option Int):List b:=(a.drop (HT.sIx a.length 0 c)).take (HT.sIx a.length a.length d-HT.sIx a.length 0 c)
theorem Lx{b:Type}(a:List b)(c d:Option Int):(eV a c d).length<=a.length:=by unfold eV;rw[jk,m8];lia
def cQ:PV->Option Int->Option Int->Option PV
 |.str x,b,c=>aa (.str (eV x b c))
 |.lst a,b,c=>aa (.lst (eV a b c))
 |.tup a,b,c=>if HT.sIx a.length 0 b=0/\HT.sIx a.length a.length c=a.length then ae else aa (.tup (eV a b c))
 |_,_,_=>ae
def CT(K:ax):V->Option Int->Option Int->Hp->VK->Prop:=λx a b H Q=>Db x a b H Q\/(CK K x a b H Q\/D2 K x a b H Q)
theorem mT:lP X (CT X.K):=PN.or (PR.or Js)
theorem B7{H:Hp}{F:af->Prop}{a:List PV}{b:List V}(r:a_ K H F a b)(c d:Option Int):a_ K H F (eV a c d) (mF b c d):=by unfold eV mF;rw[r.len];exact(r.drop _).take _
theorem mQ:De K (CT K) cQ:=λF H x h i v Q pv b e q=>by
 unfold cQ at e;split at e
 .cases e;rw[b.1];refine .inl ⟨_,rfl,by rw[kM];exact cA b.2 jV,?_⟩;refine q _ F H (Al.refl ..) ⟨?_,cA (Lx ..) b.2⟩;unfold kL eV;rw[kM,jy];rfl
 .cases e;obtain⟨a,f,rfl,g,_,d⟩:=b;exact .inr (.inl ⟨a,f,rfl,.inl g,λp c=>q _ _ _ (Al.new c) ⟨p,_,rfl,.inl bW,.inr rfl,(Al.new c).reps (B7 d h i)⟩⟩)
 .split at e
  .cases e
  .rename_i j;cases e;obtain⟨a,f,rfl,g,d⟩:=b;exact .inr (.inr ⟨a,f,rfl,bR.of g,by rw[d.len];exact j,λp c=>q _ _ _ (Al.new0 c) ⟨p,_,rfl,bW,(Al.new0 c).reps (B7 d h i)⟩⟩)
 .cases e
variable{E:XK}{g l a b:az}{d:ak->R PV}{m:ak->R (List PV)}{p f:Pos}
def jA:PV->Option (List PV)
 |.lst h=>aa h
 |.tup h=>aa h
 |.str x=>aa (x.map λc=>.str [c])
 |_=>ae
def cD(d:ak->R PV):ak->R (List PV):=λε=>(d ε).bind λx ε1=>a6 (jA x) ε1
theorem CA{H:Hp}{F:af->Prop}:∀(x:Tx),a_ K H F (x.map λc=>PV.str [c]) (x.map sg)
 |[]=>rfl
 |c::x=>⟨sg c,x.map sg,rfl,⟨rfl,by show 1<=cx;decide⟩,CA x⟩
theorem kZ(he:DE X E l d):DI X E g l (cD d):=λF S ε Z H Rr rl h=>Bx.mk λag s I=>by
 have w:=he F S ε Z H (λv r=>∃B D u x,aQ X.K B D u Z r/\aN X.K r B x v/\Ok X.K E Z B D r (a6 (jA x) u) (λpvs _ F' S' H'=>∀J L RR,a_ X.K H' F' pvs L->L.length<=aX->Walk J L RR->(∀S'' F'' Y,bv (U S') (U S'') F' F'' H' Y->RR Y)->Rr J H')) rl
  ((Ok.bind h).imp λx u B D r G g1 q v N=>⟨B,D,u,x,G,N,q⟩)
 refine aI (w.run ag s I) λv c ⟨x,r,y,rx,B,D,u,pv,G,N,q⟩=>?_;cases pv with
 |lst xs=>
  obtain⟨a,M,rfl,C,hF,ra⟩:=N;cases rx;obtain⟨O,rr,pp,P⟩:=y.list (.inl C);refine xk pp.isList ?_;refine⟨c.heap.objs.size,[c.heap.objs.size],_,_,r,rfl,y.kept (t':=c.toks) λb o e=>bh _ e,Lj a _,⟨_,cf _ rfl,rfl,rfl⟩,λb T=>?_,q B D r G (bv.refl ..) (yi X.K a) M (λH=>bP X.K H a M) ra P Ls λS2 F2 H2 g2=>.inl (g2.lst G.fit hF C)⟩;have e:b=c.heap.objs.size:=by simpa using T
  subst e;exact y.fpOk (aZ _) (y.hok.fresh (aZ _))
 |tup xs=>
  obtain⟨a,M,rfl,C,ra⟩:=N;cases rx;obtain⟨O,rr,pp,P⟩:=y.tuple (bR.of C);refine wpAny_pyIter_tuple (show c.heap.IsTuple a O.toArray from pp) ?_;refine⟨c.heap.objs.size,[c.heap.objs.size],_,_,r,rfl,y.kept (t':=c.toks) λb o e=>bh _ e,NE a _,⟨_,cf _ rfl,rfl,rfl⟩,λb T=>?_,q B D r G (bv.refl ..) (zi X.K a) M (λH=>bR X.K H a M) ra P G0 λS2 F2 H2 g2=>bR.of (g2.imm G.fit C id)⟩;have e:b=c.heap.objs.size:=by simpa using T
  subst e;exact y.fpOk (aZ _) (y.hok.fresh (aZ _))
 |str z=>
  obtain⟨rfl,P⟩:=N;obtain⟨t,rfl⟩:=rx;have qq:Rr (sU (tS z)) r:=q B D r G (bv.refl ..) (sU (tS z)) (z.map sg) (λ_=>True) (CA z) (by rw[dD];exact cA P jV) (by have:=Mi (z:=tS z);rw[jy]at this;exact this) λ_ _ _ _=>trivial;have W:∀(n:String) (j:Nat->aB->Prop),(∀i h,j i h->∃o n L,h.get? c.heap.objs.size=aa o/\o.cls=.type n/\o.data=.fields L /\ ["enumerate","zip","dict_itemiterator","dict_reverseitemiterator","odict_iterator","itertools.zip_longest","itertools.pairwise"].contains n=aj) ->
    (∀(A:aS) (i:Nat) (s:ao) (Q:ah->ao->Prop) (E:ah->ao->Prop),j i s.heap->Q (.ref c.heap.objs.size) s->aq (aw X.prog X.w) A (lc (.ref c.heap.objs.size)) Q E s) ->
    (∀A:aS,A.handled=ae->Walks X.prog X.w A c.heap.objs.size [c.heap.objs.size] [c.heap.objs.size] (tS z).cps.size (SignAt (tS z)) j) ->
    j 0 (c.heap.push {cls:=.type n,data:=.fields #[.str (tS z) t,.int 0 0]}) ->
    rG X ag Z g Rr (.ref c.heap.objs.size) {c with heap:=c.heap.push {cls:=.type n,data:=.fields #[.str (tS z) t,.int 0 0]}}:=λn j q h2 h3 h4=>by
   refine⟨c.heap.objs.size,[c.heap.objs.size],j,sU (tS z),r,rfl,y.kept (t':=c.toks) λb o e=>bh _ e,Nk q h2 h3,h4,λb T=>?_,qq⟩;have e:b=c.heap.objs.size:=by simpa using T
   subst e;exact y.fpOk (aZ _) (y.hok.fresh (aZ _))
  cases C:(tS z).cps.all (· < 128)
  .refine wpAny_pyIter_wide C (W "str_iterator" (λi h=>h.IsStrIter c.heap.objs.size "str_iterator" (tS z) t i) (λi h ⟨o,e1,e2,e3⟩=>⟨o,_,_,e1,e2,e3,by decide⟩) (λA i s Q E st h=>wpAny_pyIter_striter_wide st h) (λA' hA=>Walks.strWide hA _ (tS z) t) ⟨_,cf _ rfl,rfl,rfl⟩)
  .refine wpAny_pyIter_ascii C (W "str_ascii_iterator" (λi h=>h.IsStrIter c.heap.objs.size "str_ascii_iterator" (tS z) t i) (λi h ⟨o,e1,e2,e3⟩=>⟨o,_,_,e1,e2,e3,by decide⟩) (λA i s Q E st h=>wpAny_pyIter_striter_ascii st h) (λA' hA=>Walks.strAscii hA _ (tS z) t) ⟨_,cf _ rfl,rfl,rfl⟩)
 |non=>exact(show False from q).elim
 |bl _=>exact(show False from q).elim
 |int _=>exact(show False from q).elim
 |raw _=>exact(show False from q).elim
 |exc _=>exact(show False from q).elim
def cL(lo:Int)(n:Nat):List PV:=(bI n).map λi=>PV.int (lo+(i:Nat))
theorem BW{H:Hp}{F:af->Prop}(c:Int)(n:Nat):a_ K H F (cL c n) (pZ c n):=by
 unfold cL pZ
 induction (bI n)with
 |nil=>rfl
 |cons x i h=>exact⟨_,_,rfl,rfl,h⟩
def fN:List PV->Option (List PV)
 |[.int j]=>if j<=1000000/\-1000000<=j then aa (cL 0 j.toNat)else ae
 |_=>ae
def oq:List PV->Option (List PV)
 |[.int i,.int j]=>if j<=1000000/\-1000000<=j/\i<=1000000/\-1000000<=i then aa (cL i (j-i).toNat)else ae
 |_=>ae
theorem nR(w:X.mg "range"=ae)(y:DA X E [a] m)(x:Gl X "range":=by rfl)(u:aP [a] X.env=[(aj,aM a X.env)]:=by rfl):DI X E g (.Call (.Name "range" p) [a] [] f) (dL fN m):=λF S o i H L r h=>by
 refine yy (OS x w ge u) (y F S o i H _ r ((Ok.bind h).imp λD n C A B s J c G z=>?_));unfold fN at c;split at c
 .rename_i j;split at c
  .rename_i I;obtain⟨v,rfl,q⟩:=f_ z;refine⟨j,by rw[show v=V.int j from q],∅,∅,c C A B s (bv.refl ..) _ _ _ (BW 0 j.toNat) (by rw[vq,mY];lia) CH λ_ _ _ _=>trivial⟩
  .exact c.elim
 .exact c.elim
theorem C6(x:X.mg "range"=ae)(z:DA X E [a,b] m)(y:Gl X "range":=by rfl)(w:aP [a,b] X.env=[(aj,aM a X.env),(aj,aM b X.env)]:=by rfl)(G:aP [b] X.env=[(aj,aM b X.env)]:=by rfl):DI X E g (.Call (.Name "range" p) [a,b] [] f) (dL oq m):=λF S q n H T r h=>by
 refine yy (Jo y x ge w G) (z F S q n H _ r ((Ok.bind h).imp λM o L I J s Q c N D=>?_));unfold oq at c;split at c
 .rename_i i j;split at c
  .rename_i P;obtain⟨v,O,rfl,C,B⟩:=D;obtain⟨u,rfl,A⟩:=f_ B;refine⟨i,j,by rw[show v=V.int i from C,show u=V.int j from A],⟨∅,∅,∅,∅⟩,c L I J s (bv.refl ..) _ _ _ (BW i (j-i).toNat) (by rw[vq,mY];lia) CH λ_ _ _ _=>trivial⟩
  .exact c.elim
 .exact c.elim
end
section
variable{K:ax}{F:af->Prop}{S:Nat->af->Prop}{f:ak}{l:St}{H:Hp}{i:Nat}{p m:List PV}{d:List V}{a:af}
theorem aQ.lstAt(r:aQ K F S f l H)(e:f[i]?=aa (.own (.lst p))):∃a c,l[i]?=aa (aa (.ref a))/\H a=aa (.lst c)/\a_ K H F p c/\S i a/\∀b,S i b->b=a:=by obtain⟨a,o,⟨c,n,j⟩,g⟩:=r.own i _ e;exact⟨a,c,o,n,j,(g a).mpr rfl,λb h=>(g b).mp h⟩
theorem aQ.upd(r:aQ K F S f l H)(e:f[i]?=aa (.own (.lst p)))(E:l[i]?=aa (aa (.ref a)))(h:a_ K H F m d):aQ K F S (f.set i (.own (.lst m))) l (upd H a (.lst d))/\bv (U S) (U S) F F H (upd H a (.lst d)):=by
 obtain⟨O,L,G,N,M,y,C⟩:=r.lstAt e;rw[E]at G;cases G;have B:i<f.length:=(cY.mp e).1;have g:bv (U S) (U S) F F H (L2.upd H a (.lst d)):=⟨λ_ z=>z,λb o q n=>by rw[bj (by rintro rfl;exact n ⟨i,y⟩)];exact q,λb o q=>by
  by_cases D:b=a
  .subst D;exact⟨_,bW⟩
  .exact⟨o,by rw[bj D];exact q⟩,λ_ z=>.inl z,λ_ z=>.inl z⟩
 refine⟨⟨by rw[gQ];exact r.len,λb z=>let ⟨o,q⟩:=r.ex b z;g.there b o q,λj pv q=>?_,λj A q=>?_,λj b z=>?_,r.dist⟩,g⟩
 .have s:i≠j:=by rintro rfl;rw[gh B]at q;cases q
  rw[ef s]at q;obtain⟨v,x,u⟩:=r.val j pv q;exact⟨v,x,u.grow g r.fit⟩
 .by_cases s:i=j
  .subst s;rw[gh B]at q;cases q;exact⟨a,E,⟨d,bW,h.grow g r.fit⟩,λb=>⟨C b,λz=>by rw[z];exact y⟩⟩
  .rw[ef s]at q;obtain⟨c,x,u⟩:=r.own j A q;refine⟨c,x,u.mono (λ_ _ z=>z.grow g r.fit) (λ_ _ z=>z.grow g r.fit) λb o z w=>?_⟩;rw[bj (by rintro rfl;exact s (r.dist i j b y z))];exact w
 .obtain⟨⟨A,x⟩,u,o,J,I⟩:=r.foot j b z;by_cases s:i=j
  .subst s;rw[C b z];exact⟨⟨_,gh B⟩,by rw[<-C b z];exact u,_,bW,trivial⟩
  .exact⟨⟨A,by rw[ef s];exact x⟩,u,o,by rw[bj (by rintro rfl;exact s (r.dist i j b y z))];exact J,I⟩
end
section
variable{X:Cx}{E:XK}{pin:List Nat}{e b:az}{de db:ak->R PV}{d:Pos}
def fv(a:ak)(i:Nat):Option (List PV):=match a[i]? with
 |some (.own (.lst c))=>aa c
 |_=>ae
theorem jz{a:ak}{i:Nat}{c:List PV}(h:fv a i=aa c):a[i]?=aa (.own (.lst c)):=by
 unfold fv at h;split at h
 .cases h;assumption
 .cases h
def p_(i:Nat)(de:ak->R PV):ak->R aO:=λc=>(a6 (fv c i) c).bind λ_ c=>(de c).bind λy a=>(a6 (fv a i) a).bind λf a=>if f.length<cx then .ok .next (a.set i (.own (.lst (f++[y]))))else .no
theorem Dj(i:Nat){x:Str}{p f c:Pos}(N:DE X E e de)(Q:X.N[i]?=aa x:=by rfl)(K:fu X.env.scope x:=by eq_refl)(O:(x==("__debug__":Str))=aj:=by decide)(bK:(x==("__classdict__":Str))=aj:=by decide) (Z:ni (.Name x p) "append" X.env (aM (.Name x p) X.env)=aM (.Name x p) X.env:=by rfl)(Y:((dA c (aP [e] X.env)).all (λx=>!x.1)&&(qz c (qA [] X.env)).all (λx=>x.1.isSome)&&decide ([e].length+([]:List jH).length+(if([]:List jH).isEmpty then 0 else 1)<30))=ai:=by rfl)(W:(f.endLine == c.line)=ai:=by rfl) (z:aP [e] X.env=(aj,aM e X.env)::aP [] X.env:=by rfl) (T:(dA c (aP [] X.env)).any (·.1)=aj:=by rfl)(L:iM (.Call (.Attribute (.Name x p) "append" f) [e] [] c) ae d.line X.env=pure aj:=by rfl):DS X E pin (.Expr (.Call (.Attribute (.Name x p) "append" f) [e] [] c) d) (p_ i de):=λF S r o H D s h=>by
 unfold p_ at h;cases n:fv r i with
 |none=>rw[n]at h;exact h.elim
 |some A=>
  rw[n]at h;simp only[dU,R.bind_ok]at h;obtain⟨a,B,m,P,_,_,_⟩:=s.lstAt (jz n);refine ie (y0 (zI PySem.F.plainAttrs_list PySem.F.slot_list_append PySem.F.type_list_append Dn (gK Q K O bK) (iF bA jW z) Z Y W z T) L) ⟨.ref a,m,.inl ⟨rfl,_,bP.of P⟩,?_⟩;refine N F S r o H _ s (h.bindE.imp λy l F1 S1 H1 w g1 q v G=>?_);cases j:fv l i with
  |none=>rw[j]at q;exact q.elim
  |some xs=>
   rw[j]at q;simp only[dU,R.bind_ok]at q;obtain⟨a',C,g,J,u,_,_⟩:=w.lstAt (jz j);rw[m]at g;cases g;split at q
   .rename_i M;obtain⟨I,g2⟩:=w.upd (jz j) m (u.app (.one G));exact⟨a,C,v,rfl,rfl,J,by rw[u.len];exact fc M jV,q F1 S1 o _ I g2 (i9.refl _ _)⟩
   .exact q.elim
def Lc:V->List V->Hp->VK->Prop:=λx f H Q=>∃l b c a,x=.ref l/\f=[.ref b]/\H l=aa (.lst c)/\Rd H b (.lst a)/\c.length+a.length<=aX/\Q .non (L2.upd H l (.lst (c++a)))
theorem LQ:wI X "list.extend" Lc:=by
 intro N s B H x G v J Q I j m h;obtain⟨l,b,D,C,rfl,rfl,i,w,L,q⟩:=h;cases j;obtain⟨u,rfl,o⟩:=m.one;cases o;obtain⟨z,c,n,r,M,e⟩:=I.lstM i;obtain⟨a,p,g,y,_⟩:=zx I w;have K:=g.length;have f:c.toArray.size+a.toArray.size<=aX:=by rw[bJ,bJ];lia
 have A:¬(!c.toArray.isEmpty&&Fq (c.toArray.size+a.toArray.size))=ai:=by rw[Na f,Bool.and_false];exact dX
 refine call_meets F.slot_list_extend ⟨_,e,rfl⟩ F.entry_list_extend (F.args_list_extend_2 _ _)
  (AutoSeq1.list_extend_list_list_0 l c.toArray n b a.toArray p A (by rw[bJ];lia) ∅) ⟨e,y,?_⟩
 refine⟨.non,_,I.lset (its':=c++a) i e (by simp) (r.append g) ?_,rfl,q⟩;rw[cK];lia
def oD(i:Nat)(de:ak->R PV):ak->R aO:=λε=>(a6 (fv ε i) ε).bind λ_ ε=>(de ε).bind λy ε1=>(a6 (fv ε1 i) ε1).bind λc ε1=>match y with
 |.lst a=>if c.length+a.length<=cx then .ok .next (ε1.set i (.own (.lst (c++a))))else .no
 |_=>.no
theorem J3(i:Nat){x:Str}{p g f:Pos}(Q:DE X E e de)(Z:X.N[i]?=aa x:=by rfl)(N:fu X.env.scope x:=by eq_refl)(T:(x==("__debug__":Str))=aj:=by decide)(bK:(x==("__classdict__":Str))=aj:=by decide) (h1:ni (.Name x p) "extend" X.env (aM (.Name x p) X.env)=aM (.Name x p) X.env:=by rfl)(h2:((dA f (aP [e] X.env)).all (λx=>!x.1)&&(qz f (qA [] X.env)).all (λx=>x.1.isSome)&&decide ([e].length+([]:List jH).length+(if([]:List jH).isEmpty then 0 else 1)<30))=ai:=by rfl)(h3:(g.endLine == f.line)=ai:=by rfl) (B:aP [e] X.env=(aj,aM e X.env)::aP [] X.env:=by rfl) (h5:(dA f (aP [] X.env)).any (·.1)=aj:=by rfl)(O:iM (.Call (.Attribute (.Name x p) "extend" g) [e] [] f) ae d.line X.env=pure aj:=by rfl):DS X E pin (.Expr (.Call (.Attribute (.Name x p) "extend" g) [e] [] f) d) (oD i de):=λF S s r H D u h=>by
 unfold oD at h;cases o:fv s i with
 |none=>rw[o]at h;exact h.elim
 |some C=>
  rw[o]at h;simp only[dU,R.bind_ok]at h;obtain⟨a,G,n,Y,_,_,_⟩:=u.lstAt (jz o);refine ie (y0 (zI PySem.F.plainAttrs_list PySem.F.slot_list_extend PySem.F.type_list_extend LQ (gK Z N T bK) (iF bA jW B) h1 h2 h3 B h5) O) ⟨.ref a,n,.inl ⟨rfl,_,bP.of Y⟩,?_⟩;refine Q F S s r H _ u (h.bindE.imp λy m F1 S1 H1 A g1 q v K=>?_);cases l:fv m i with
  |none=>rw[l]at q;exact q.elim
  |some xs=>
   rw[l]at q;simp only[dU,R.bind_ok]at q;obtain⟨a',I,j,M,z,_,_⟩:=A.lstAt (jz l);rw[n]at j;cases j;split at q
   .rename_i ys;split at q
    .rename_i P;obtain⟨c,J,rfl,W,_,w⟩:=K;obtain⟨L,g2⟩:=A.upd (jz l) n (z.app w);exact⟨a,c,I,J,rfl,rfl,M,W,by rw[z.len,w.len];exact cA P jV,q F1 S1 r _ L g2 (i9.refl _ _)⟩
    .exact q.elim
   .exact q.elim
def wz(i:Nat)(db de:ak->R PV):ak->R aO:=λg=>(de g).bind λy c=>(a6 (fv c i) c).bind λ_ c=>(db c).bind λk a=>(a6 (fv a i) a).bind λf a=>match k with
 |.int k=>match jc f.length k with
  |some j=>.ok .next (a.set i (.own (.lst (f.set j y))))
  |none=>.no
 |_=>.no
theorem Mc(i:Nat){x:Str}{p c:Pos}(Z:DE X E b db)(W:DE X E e de)(hN:X.N[i]?=aa x:=by rfl)(P:fu X.env.scope x:=by eq_refl)(Y:(x==("__debug__":Str))=aj:=by decide)(bK:(x==("__classdict__":Str))=aj:=by decide) (ha:∀v,mW (.Subscript (.Name x p) b c) X.env v=(do
   let ov <-mV [v] (aM (.Name x p) X.env)
   let iv <-mV [v,ov] (aM b X.env)
   standAt c
   mV [v,ov,iv] (setItem ov iv v)
   release [v,ov,iv] []):=by intro _;rfl) (Q:swapsWithSole [.Subscript (.Name x p) b c] e d.line X.env=pure aj:=by rfl) (O:swappedStores [.Subscript (.Name x p) b c] e X.env=pure ae:=by rfl)
  (h1:(qy [.Subscript (.Name x p) b c] X.env).map (·.2)=[mW (.Subscript (.Name x p) b c) X.env]:=by rfl):DS X E pin (.Assign [.Subscript (.Name x p) b c] e d) (wz i db de):=λF S B n H D L h=>by
 refine ie (CU bA (Gp (gK hN P Y bK) bA Oz ha) Q O h1) (W F S B n H _ L (h.bindE.imp λy g F1 S1 H1 r g1 q v J=>?_));cases w:fv g i with
 |none=>rw[w]at q;exact q.elim
 |some C=>
  rw[w]at q;simp only[dU,R.bind_ok]at q;obtain⟨a,G,s,ha0,_,_,_⟩:=r.lstAt (jz w);refine⟨.ref a,s,Z F1 S1 g n H1 _ r (q.bindE.imp λk o F2 S2 H2 A g2 f u K=>?_)⟩;cases m:fv o i with
  |none=>rw[m]at f;exact f.elim
  |some xs=>
   rw[m]at f;simp only[dU,R.bind_ok]at f;obtain⟨a',I,l,N,z,_,_⟩:=A.lstAt (jz m);rw[s]at l;cases l;split at f
   .rename_i k;split at f
    .rename_i j T;obtain⟨M,g3⟩:=A.upd (jz m) s (z.set (J.grow g2 r.fit) j);exact⟨a,I,k,j,rfl,K,N,by rw[z.len];exact T,f F2 S2 n _ M g3 (i9.refl _ _)⟩
    .exact f.elim
   .exact f.elim
end
mutual
def imm:PV->Bool
 |.lst _=>aj
 |.tup a=>lO a
 |_=>ai
def lO:List PV->Bool
 |[]=>ai
 |x::a=>imm x&&lO a
end
mutual
theorem aN.imm{K:ax}{H:Hp}{F i:af->Prop}:∀(x:PV) {v:V},imm x=ai->aN K H F x v->aN K H i x v
 |.non,_,_,h=>h
 |.bl _,_,_,h=>h
 |.int _,_,_,h=>h
 |.str _,_,_,h=>h
 |.raw _,_,_,h=>h
 |.exc _,_,_,h=>h
 |.lst _,_,e,_=>by simp[Pu.imm]at e
 |.tup b,_,e,⟨a,c,g,f,d⟩=>⟨a,c,g,f,a_.imm b (by simpa[Pu.imm]using e) d⟩
theorem a_.imm{K:ax}{H:Hp}{F i:af->Prop}:∀(a:List PV) {b:List V},lO a=ai->a_ K H F a b->a_ K H i a b
 |[],_,_,h=>h
 |x::a,_,e,⟨v,r,g,f,d⟩=>by
  have c:imm x=ai/\lO a=ai:=by simpa[lO]using e
  exact⟨v,r,g,aN.imm x c.1 f,a_.imm a c.2 d⟩
end
section
variable{K:ax}{F:af->Prop}{S:Nat->af->Prop}{d:ak}{c:St}{H:Hp}{i:Nat}{f:List PV}
theorem aQ.look(r:aQ K F S d c H)(e:d[i]?=aa (.own (.lst f))):∃a,c[i]?=aa (aa (.ref a))/\¬F a/\aN K H (λb=>F b\/b=a) (.lst f) (.ref a)/\(∀b,F b\/b=a->∃o,H b=aa o) /\ (∀{h g},Al (λb=>F b\/b=a) h H g->Al F (λb=>h b/\b≠a) H g):=by
 obtain⟨a,m,q,l,p,n,s⟩:=r.lstAt e;have j:¬F a:=(r.foot i a n).2.1;refine⟨a,q,j,⟨a,m,rfl,.inl l,.inr rfl,a_.mono (λ_ z=>.inl z) (λ_ _ _ z=>z) (λ_ _ z _=>z) _ _ p⟩,λb z=>z.elim (r.ex b) λz=>by rw[z];exact⟨_,l⟩,λ{h g} al=>⟨λb z=>⟨al.fro b (.inl z),by rintro rfl;exact j z⟩,al.same,λb z=>?_⟩⟩;rcases al.fnew b z.1 with(w|w)|w
 .exact .inl w
 .exact absurd w z.2
 .exact .inr w
end
section
variable{X:Cx}{E:XK}{e b:az}{de db:ak->R PV}{d p:Pos}{x y:Str}{l T:String}{r:List V->Hp->VK->Prop}{f:List PV->Option PV}{g:List PV->Option PO}
def n5(o:Option PV):Option PV:=o.bind λv=>if imm v then aa v else ae
theorem GM{o:Option PV}{v:PV}(h:n5 o=aa v):o=aa v/\imm v=ai:=by
 cases o with
 |none=>cases h
 |some w=>
  have h:(if imm w then aa w else ae)=aa v:=h;split at h
  .cases h;exact⟨rfl,by assumption⟩
  .cases h
def Ec:PO->Bool
 |.lst a=>lO a
 |_=>aj
def jX{c:Type}(f:List PV->Option c)(i:Nat):ak->R c:=λa=>(a6 (fv a i) a).bind λh a=>a6 (f [.lst h]) a
theorem OP{F:af->Prop}{S:Nat->af->Prop}{n:ak}{m:St}{H:Hp}{Q:VK}{i:Nat}(C:PL X.K r f)(u:aQ X.K F S n m H)(h:Ok X.K E m F S H (jX (λc=>n5 (f c)) i n) (λpv _ A _ j=>∀v,aN X.K j A pv v->Q v j)):∃a,m[i]?=aa (aa (.ref a))/\r [.ref a] H Q:=by
 unfold jX at h;cases s:fv n i with
 |none=>rw[s]at h;exact h.elim
 |some c=>
  rw[s]at h;simp only[dU,R.bind_ok]at h;obtain⟨a,G,K,B,D,z⟩:=u.look (jz s);refine⟨a,G,?_⟩;cases q:n5 (f [.lst c])with
  |none=>rw[q]at h;exact h.elim
  |some pv=>rw[q]at h;obtain⟨J,I⟩:=GM q;exact C _ H [.lst c] [.ref a] Q pv (.one B) J λw A j al o=>h _ S j (u.al (z al)) (z al).grow w (aN.imm pv I o)
theorem D0(i:Nat)(A:fk X (.builtin l) r)(s:PL X.K r f)(v:X.mg x=ae)(n:dW x=aa (.builtin l))(B:X.N[i]?=aa y:=by rfl)(D:fu X.env.scope y:=by eq_refl)(z:(y==("__debug__":Str))=aj:=by decide) (J:(y==("__classdict__":Str))=aj:=by decide) (w:Gl X x:=by rfl) (u:x≠"__name__":=by decide) (C:(x==("__debug__":Str))=aj:=by decide) {c:Pos}(h:aP [.Name y c] X.env=(aj,aM (.Name y c) X.env)::aP [] X.env:=by rfl) (I:(dA d (aP [] X.env)).any (·.1)=aj:=by rfl):DE X E (.Call (.Name x p) [.Name y c] [] d) (jX (λj=>n5 (f j)) i):=λF S L K H Q m q=>by obtain⟨a,G,o⟩:=OP s m q;exact bY (qr A w v n (iF (gK B D z J) jW h) u C h I) ⟨_,G,o⟩
def wl(o:Option PO):Option PO:=o.bind λv=>if Ec v then aa v else ae
theorem Nr{F:af->Prop}{S:Nat->af->Prop}{u:ak}{s:St}{H:Hp}{Q:VK}{i:Nat}(hp:lN X.K r g)(B:aQ X.K F S u s H)(h:Ok X.K E s F S H (jX (λm=>wl (g m)) i u) (λD _ K S' q=>∀a v,eJ X.K q K D a v->(∀b,v b->H b=ae/\¬K b/\¬U S' b/\∃o,q b=aa o/\d8 o)->Q (.ref a) q)):∃a,s[i]?=aa (aa (.ref a))/\r [.ref a] H Q:=by
 unfold jX at h;cases J:fv u i with
 |none=>rw[J]at h;exact h.elim
 |some m=>
  rw[J]at h;simp only[dU,R.bind_ok]at h;obtain⟨a,ea,nF,Z,G,N⟩:=B.look (jz J);refine⟨a,ea,?_⟩;cases I:g [.lst m]with
  |none=>rw[I]at h;exact h.elim
  |some D=>
   rw[I]at h;cases D with
   |dK n=>exact h.elim
   |lls iV=>exact h.elim
   |ins C fs=>exact h.elim
   |dT n=>exact h.elim
   |dN n=>exact h.elim
   |inl C fs y m=>exact h.elim
   |lst A=>
    have h:Ok X.K E s F S H (a6 (if lO A then aa (PO.lst A)else ae) u) _:=h;split at h
    .rename_i hi;refine hp _ H [.lst m] [.ref a] Q _ G (.one Z) I λc K q v al ow fr=>h _ S q (B.al (N al)) (N al).grow c v ?_ λb z=>?_
     .obtain⟨⟨Y,o1,o2⟩,o3⟩:=ow;exact⟨⟨Y,o1,a_.imm A hi o2⟩,o3⟩
     .obtain⟨L,W,o,P,O⟩:=fr b z;refine⟨L,λw=>W w.1,λ⟨j,w⟩=>?_,o,P,O⟩;obtain⟨_,_,o',M,_⟩:=B.foot j b w;rw[L]at M;cases M
    .exact h.elim
theorem Mm(i:Nat)(A:fk X (.builtin l) r)(s:lN X.K r g)(v:X.mg x=ae)(n:dW x=aa (.builtin l))(B:X.N[i]?=aa y:=by rfl)(D:fu X.env.scope y:=by eq_refl)(z:(y==("__debug__":Str))=aj:=by decide) (J:(y==("__classdict__":Str))=aj:=by decide) (w:Gl X x:=by rfl) (u:x≠"__name__":=by decide) (C:(x==("__debug__":Str))=aj:=by decide) {c:Pos}(h:aP [.Name y c] X.env=(aj,aM (.Name y c) X.env)::aP [] X.env:=by rfl) (I:(dA d (aP [] X.env)).any (·.1)=aj:=by rfl):DN X E (.Call (.Name x p) [.Name y c] [] d) (jX (λj=>wl (g j)) i):=λF S L K H Q m q=>by obtain⟨a,G,o⟩:=Nr s m q;exact bY (qr A w v n (iF (gK B D z J) jW h) u C h I) ⟨_,G,o⟩
end
end Pu
namespace Pu
open L2
def oz(h:aB)(e T:af)(c g:ah):Prop:=∃a b f d,h.get? e=aa a/\a.cls=c/\(a.data=.fields b/\a.dict=ae)/\b[1]?=aa (.ref T)/\T≠e/\h.get? T=aa f/\f.data=.fields d/\d[3]?=aa g
def Made(h:aB)(e:af)(c:ah):Prop:=∃a b,h.get? e=aa a/\a.cls=c/\(a.data=.fields b/\a.dict=ae)/\b[1]?=aa .none
structure Kp(fs:List af)(X:af->Prop)(h h':aB):Prop where
 keep:∀b o,h.get? b=aa o->b∉fs->¬X b->h'.get? b=aa o
 slot:∀b o,h.get? b=aa o->b∈fs->¬X b->∃sl,h'.get? b=aa {o with slots:=sl}
 there:∀b o,h.get? b=aa o->∃o',h'.get? b=aa o'
theorem Kp.trans{fs:List af}{X Y:af->Prop}{h g f:aB}(a:Kp fs X h g)(b:Kp fs Y g f):Kp fs (λc=>X c\/Y c) h f where
 keep:=λc o e n x=>b.keep c o (a.keep c o e n λz=>x (.inl z)) n λz=>x (.inr z)
 slot:=λc o e n x=>by obtain⟨l,j⟩:=a.slot c o e n λz=>x (.inl z);obtain⟨d,i⟩:=b.slot c _ j n λz=>x (.inr z);exact⟨d,i⟩
 there:=λc o e=>let ⟨o',e'⟩:=a.there c o e;b.there c o' e'
theorem Kp.imp{fs d:List af}{X Y:af->Prop}{h j:aB}(a:Kp fs X h j)(f:∀b,b∈fs->b∈d)(g:∀b o,h.get? b=aa o->X b->Y b):Kp d Y h j where
 keep:=λc o e n x=>a.keep c o e (λz=>n (f c z)) λz=>x (g c o e z)
 slot:=λc o e n x=>by
  by_cases i:c∈fs
  .exact a.slot c o e i λz=>x (g c o e z)
  .exact⟨o.slots,a.keep c o e i λz=>x (g c o e z)⟩
 there:=a.there
theorem Jz(f:Array ah->Array ah)(o:Obj):(mi f o).dict=o.dict:=by
 obtain⟨c,d,dt,a⟩:=o;cases dt <;> rfl
section
variable{M:Model}{A:aS}{E:ah->ao->Prop}{s:ao}
theorem Cs{z:aB}{l:Env}{g:List Env}{L e:af}{w:Obj}{G:Array ah}{B:ah}{Pq:Bool}{Q:Unit->ao->Prop}(lB:A.frames=aa (l::g)) (P:s.heap.FunFrames z (l::g)) (hf:l.frame=aa L) (S:s.heap.get? e=aa w) (I:w.data=.fields G) (Y:w.dict=ae) (v:1<G.size)(h:∀K T,Kp (fz (l::g)) (λb=>b=e) s.heap K->oz K e T w.cls .none->s.heap.objs.size<=T->Q () {s with heap:=K}):aq M A (do let a <-frameOf l;let r <-entryPlaceOf L Pq;let b <-EntryCells.newEntry B a .none (cP L) .none r;ka (.ref e) 1 b) (λ_ Z=>aq M A (setFlight (.ref e) ae) Q E Z) E s:=by
 have y:e∉(l::g).filterMap (·.frame):=λhm=>by obtain⟨_,o,F,X⟩:=P.mem hm;rw[S]at F;injection F with F;subst F;exact X G I
 refine ap (wpAny_frameOf_fun lB P hf λc d=>?_);refine ap (wpAny_entryPlaceOf λr W=>?_);unfold EntryCells.newEntry newFields;refine ap (jI ?_ (W.sizeOk5 _ _ _ _ _));have n:c.get? e=aa w:=(d.2.1 e y).trans S;have m:=bh (h:=c) {cls:=.type "traceback",dict:=ae,data:=.fields ([B,.ref L,.none,cP L,.none]++(if r.isEmpty then df 6 Value.none else r)).toArray} n;refine o0 m I v ?_;have C:c.objs.size≠e:=k9 (bo n);have j:=tK I (·.setIfInBounds 1 (Value.ref c.objs.size));have i:=nh (mi (·.setIfInBounds 1 (Value.ref c.objs.size))) m (AB j);have p:=(oW (c.push {cls:=.type "traceback",dict:=ae,data:=.fields ([B,.ref L,.none,cP L,.none]++(if r.isEmpty then df 6 Value.none else r)).toArray}) (mi (·.setIfInBounds 1 (Value.ref c.objs.size))) (fF C)).trans (cf c rfl);unfold setFlight;refine ap (qC i j (x:=.ref c.objs.size) (by simp[v]) ?_);rw[if_pos (show(Value.ref c.objs.size != Value.none)=ai from by simp)];refine o0 p rfl (by simp only[bJ,cK,dE,gT] <;> lia) (h _ c.objs.size ?_ ?_ ?_)
 .have keep:∀b o,b≠e->c.get? b=aa o ->
    (((c.push {cls:=.type "traceback",dict:=ae,data:=.fields ([B,.ref L,.none,cP L,.none]++(if r.isEmpty then df 6 Value.none else r)).toArray}).update e (mi (·.setIfInBounds 1 (Value.ref c.objs.size)))).update c.objs.size (mi (·.setIfInBounds 3 ((ae:Option af).elim Value.none λf=>cP f)))).get? b=aa o:=λb o D u=>by
   have J:c.objs.size≠b:=k9 (bo u);rw[oW _ _ J,oW _ _ (fF D)];exact bh _ u
  refine⟨λb o u O H=>keep b o H ((d.2.1 b O).trans u),λb o u O H=>?_,λb o u=>?_⟩
  .obtain⟨N,q⟩:=d.2.2 b o u;exact⟨N,keep b _ H q⟩
  .by_cases D:b=e
   .subst D;exact⟨_,(oW _ _ C).trans i⟩
   .obtain⟨N,q⟩:=d.2.2 b o u;exact⟨_,keep b _ D q⟩
 .refine⟨_,_,_,_,(oW _ _ C).trans i,Obj.cls_mapFields _ _,⟨j,by rw[Jz];exact Y⟩,by simp[v],C,nh _ p (AB (tK rfl _)),tK rfl _,by first | (simp;done) | (rcases W with rfl|⟨_,_,_,_,_,_,_,rfl⟩ <;> simp)⟩
 .exact ln d.1.symm
theorem Mo{f:aB}{d:Env}{a:List Env}{L e:af}{c:ah}{Q:Unit->ao->Prop}(o:A.frames=aa (d::a))(q:s.heap.FunFrames f (d::a))(i:d.frame=aa L)(p:Made s.heap e c)(h:∀g T,Kp (fz (d::a)) (λb=>b=e) s.heap g->oz g e T c .none->s.heap.objs.size<=T->Q () {s with heap:=g}):aq M A (leaving d (.ref e)) Q E s:=by obtain⟨v,u,j,r,⟨l,n⟩,m⟩:=p;subst r;unfold leaving noteFrame;simp only[i];refine ap (ap (qC j l m ?_));rw[if_neg (by decide)];exact Cs o q i j l n (nj.mp m).1 h
theorem LS{n:aB}{i:Env}{d:List Env}{L e T:af}{c:ah}{Q:Unit->ao->Prop}(I:A.frames=aa (i::d))(O:s.heap.FunFrames n (i::d))(w:i.frame=aa L)(K:oz s.heap e T c .none)(h:∀m p,Kp (fz (i::d)) (λb=>b=e\/b=T) s.heap m->oz m e p c .none->s.heap.objs.size<=p->Q () {s with heap:=m}):aq M A (noteFrame (.ref e) i) (λ_ G=>aq M A (setFlight (.ref e) ae) Q E G) E s:=by
 obtain⟨X,v,Y,F,x,W,⟨y,D⟩,C,H,r,j,B⟩:=K;subst W;unfold noteFrame;simp only[w];refine ap (qC x y C ?_);rw[if_pos (show(Value.ref T != Value.none)=ai from by simp)];refine ap (qC r j B ?_);rw[if_neg (show ¬((Value.none == cP L)=ai)from by simp[cP])];refine ap (o0 r j (nj.mp B).1 ?_);have a:∀b,b≠T->(s.heap.update T (mi (·.setIfInBounds 3 Value.none))).get? b=s.heap.get? b:=λb f=>oW _ _ (fF f);have g:∀b o,s.heap.get? b=aa o->(∀v,o.data≠.fields v)->b≠T:=λb o f u q=>by rw[q,r]at f;injection f with f;subst f;exact u F j
 refine Cs I (O.of_keeps λb o f u=>⟨o,(a b (g b o f u)).trans f,rfl⟩) w ((a e (fF H)).trans x) y D (nj.mp C).1 λm p k P N=>?_;have J:Kp (fz (i::d)) (λb=>b=T) s.heap (s.heap.update T (mi (·.setIfInBounds 3 Value.none))):=by
  refine⟨λb o f _ l=>(a b l).trans f,λb o f _ l=>⟨o.slots,(a b l).trans f⟩,λb o f=>?_⟩;by_cases l:b=T
  .subst l;exact⟨_,nh _ r (AB (tK j _))⟩
  .exact⟨o,(a b l).trans f⟩
 refine h m p ((J.trans k).imp (λ_ z=>z) λb o _ z=>z.symm) P ?_;have S:(s.heap.update T (mi (·.setIfInBounds 3 Value.none))).objs.size<=p:=N;rwa[FI]at S
theorem NU{f:aB}{d:Env}{a:List Env}{L e T:af}{c:ah}{Q:Unit->ao->Prop}(j:A.frames=aa (d::a))(m:s.heap.FunFrames f (d::a))(n:d.frame=aa L)(l:oz s.heap e T c .none)(h:∀g i,Kp (fz (d::a)) (λb=>b=e\/b=T) s.heap g->oz g e i c .none->s.heap.objs.size<=i->Q () {s with heap:=g}):aq M A (leaving d (.ref e)) Q E s:=by unfold leaving;exact ap (LS j m n l h)
end
def cH(P:aL)(w:aE):fK:=λb H s E e s'=>∃(a T:af) (c:ah) (d:Hp),e=.ref a/\s'.os=s.os/\l7 s'.gens/\Un (fz b) [] H d s.heap s'.heap/\cM P w d s'.heap/\oz s'.heap a T c .none /\
 (s.heap.get? a=ae/\s.heap.get? T=ae/\d a=ae/\d T=ae)/\E c ae d
theorem GC{P:aL}{w:aE}{H:Hp}{h:aB}{a:af}{o:HO}(x:ca P w H h a o):∃u,h.get? a=aa u:=by
 cases o with
 |lst c=>obtain⟨_,_,_,_,e⟩:=x;exact⟨_,e⟩
 |tup c=>obtain⟨_,_,_,⟨o,e,_⟩,_⟩:=x;exact⟨_,e⟩
 |dK b=>obtain⟨_,_,_,_,o,_,_,e,_⟩:=x;exact⟨_,e⟩
 |dT b=>obtain⟨_,_,_,_,o,_,_,e,_⟩:=x;exact⟨_,e⟩
 |dN b=>obtain⟨_,_,_,_,o,_,_,e,_⟩:=x;exact⟨_,e⟩
 |set S n=>obtain⟨o,_,_,_,e,_⟩:=x;exact⟨_,e⟩
 |ins C m fs=>obtain⟨_,_,_,e,_⟩:=x;exact⟨_,e⟩
 |own y=>exact x
 |xd fs=>obtain⟨_,⟨_,_,_,e,_⟩,_⟩:=x;exact⟨_,e⟩
 |rng j l=>obtain⟨_,_,_,e⟩:=x;exact⟨_,e⟩
 |frz i u=>obtain⟨e,_⟩:=x;exact⟨_,e⟩
 |tbl g=>obtain⟨_,e,_⟩:=x;exact⟨_,e⟩
 |met f y=>exact⟨_,x⟩
 |ext d=>obtain⟨_,e,_⟩:=x;exact e
theorem IH{P:aL}{w:aE}{H:Hp}{h:aB}{a:af}(x:cM P w H h)(e:h.get? a=ae):H a=ae:=by
 cases q:H a with
 |none=>rfl
 |some u=>obtain⟨o,z⟩:=GC (x a u q);rw[e]at z;cases z
theorem sP{fs:List af}{H c:Hp}{h b:aB}{a:af}(u:Un fs [] H c h b)(e:b.get? a=ae):h.get? a=ae:=by
 cases q:h.get? a with
 |none=>rfl
 |some o=>obtain⟨d,z⟩:=u.there a o q (by simp);rw[e]at z;cases z
theorem Ei{fs a:List af}{H p:Hp}{h l j:aB}{X:af->Prop}(u:Un fs [] H p h l)(k:Kp a X l j)(r:∀b o,h.get? b=aa o->b∈a->b∈fs)(g:∀b o,h.get? b=aa o->¬X b):Un fs [] H p h j where
 keep:=λb o e n d c=>k.keep b o (u.keep b o e n d c) (λz=>d (r b o e z)) (g b o e)
 slot:=λb o e n d c=>by
  obtain⟨q,m⟩:=u.slot b o e n d c;by_cases i:b∈a
  .obtain⟨f,s⟩:=k.slot b _ m i (g b o e);exact⟨f,s⟩
  .exact⟨q,k.keep b _ m i (g b o e)⟩
 free:=u.free
 there:=λb o e c=>let ⟨o',e'⟩:=u.there b o e c;k.there b o' e'
 tups:=u.tups
 frzs:=u.frzs
 tbls:=u.tbls
theorem C7{P:aL}{w:aE}{fs:List af}{H:Hp}{h d:aB}{X:af->Prop}(x:cM P w H h)(k:Kp fs X h d)(f:∀b∈fs,H b=ae)(g:∀b,X b->H b=ae):cM P w H d:=λb u e=>
 (x b u e).stay (λc v a q=>k.keep c v q (λz=>by
   have:=f c z;rcases a with rfl|a
   .rw[e]at this;cases this
   .rw[a]at this;cases this) λz=>by
   have:=g c z;rcases a with rfl|a
   .rw[e]at this;cases this
   .rw[a]at this;cases this) (λ_ q=>q) λ_ _ q=>q
section
variable{P:aL}{w:aE}{K:ax}{n:Str->Option ah}{l:aB}{N:List Str}{j:Str}{g:cU}{f:af}{p:ah}{A:aS}{i:List Env}{d:ao}{m:Hp}{E:XK}
theorem eC:qf (cH P w) (h8 (cH P w) P w K n l N j g f p A i d m E) E:=λag Y H s e s' I h=>by
 obtain⟨a,T,c,X,rfl,J,M,un,B,Q,⟨S,W,G,Z⟩,O⟩:=h;have r:=I.call' (s':=s') (ch:=[]) J un B M (λb z=>absurd z (by simp));refine NU (L:=d.heap.objs.size) I.ok.frames r.stack rfl Q λlC F k C y=>?_;have ou:(h8 (cH P w) P w K n l N j g f p A i d m E).ex=[]:=rfl;have v:d.heap.get? a=ae:=sP I.base S;have D:d.heap.get? T=ae:=sP I.base W;have x:d.heap.get? F=ae:=sP r.base (wN y);have u:∀b o,d.heap.get? b=aa o->b≠a/\b≠T:=λb o e=>⟨(by rintro rfl;rw[v]at e;cases e),(by rintro rfl;rw[D]at e;cases e)⟩
 refine⟨a,F,c,X,rfl,r.os,r.bare,Ei r.base k (λb o e z=>?_) (λb o e z=>z.elim (u b o e).1 (u b o e).2),C7 r.hok k r.stkFree (λb z=>by rcases z with rfl|rfl <;> assumption),C,⟨v,x,G,r.hok.fresh y⟩,O⟩;rcases br.mp (I.stkSub b z)with q|q
 .exact absurd (bo e) (by rw[q];exact eO _)
 .exact q
end
section
variable{X:Cx}{E:XK}{pin:List Nat}{e:az}{de:ak->R PV}{x:Str}{C:af}{i:List ah}{d f B:String}{l g j:Pos}
def Bb(X:Cx)(E:XK):Prop:=∀(n:List (af×Obj)) (m:St) (H:Hp) (s:ao) (a:af) (c:ah) (h:aB),Inv X n m H s->(∀b o,s.heap.get? b=aa o->h.get? b=aa o)->Made h a c->s.heap.get? a=ae->(E c ae H)->X.xe (.ref a) {s with heap:=h}
def B8(c:ah)(de:ak->R PV):ak->R aO:=λb=>(de b).bind λ_ a=>.er c a
theorem LD{h c:aB}{e:af}{a:ah}{b:List ah}(m:Heap.MadeExcOf h c e a b):Made c e a:=by obtain⟨t,n,_,_⟩:=m.there;exact⟨_,_,n,rfl,⟨rfl,rfl⟩,rfl⟩
theorem LC(hx:Bb X E)(hc:X.calm=ai)(O:OwnCls x C i d X.mg X.base)(Q:ExcBaseFacts B d f i)(he:DE X.nox E0 e de)(hg:Gl X x:=by rfl)(hd:(x==("__debug__":Str))=aj:=by decide)(M:aP [e] X.env=[(aj,aM e X.env)]:=by rfl):DS X E pin (.Raise (aa (.Call (.Name x l) [e] [] g)) ae j) (B8 (.ref C) (λw=>dQ (de w))):=λF S w n H D Z q=>Bx.mk λP s I=>by
 obtain⟨W,N,nm,qn,bs,hdct,sn,sub,ab,col,dd,k0,k1,k2,k3,k5,mN,hC,hN,J,T⟩:=O.obj;refine wpAny_Raise_call_subT (C:=C) (nm:=nm) (q:=qn) (N:=N) (bs:=bs) (bm:=W) (hdct:=hdct) (sn:=sn) (sub:=sub) (ab:=ab) (col:=col) (dd:=dd) (k0:=k0) (k1:=k1) (k2:=k2) (k3:=k3) (k5:=k5)
  Q (mN:=mN) (T.hasType Q.hasBase) (I.ok.hd hc) (by rw[M];rfl) J (zX I hg O.bound ⟨rfl,?_⟩ hd)
 have q2:Ok X.K E0 n F S H (de w) (λ_ b r o p=>jh X.K E pin n r o p (.er (.ref C) b) D):=by
  have q:jh X.K E pin n F S H ((dQ (de w)).bind λ_ b=>.er (.ref C) b) D:=q;cases K:de w with
  |no=>rw[K]at q;exact q.elim
  |er c A=>rw[K]at q;exact q.elim
  |ok v A=>rw[K]at q;exact λF' S' H' r' g'=>q.from g' (i9.refl _ _)
 rw[M];refine Am (eP (tu (eP ((he F S w n H (λv p=>∃r o b,aQ X.K r o b n p/\jh X.K E pin n r o p (.er (.ref C) b) D) Z (q2.imp λv b r o p L g1 h v' rv=>⟨r,o,b,L,h⟩)).run P s (I.wish _)) (λu Y ⟨v,p,y,L,r,o,b,G,ok⟩=>?_) λ_ _ z=>z.elim)) (λ_ _ z=>z) λ_ _ z=>z);have y:=y.unwish;refine wT ⟨rfl,(by show 1<=aX;decide),y.bk _ _ hC,hN.keeps y.bk,T.keeps y.bk,λh' a m=>?_⟩;exact hx P n p Y a (.ref C) h' y m.keeps (LD m) m.new (ok ae r o n p G (bv.refl ..) (i9.refl _ _))
end
section
variable{P:aL}{w:aE}{K:ax}{m:Str->Option ah}{j:aB}{N:List Str}{i:Str}{g:cU}{f:af}{n:ah}{A:aS}{h:List Env}{d:ao}{l:Hp}{E:XK}
theorem Hn:Bb (h8 (cH P w) P w K m j N i g f n A h d l E) E:=λM D H s a c B I G F new J=>by
 have p:Inv _ M D H {s with heap:=B}:=I.kept (t':=s.toks) G;refine Mo (s:={s with heap:=B}) (L:=d.heap.objs.size) I.ok.frames p.stack rfl F λO C k x v=>?_;have r:d.heap.get? a=ae:=sP I.base new;have u:d.heap.get? C=ae:=sP p.base (wN v);have y:H a=ae:=IH I.hok new;refine⟨a,C,c,H,rfl,p.os,p.bare,Ei p.base k (λb o e z=>?_) (λb o e z=>by rw[show b=a from z,r]at e;cases e),C7 p.hok k p.stkFree (λb z=>by rw[show b=a from z];exact y),x,⟨r,u,y,p.hok.fresh v⟩,J⟩;rcases br.mp (I.stkSub b z)with q|q
 .exact absurd (bo e) (by rw[q];exact eO _)
 .exact q
end
def XP(X:Cx)(g:List (af×Obj))(d:St)(h:ah->Hp->Prop)(e:ah)(f:ao):Prop:=∃a b,Inv X g d b a/\cH X.prog X.w X.stack b a (λc _ i=>h c i) e f
section
variable{X:Cx}{K:ax}
variable{E:XK}{e:az}{de:ak->R PV}{a:Pos}{y:Str}
def oj(b:List PV)(y:PV):Option PV:=(cV y).bind λv=>(ig b).map λc=>.int (c.countP λz=>cZ z v)
def qj(b:List PV)(y:PV):Option PV:=(cV y).bind λv=>(ig b).bind λc=>(c.findIdx? λz=>cZ z v).map λj=>.int j
end
theorem Hk(c:Nat)(x:Tx):uU [c] x=x.contains c:=by unfold uU;have:=StrLaws.found_one (tS x) c;rw[jy]at this;rw[show(tS [c])=⟨#[c]⟩from rfl,this];simp[List.contains_eq_mem]
section
variable{X:Cx}{K:ax}
def PM(K:ax)(r:V->List V->Hp->VK->Prop)(f:Tx->List PV->Option PV):Prop:=∀(F:af->Prop) (H:Hp) (x:Tx) (b:List PV) (c:List V) (Q:VK) (pv:PV),x.length<=cx->a_ K H F b c->f x b=aa pv->(∀w d a,Al F d H a->aN K a d pv w->Q w a)->r (tV x) c H Q
def ze:PV->Option Tx
 |.str x=>aa x
 |_=>ae
def sd(f:Tx->List PV->Option PV)(d:ak->R PV)(i:ak->R (List PV)):ak->R PV:=λc=>(d c).bind λx a=>(a6 (ze x) a).bind λy a=>(i a).bind λg b=>a6 (f y g) b
variable{E:XK}{o e:az}{g:List az}{d:ak->R PV}{i:ak->R (List PV)}{b:Str}{c a:Pos}{j:String}{r:V->List V->Hp->VK->Prop}{f:Tx->List PV->Option PV}
theorem J9(n:PySem.Slot "str" b j)(T:typeOf (.builtin j)=pure (.type "method_descriptor"))(hm:wJ X j r)(hp:PM X.K r f)(ho:DE X E o d)(ha:DA X E (e::g) i)(Y:ni o b X.env (aM o X.env)=aM o X.env:=by rfl)(J:((dA a (aP (e::g) X.env)).all (λx=>!x.1)&&(qz a (qA [] X.env)).all (λx=>x.1.isSome)&&decide ((e::g).length+([]:List jH).length+(if([]:List jH).isEmpty then 0 else 1)<30))=ai:=by rfl)(W:(c.endLine == a.line)=ai:=by rfl) (hs:aP (e::g) X.env=(aj,aM e X.env)::aP g X.env:=by rfl) (L:(dA a (aP g X.env)).any (·.1)=aj:=by rfl):DE X E (.Call (.Attribute o b c) (e::g) [] a) (sd f d i):=λF S D s H Q N h=>by
 refine bY (zI PySem.F.plainAttrs_str n T hm bA ge Y J W hs L) (ho F S D s H _ N ((Ok.bind h).imp λx m C A B P g1 q v M=>?_));cases x <;> first|exact(show False from q).elim|skip
 rename_i y;obtain⟨rfl,Z⟩:=M;refine⟨rfl,?_⟩;have q:Ok X.K E s C A B ((i m).bind λG l=>a6 (f y G) l) _:=q;refine ha C A m s B _ P ((Ok.bind q).imp λz l F2 S2 H2 O g2 p I gD=>?_);cases e:f y z with
 |none=>rw[e]at p;exact p.elim
 |some pv=>rw[e]at p;exact hp F2 H2 y z I Q pv Z gD e λw F' H' al u=>p F' S2 H' (O.al al) al.grow w u
end
section
variable{X:Cx}{E:XK}{f:cU}{x:Str}{j:List Str}{g:List Nat}
variable{d:List Nat}
theorem Ht{F:af->Prop}{S:Nat->af->Prop}{r:ak}{m:St}{H:Hp}{D:jx}{i:Nat}{dn:ak->R PO}(Y:i∉d)(rl:aQ X.K F S r m H)(h:jh X.K E d m F S H (bG i (dF dn) r) D):Ok X.K E m F S H (dn r) (λv _ u B q=>∀a l,eJ X.K q u v a l->(∀b,l b->H b=ae/\¬u b/\¬U B b/\∃o,q b=aa o/\d8 o)->D.nx (m.set i (aa (.ref a))) q):=by
 unfold bG dF at h;cases A:dn r with
 |no=>rw[A]at h;exact h.elim
 |er c M=>rw[A]at h;exact λx u B q Q g'=>h x u B m q Q g' (i9.refl _ _)
 |ok v L=>
  rw[A]at h;intro K J s P p a l T I;cases v with
  |dK n=>exact h.elim
  |lls iV=>exact h.elim
  |ins C fs=>exact h.elim
  |dT n=>exact h.elim
  |dN n=>exact h.elim
  |inl C fs y G=>exact h.elim
  |lst G=>
   have hN:∀b,l b->¬U J b/\∃o,s b=aa o:=λb z=>let ⟨_,_,x3,o,x4,_⟩:=I b z;⟨x3,o,x4⟩
   obtain⟨⟨N,Z,W⟩,hS⟩:=T;have g2:bv (U S) (U J) F (λb=>K b\/l b) H s:=⟨λb z=>.inl (p.fro b z),p.keep,p.there,λb z=>z.elim (p.fnew b) λw=>.inr (.inl (I b w).1),p.onew⟩
   have O:aN X.K s (λb=>K b\/l b) (.lst G) (.ref a):=⟨a,N,rfl,.inl Z,.inr ((hS a).mpr rfl),a_.mono (λ_ z=>.inl z) (λ_ _ _ z=>z) (λ_ _ z _=>z) _ _ W⟩
   exact h _ _ _ s ((P.more hN).set O) (g2.trans (bv.less i)) (i9.set Y)
end
def eU(a:List Nat):Nat->ak->Bool
 |_,[]=>ai
 |i,.own c::b=>a.contains i&&ga c&&eU a (i+1) b
 |i,_::b=>eU a (i+1) b
theorem nU{c:List Nat}:∀{b:ak}{k:Nat},eU c k b=ai->∀(i:Nat) a,b[i]?=aa (.own a)->k+i∈c/\ga a=ai
 |[],_,_,i,a,e=>by simp at e
 |.own q::b,k,h,0,a,e=>by simp only[List.getElem?_cons_zero,Option.some.injEq,Slot.own.injEq]at e;subst e;simp only[eU,fU]at h;exact⟨by simpa using h.1.1,h.1.2⟩
 |.own q::b,k,h,i+1,a,e=>by simp only[eU,fU]at h;have:=nU (k:=k+1) h.2 i a (by simpa using e);rwa[FJ,o4]at this
 |.val q::b,k,h,0,a,e=>by simp at e
 |.none::b,k,h,0,a,e=>by simp at e
 |.val q::b,k,h,i+1,a,e=>by have:=nU (k:=k+1) (by simpa[eU]using h) i a (by simpa using e);rwa[FJ,o4]at this
 |.none::b,k,h,i+1,a,e=>by have:=nU (k:=k+1) (by simpa[eU]using h) i a (by simpa using e);rwa[FJ,o4]at this
def bH(len:Nat)(b:List Nat)(g:ak->R Slot):ak->R Slot:=λa=>if a.length=len/\eU b 0 a=ai then g a else .no
theorem d4{q:fK}{P:aL}{w:aE}{K:ax}{o:Str->Option ah}{g:aB}{x:Str}{c:bi}{N b:List Str}{k n:Nat}{d:ak->R aO}{pin:List Nat}(D:c7 K o x c)(G:cJ N b (bd c))(y:N.length=b.length+n)(B:∀(kV p u:ah) (F:Option af) (l C:ah) (m:List ah),m.length=b.length->eQ (jl x x (jw c) (gg c) (bd c) .none kV p u F l C) ⟨m,[]⟩=pure (b.zip m))(v:∀(f:af) (l:ah) (A:aS) (j:List Env) (s:ao) (H:Hp) (E:XK),Room k (A.deeper (jj x (bd c) s.heap.objs.size f l))->g6 (h8 q P w K o g N x (bd c) f l A j s H E) E pin (gg c) d):c8 q P w K o g x (k+1) b (ce K (bH b.length pin (bL n d))):=by
 have no:∀{a},bH b.length pin (bL n d) a≠.no->a.length=b.length/\eU pin 0 a=ai:=λ{a} h=>by
  unfold bH at h;by_cases z:a.length=b.length/\eU pin 0 a=ai
  .exact z
  .rw[if_neg z]at h;exact absurd rfl h
 exact O4 D G y B (λa h=>(no h).1) (λa h i r e=>by have:=nU (no h).2 i r e;rwa[tL]at this) (λa h=>by unfold bH;rw[if_pos (no h)]) v
theorem JT{f:af}{r:gw}{u:fK}{P:aL}{w:aE}{K:ax}{q:Str->Option ah}{j:aB}{x a:Str}{g:bi}{N c:List Str}{k n:Nat}{d:ak->R aO}{pin:List Nat}(J:n_ K x a g f r)(I:cJ N c (bd g))(C:N.length=c.length+n)(D:∀(kV p y:ah) (G:Option af) (m F:ah) (o:List ah),o.length=c.length->eQ (jl x a (jw g) (gg g) (bd g) .none kV p y G m F) ⟨o,[]⟩=pure (c.zip o))(B:∀(f:af) (m:ah) (A:aS) (l:List Env) (s:ao) (H:Hp) (E:XK),Room k (A.deeper (jj a (bd g) s.heap.objs.size f m))->g6 (h8 u P w K q j N a (bd g) f m A l s H E) E pin (gg g) d):jU P w K q j u (k+1) f r c (ce K (bH c.length pin (bL n d))):=by
 have no:∀{b},bH c.length pin (bL n d) b≠.no->b.length=c.length/\eU pin 0 b=ai:=λ{b} h=>by
  unfold bH at h;by_cases z:b.length=c.length/\eU pin 0 b=ai
  .exact z
  .rw[if_neg z]at h;exact absurd rfl h
 exact Dd J I C D (λb h=>(no h).1) (λb h i v e=>by have:=nU (no h).2 i v e;rwa[tL]at this) (λb h=>by unfold bH;rw[if_pos (no h)]) B
theorem Ex{P:List ah->Prop}(h:∀a,P [a])(c:List ah)(d:c.length=1):P c:=by
 cases c with
 |nil=>cases d
 |cons a r=>cases r with
  |nil=>exact h a
  |cons b r=>cases d
theorem EW{P:List ah->Prop}(h:∀a b,P [a,b])(c:List ah)(d:c.length=2):P c:=by
 cases c with
 |nil=>cases d
 |cons a r=>exact Ex (P:=λr=>P (a::r)) (h a) r (xy d)
theorem Cg{P:List ah->Prop}(h:∀a b c,P [a,b,c])(d:List ah)(f:d.length=3):P d:=by
 cases d with
 |nil=>cases f
 |cons a r=>exact EW (P:=λr=>P (a::r)) (h a) r (xy f)
theorem EC{P:List ah->Prop}(h:∀a b c d,P [a,b,c,d])(f:List ah)(g:f.length=4):P f:=by
 cases f with
 |nil=>cases g
 |cons a r=>exact Cg (P:=λr=>P (a::r)) (h a) r (xy g)
theorem NT{P:List ah->Prop}(h:∀a b c d e,P [a,b,c,d,e])(f:List ah)(g:f.length=5):P f:=by
 cases f with
 |nil=>cases g
 |cons a r=>exact EC (P:=λr=>P (a::r)) (h a) r (xy g)
theorem P5{d:gw}{c:List Str}(h:∀a,eQ d ⟨[a],[]⟩=pure (c.zip [a]))(b:List ah)(f:b.length=1):eQ d ⟨b,[]⟩=pure (c.zip b):=Ex (P:=λb=>eQ d ⟨b,[]⟩=pure (c.zip b)) h b f
theorem PJ{f:gw}{d:List Str}(h:∀a b,eQ f ⟨[a,b],[]⟩=pure (d.zip [a,b]))(c:List ah)(g:c.length=2):eQ f ⟨c,[]⟩=pure (d.zip c):=EW (P:=λc=>eQ f ⟨c,[]⟩=pure (d.zip c)) h c g
theorem PZ{g:gw}{f:List Str}(h:∀a b c,eQ g ⟨[a,b,c],[]⟩=pure (f.zip [a,b,c]))(d:List ah)(i:d.length=3):eQ g ⟨d,[]⟩=pure (f.zip d):=Cg (P:=λd=>eQ g ⟨d,[]⟩=pure (f.zip d)) h d i
theorem Qd{i:gw}{g:List Str}(h:∀a b c d,eQ i ⟨[a,b,c,d],[]⟩=pure (g.zip [a,b,c,d]))(f:List ah)(j:f.length=4):eQ i ⟨f,[]⟩=pure (g.zip f):=EC (P:=λf=>eQ i ⟨f,[]⟩=pure (g.zip f)) h f j
theorem PX{i:gw}{g:List Str}(h:∀a b c d e,eQ i ⟨[a,b,c,d,e],[]⟩=pure (g.zip [a,b,c,d,e]))(f:List ah)(j:f.length=5):eQ i ⟨f,[]⟩=pure (g.zip f):=NT (P:=λf=>eQ i ⟨f,[]⟩=pure (g.zip f)) h f j
theorem ji{P:aL}{w:aE}{X:Cx}:qf (cH P w) X E0:=λ_ _ _ _ _ _ _ h=>by obtain⟨a,T,c,b,_,_,_,_,_,_,_,z⟩:=h;exact z.elim
theorem d7:dW "len"=aa (.builtin "len"):=by decide +kernel
theorem zY:dW "all"=aa (.builtin "all"):=by decide +kernel
theorem su:dW "sorted"=aa (.builtin "sorted"):=by decide +kernel
theorem sB:dW "isinstance"=aa (.builtin "isinstance"):=by decide +kernel
theorem Ma:dW "int"=aa (.type "int"):=by decide +kernel
theorem LZ:dW "bool"=aa (.type "bool"):=by decide +kernel
theorem Kl:dW "str"=aa (.type "str"):=by decide +kernel
theorem Cd:dW "list"=aa (.type "list"):=by decide +kernel
theorem rW:dW "tuple"=aa (.type "tuple"):=by decide +kernel
theorem Kb:dW "set"=aa (.type "set"):=by decide +kernel
def lW:az->Bool
 |.Starred _ _=>ai
 |_=>aj
theorem kE{e:az}{es:List az}{env:Env}(h:lW e=aj):aP (e::es) env=(aj,aM e env)::aP es env:=by
 cases e <;> first|rfl|cases h
section
variable{X:Cx}{E:XK}{e:az}{a:List az}{d:ak->R PV}{b:ak->R (List PV)}{c:ak->R (List bZ)}
theorem aK(g:DE X E e d)(f:DA X E a b)(h:lW e=aj:=by rfl):DA X E (e::a) (au d b):=KA g f (kE h)
theorem aY(g:DE X E e d)(f:DG X E a c)(h:lW e=aj:=by rfl):DG X E (e::a) (gV d c):=HR g f (kE h)
end
def vV:List ah:=[.type "ValueError",.type "Exception",.type "BaseException",.type "object"]
theorem NY{K:ax}{h:aB}{C:af}{B:List ah}{nw:String}(X:K.In h)(q:qS K C B nw=ai):∃i N w p bs E j a G c F D A z y x g,h.get? C=aa (excClassObj w p C N bs i E j a G c F D A z y x nw)/\h.Ns N g/\g "__init__"=ae/\OwnTail h B i:=by
 unfold qS at q;split at q
 case h_2=>cases q
 case h_1 d0 cdata slots look=>
  split at q
  case h_2=>cases q
  case h_1 C2 tl s0 s1 s2 s3 nn s5 em es=>
   rw[fU,fU,fU,fU,fU]at q;obtain⟨⟨⟨⟨⟨v,u⟩,f⟩,s⟩,b⟩,r⟩:=q;have o:=beq_iff_eq.mp v;have n:=beq_iff_eq.mp u;have d:=beq_iff_eq.mp r;subst o n;cases cdata;dsimp only at em f b d;subst em;have m:=FK _ |>.mp f
   subst m;have l:slots=#[s0,s1,s2,s3,aa (.builtin nn),s5]:=by cases slots;exact congrArg Array.mk es
   subst l;exact⟨tl,_,_,_,_,_,_,_,_,_,d0,s0,s1,s2,s3,s5,_,X _ _ look,Heap.Ns.of_isNs (PySem.W.isNs_of_in X b),PySem.W.nsMap_none_of_in X b d,PySem.W.tail_of_in X s⟩
theorem HY{K:ax}{h:aB}{a:Str->Option ah}{x:Str}{C:af}{B:List ah}{nw:String}(X:K.In h)(e:a x=aa (.ref C))(q:qS K C B nw=ai):OwnCls x C B nw a h:=⟨e,NY X q⟩
def subB(K:ax)(D C:af):Bool:=match K.lookup C with
 |some ⟨_,_,.cls a,_⟩=>a.mro.contains (.ref D)
 |_=>aj
def Dg(K:ax)(C:af):Bool :=
 wR K (.ref C) "__getattribute__" == aa (aa (.builtin "BaseException.__getattribute__"))&&wR K (.ref C) "__getattr__" == aa ae&&wR K (.ref C) "__class__" == aa (aa (.builtin "object.__class__")) &&
 PySem.W.specialIn K (.builtin "object.__class__") "__get__" == aa (aa (.builtin "getset_descriptor.__get__"))&&PySem.W.takesIn K (.builtin "object.__class__") == aa ai&&PySem.W.mroIn K C (.type "object") == aa ai&&PySem.W.mroIn K C (.type "BaseException") == aa ai&&(PySem.W.clsIn K C).isSome
def xN(K:ax):Bool:=K.all λp=>match p.2.cls with
 |.type t=>t != "list"
 |_=>ai
theorem Eg{a:af}{o:Obj}:∀{K:ax},K.lookup a=aa o->(a,o)∈K
 |[],e=>by cases e
 | (b,u)::K,e=>by
  rw[jJ]at e;cases q:a == b with
  |true=>rw[q]at e;cases e;rw[beq_iff_eq.mp q];exact jD ..
  |false=>rw[q]at e;exact jE _ (Eg e)
theorem C_{K:ax}{H:Hp}{F:af->Prop}:∀a:List Int,a_ K H F (a.map .int) (a.map V.int)
 |[]=>rfl
 |x::a=>⟨.int x,a.map V.int,rfl,rfl,C_ a⟩
theorem Nl{K:ax}{H:Hp}{a:af}{b:List V}(h:xN K=ai)(s:bP K H a b):Rd H a (.lst b):=by
 rcases s with s|⟨o,d,n,c,f,_⟩
 .exact s
 .have:=ke.mp h _ (Eg c);rw[f]at this;simp at this
theorem N6{K:ax}{g:ak->R Slot}{H:Hp}{a:af}{c:List Int}{E:XK}(d:Rd H a (.lst (c.map V.int)))(h:g [.val (.lst (c.map .int))]=.ok (.val (.bl ai)) [.val (.lst (c.map .int))]):ce K g [.ref a] H (λv _=>v=.bl ai) E:=by
 refine⟨λb=>b=a,λ_ _=>False,[.val (.lst (c.map .int))],⟨rfl,λb e=>?_,λi pv e=>?_,λi l e=>?_,λi b z=>z.elim,λi j b z=>z.elim⟩,?_⟩
 .subst e;rcases d with d|⟨o,d⟩ <;> exact⟨_,d⟩
 .cases i with
  |zero=>cases e;exact⟨_,rfl,a,_,rfl,d,rfl,C_ c⟩
  |succ i=>simp at e
 .cases i with
  |zero=>cases e
  |succ i=>simp at e
 .rw[h];exact λv q n p m _ _ f _ _=>f.1
theorem P_{K:ax}{x:Str}{i:Int}{t:Tok}(e:eX K cn x=aa (aa (.int i t))):∃t,eX K cn x=aa (aa (.int i t)):=⟨t,e⟩
theorem P6{K:ax}{x:Str}{l:Tx}{t:Tok}(e:eX K cn x=aa (aa (.str (tS l) t))):∃t,eX K cn x=aa (aa (.str (tS l) t)):=⟨t,e⟩
def dy(K:ax)(x:Str)(a:bi):Prop:=∃f oc g kV h d j b i c,eX K cn x=aa (aa (.ref f))/\K.lookup f=aa ⟨oc,g,.func (jl x x (jw a) (gg a) (bd a) .none kV h d j b i),c⟩/\wW K b x=ai/\tw K (.ref f)=ai
theorem PH{K:ax}{x:Str}{b:bi}{f:af}{oc kV j h d m:ah}{i n:Option af}{g:Array (Option ah)}(a:eX K cn x=aa (aa (.ref f)))(l:K.lookup f=aa ⟨oc,i,.func (jl x x (jw b) (gg b) (bd b) .none kV j h n d m),g⟩)(c:wW K d x=ai) (k:tw K (.ref f)=ai):dy K x b:=⟨f,oc,i,kV,j,h,n,d,m,g,a,l,c,k⟩
theorem dy.at{K:ax}{h:aB}{mg:Str->Option ah}{x:Str}{st:bi}(d:dy K x st)(X:K.In h)(G:h.Ns cn mg):c7 K mg x st:=by obtain⟨f,oc,i,kV,j,g,o,n,m,b,a,l,c,k⟩:=d;exact⟨f,_,nr X G a,Eb l c k⟩
def HG(a:List (aR×PV))(k:aR):Option PV:=(a.find? λb=>decide (b.1=k)).map (·.2)
def vx:PV->Option aR
 |.int i=>aa (.inl i)
 |.str x=>aa (.inr (tS x))
 |_=>ae
section
variable{K:ax}{F:af->Prop}{S:Nat->af->Prop}{d:ak}{f:St}{H:Hp}{i:Nat}{l:List (aR×PV)}{m:List (aR×V)}{a:af}
theorem NC{x:PV}{v:V}{k:aR}(r:aN K H F x v)(e:vx x=aa k):v=kV k:=by
 cases x <;> simp[vx]at e
 .subst e;exact r
 .subst e;exact r.1
theorem aQ.updO{s po':PO}{o':HO}(r:aQ K F S d f H)(e:d[i]?=aa (.own s))(Q:ga s=ai)(I:f[i]?=aa (aa (.ref a)))(P:d8 o')(h:∀B,(∀x v,aN K H F x v->aN K B F x v)->(∀x v,a_ K H F x v->a_ K B F x v)->B a=aa o'->∀L:af->Prop,(∀b,L b↔b=a)->eJ K B F po' a L):aQ K F S (d.set i (.own po')) f (L2.upd H a o')/\bv (U S) (U S) F F H (L2.upd H a o'):=by
 obtain⟨T,J,O⟩:=r.own i s e;rw[I]at J;cases J;have u:=Cr O Q;have D:S i a:=(u a).mpr rfl;have G:∀b,S i b->b=a:=λb z=>(u b).mp z;have C:i<d.length:=(cY.mp e).1;have g:bv (U S) (U S) F F H (L2.upd H a o'):=⟨λ_ z=>z,λb o q n=>by rw[bj (by rintro rfl;exact n ⟨i,D⟩)];exact q,λb o q=>by
  by_cases E:b=a
  .subst E;exact⟨_,bW⟩
  .exact⟨o,by rw[bj E];exact q⟩,λ_ z=>.inl z,λ_ z=>.inl z⟩
 refine⟨⟨by rw[gQ];exact r.len,λb z=>let ⟨o,q⟩:=r.ex b z;g.there b o q,λj pv q=>?_,λj s q=>?_,λj b z=>?_,r.dist⟩,g⟩
 .have p:i≠j:=by rintro rfl;rw[gh C]at q;cases q
  rw[ef p]at q;obtain⟨v,A,y⟩:=r.val j pv q;exact⟨v,A,y.grow g r.fit⟩
 .by_cases p:i=j
  .subst p;rw[gh C]at q;cases q;exact⟨a,I,h _ (λ_ _ z=>z.grow g r.fit) (λ_ _ z=>z.grow g r.fit) bW _ u⟩
  .rw[ef p]at q;obtain⟨c,A,y⟩:=r.own j s q;refine⟨c,A,y.mono (λ_ _ z=>z.grow g r.fit) (λ_ _ z=>z.grow g r.fit) λb o z w=>?_⟩;rw[bj (by rintro rfl;exact p (r.dist i j b D z))];exact w
 .obtain⟨⟨s,A⟩,y,o,N,M⟩:=r.foot j b z;by_cases p:i=j
  .subst p;rw[G b z];exact⟨⟨_,gh C⟩,by rw[<-G b z];exact y,_,bW,P⟩
  .exact⟨⟨s,by rw[ef p];exact A⟩,y,o,by rw[bj (by rintro rfl;exact p (r.dist i j b D z))];exact N,M⟩
end
def zN(b:ak)(i:Nat):Option (List (aR×PV)):=match b[i]? with
 |some (.own (.dK a))=>aa a
 |_=>ae
section
variable{X:Cx}{E:XK}{pin:List Nat}{e b c:az}{de D J:ak->R PV}{B:Pos}
def Ek(i:Nat)(D:ak->R PV):ak->R PV:=λd=>(a6 (zN d i) d).bind λ_ d=>(D d).bind λk a=>(a6 (zN a i) a).bind λf a=>a6 ((vx k).bind λk=>HG f k) a
def vE(X:Cx)(E:XK)(m:List az)(d:ak->R (PO×List bZ)):Prop :=
 ∀F S i f H Q,aQ X.K F S i f H->Ok X.K E f F S H (d i) (λp _ h n g=>∀a l j,eJ X.K g h p.1 a l->(∀b,l b->H b=ae/\¬h b/\¬U n b/\∃o,g b=aa o/\d8 o)->iA X.K (f++[aa (.ref a)]) h g p.2 j->Q j g)->nM X m f H Q
theorem iA.app{K:ax}{g:St}{F:af->Prop}{H:Hp}(d:St):∀{l:List bZ}{j:List V},iA K g F H l j->iA K (g++d) F H l j
 |[],_,h=>h
 |.inl _::_,_,⟨v,r,e,a,f⟩=>⟨v,r,e,a,f.app d⟩
 |.inr i::_,_,⟨v,r,e,a,f⟩=>⟨v,r,e,by rw[ir (cY.mp a).1];exact a,f.app d⟩
theorem eJ.stay{K:ax}{O l F i:af->Prop}{H h:Hp}{j:PO}{a:af}{d:af->Prop}(q:eJ K H F j a d)(g:bv O l F i H h)(fit:Fit O F H)(f:∀b,d b->¬F b/\¬O b/\∃o,H b=aa o/\d8 o):eJ K h i j a d/\∀b,d b->¬i b/\¬l b/\∃o,h b=aa o/\d8 o:=by refine⟨q.mono (λ_ _ z=>z.grow g fit) (λ_ _ z=>z.grow g fit) λb o z w=>(g.stay w (f b z).2.1 (f b z).1).1,λb z=>?_⟩;obtain⟨v,u,o,s,r⟩:=f b z;obtain⟨p,n,m⟩:=g.stay s u v;exact⟨n,m,o,p,r⟩
variable{m:List az}{dn:ak->R PO}{C:ak->R (List bZ)}{A:ak->R (PO×List bZ)}
def gN(dn:ak->R PO)(C:ak->R (List bZ)):ak->R (PO×List bZ):=λf=>(dn f).bind λg d=>(C d).bind λh a=>.ok (g,.inr a.length::h) a
theorem IW(w:DN X E e dn)(v:DG X E m C)(u:lW e=aj:=by rfl):vE X E (e::m) (gN dn C):=λF S q i H Q r h=>by refine n8 (iF bA ge (kE u)) (w F S q i H _ r ((Ok.bind h).imp λW d T M O n Y y a K s o=>?_));refine v T M d i O _ n ((Ok.bind y).imp λZ p P L N l G x j I=>?_);obtain⟨f,g⟩:=s.stay G n.fit λb z=>(o b z).2;refine x P L N l (bv.refl ..) a K (.ref a::j) f (λb z=>⟨(o b z).1,g b z⟩) ⟨.ref a,j,rfl,?_,I.app _⟩;rw[l.len,oR (aZ _),Nat.sub_self];rfl
def vK(d:ak->R PV)(A:ak->R (PO×List bZ)):ak->R (PO×List bZ):=λg=>(d g).bind λx f=>(A f).bind λp a=>.ok (p.1,.inl x::p.2) a
theorem BD(y:DE X E e de)(w:vE X E m A)(u:lW e=aj:=by rfl):vE X E (e::m) (vK de A):=λF S l f H Q q h=>by refine n8 (iF bA ge (kE u)) (y F S l f H _ q ((Ok.bind h).imp λx d Z P W g L I v o=>?_));refine w Z P d f W _ g ((Ok.bind I).imp λp j Y O T r K G a N n s i M=>?_);exact G Y O T r (bv.refl ..) a N _ s (λb z=>⟨nV L (i b z).1,(i b z).2⟩) ⟨v,n,rfl,o.grow K g.fit,M⟩
theorem aQ.push{K:ax}{F:af->Prop}{S:Nat->af->Prop}{d:ak}{y:St}{H:Hp}{w:PO}{a:af}{i:af->Prop}(r:aQ K F S d y H)(G:eJ K H F w a i)(x:∀b,i b->¬F b/\¬U S b/\∃o,H b=aa o/\d8 o):aQ K F (λj b=>S j b\/(j=d.length/\i b)) (d++[.own w]) (y++[aa (.ref a)]) H:=by
 have lt:∀j b,S j b->j<d.length:=λj b z=>by obtain⟨⟨p,q⟩,_⟩:=r.foot j b z;exact(cY.mp q).1
 refine⟨by simp[r.len],r.ex,λj pv q=>?_,λj p q=>?_,λj b z=>?_,λj k b g f=>?_⟩
 .by_cases h:j<d.length
  .rw[ir h]at q;obtain⟨v,u,l⟩:=r.val j pv q;exact⟨v,by rw[ir (by rw[<-r.len];exact h)];exact u,l⟩
  .rw[oR ∅]at q;cases s:j-d.length with
   |zero=>rw[s]at q;simp at q
   |succ n=>rw[s]at q;simp at q
 .by_cases h:j<d.length
  .rw[ir h]at q;obtain⟨v,u,l⟩:=r.own j p q;refine⟨v,by rw[ir (by rw[<-r.len];exact h)];exact u,?_⟩;have:(λb=>S j b\/(j=d.length/\i b))=S j:=by funext b;exact propext ⟨λz=>z.elim id λz=>absurd z.1 (cT h),.inl⟩
   rw[this];exact l
  .rw[oR ∅]at q;cases s:j-d.length with
   |zero=>
    rw[s]at q;simp at q;subst q;have M:j=d.length:=∅
    subst M;refine⟨a,by rw[r.len,oR (aZ _),Nat.sub_self];rfl,?_⟩;have:(λb=>S d.length b\/(d.length=d.length/\i b))=i:=by funext b;exact propext ⟨λz=>z.elim (λz=>absurd (lt _ _ z) (eO _)) (·.2),λz=>.inr ⟨rfl,z⟩⟩
    rw[this];exact G
   |succ n=>rw[s]at q;simp at q
 .rcases z with z|⟨rfl,z⟩
  .obtain⟨⟨p,q⟩,l⟩:=r.foot j b z;exact⟨⟨p,by rw[ir (lt j b z)];exact q⟩,l⟩
  .obtain⟨L,N,I⟩:=x b z;exact⟨⟨w,by rw[oR (aZ _),Nat.sub_self];rfl⟩,L,I⟩
 .rcases g with g|⟨rfl,g⟩ <;> rcases f with f|⟨rfl,f⟩
  .exact r.dist j k b g f
  .exact absurd ⟨j,g⟩ (x b f).2.1
  .exact absurd ⟨k,f⟩ (x b g).2.1
  .rfl
theorem aQ.pop{K:ax}{F:af->Prop}{S:Nat->af->Prop}{d:ak}{n:Slot}{h:St}{u:Option V}{H:Hp}(r:aQ K F S (d++[n]) (h++[u]) H):aQ K F (λj b=>S j b/\j<d.length) d h H:=by
 have len:d.length=h.length:=by have:=r.len;simpa using this
 refine⟨len,r.ex,λj pv q=>?_,λj p q=>?_,λj b z=>?_,λj k b l i=>r.dist j k b l.1 i.1⟩
 .have a:=(cY.mp q).1;obtain⟨v,g,f⟩:=r.val j pv (by rw[ir a];exact q);exact⟨v,by rw[ir (by rw[<-len];exact a)]at g;exact g,f⟩
 .have a:=(cY.mp q).1;obtain⟨v,g,f⟩:=r.own j p (by rw[ir a];exact q);refine⟨v,by rw[ir (by rw[<-len];exact a)]at g;exact g,?_⟩;have:(λb=>S j b/\j<d.length)=S j:=by funext b;simp[a]
  rw[this];exact f
 .obtain⟨⟨p,q⟩,f⟩:=r.foot j b z.1;exact⟨⟨p,by rw[ir z.2]at q;exact q⟩,f⟩
def CM{d:Type}:R d->R d
 |.ok s a=>.ok s a.dropLast
 |.er c a=>.er c a.dropLast
 |.no=>.no
def uX(g:ak->R Slot)(A:ak->R (PO×List bZ)):ak->R Slot:=λd=>(A d).bind λp a=>(a6 (if(c9 p.2).Nodup then gu (a++[.own p.1]) p.2 else ae) a).bind λf a=>CM (jR (a++[.own p.1]) p.2 (g f))
theorem Bt{a:ak}{n:Nat}(h:a.length=n+1):∃l x,a=l++[x]/\l.length=n:=by
 refine⟨a.dropLast,a.getLast (by intro z;rw[z]at h;cases h),(List.dropLast_concat_getLast _).symm,by rw[FM,h];rfl⟩
theorem bv.pushed{K:ax}{F s:af->Prop}{S i:Nat->af->Prop}{f H p:Hp}{n:Nat}{h:af->Prop}(g:bv (U λj b=>S j b\/(j=n/\h b)) (U i) F s H p){r:af->Prop}{l:Nat->af->Prop}(a:bv (U l) (U S) r F f H)(d:∀b,h b->f b=ae):bv (U l) (U λj b=>i j b/\j<n) r s f p where
 fro:=λb z=>g.fro b (a.fro b z)
 keep:=λb o q no=>g.keep b o (a.keep b o q no) λ⟨j,z⟩=>by
  rcases z with z|⟨_,z⟩
  .rcases a.onew b ⟨j,z⟩with w|w
   .exact no w
   .rw[w]at q;cases q
  .rw[d b z]at q;cases q
 there:=λb o q=>let ⟨o',q'⟩:=a.there b o q;g.there b o' q'
 fnew:=λb z=>by
  rcases g.fnew b z with w|w|⟨j,w|⟨_,w⟩⟩
  .exact a.fnew b w
  .exact .inr (.inl (nV a w))
  .exact .inr ((a.onew b ⟨j,w⟩).symm)
  .exact .inr (.inl (d b w))
 onew:=λb ⟨j,z,_⟩=>by
  rcases g.onew b ⟨j,z⟩with⟨k,w|⟨_,w⟩⟩|w
  .exact a.onew b ⟨k,w⟩
  .exact .inr (d b w)
  .exact .inr (nV a w)
variable{G:fK}{x:Str}{k:Nat}{I:List Str}{g:ak->R Slot}{p:Pos}
theorem Ng(c:c8 G X.prog X.w X.K X.mg X.base x k I (ce X.K g))(hr:Room k X.A)(hx:qf G X E)(ha:vE X E (e::m) A)(hg:Gl X x:=by rfl)(hd:(x==("__debug__":Str))=aj:=by decide) (h1:aP (e::m) X.env=(aj,aM e X.env)::aP m X.env:=by rfl) (h2:(dA B (aP m X.env)).any (·.1)=aj:=by rfl):DR X E (.Call (.Name x p) (e::m) [] B) (uX g A):=λF S ε Y H Q rl h=>by
 obtain⟨f,fd,hm,Fn,hb,hk⟩:=c.ex;refine bY (Cf Fn hr hg hm hk hb .nil hx ge hd h1 h2) (ha F S ε Y H _ rl ?_);unfold uX at h;cases ed:A ε with
 |no=>rw[ed]at h;exact h.elim
 |er cv d=>rw[ed]at h;exact h
 |ok pa d=>
  obtain⟨T,q⟩:=pa;rw[ed]at h;simp only[R.bind_ok]at h;intro F1 S1 H1 r1 g1 a Sa vs ow lo W;dsimp only at h W ow;have P:=r1.push ow λb z=>(lo b z).2;by_cases M:(c9 q).Nodup
  .rw[if_pos M]at h;cases m:gu (d++[.own T]) q with
   |none=>rw[m]at h;exact h.elim
   |some ss=>
    rw[m]at h;simp only[dU,R.bind_ok]at h;rw[iP];refine⟨F1,lS q _,ss,P.cal W m M,?_⟩;have len:∀n,(g7 (d++[.own T]) q n).length=d.length+1:=λn=>by rw[vh];simp
    cases eg:g ss with
    |no=>rw[eg]at h;exact h.elim
    |er cv n=>
     rw[eg]at h;intro y F' S' H' Z g';unfold jR at h;dsimp only at h;by_cases u:iH q n=ai
     .rw[if_pos u]at h;obtain⟨S2,L,g2,_⟩:=P.called W m M Z g' (λ_ z=>z) (ox u);obtain⟨l,sl,O,ll⟩:=Bt (len n);rw[O]at L;have h:Ok X.K E Y F S H (R.er cv (g7 (d++[.own T]) q n).dropLast:R Slot) _:=h;rw[O,List.dropLast_concat]at h;have N:=bv.pushed (K:=X.K) g2 g1 λb z=>(lo b z).1;rw[<-ll]at N;exact h y F' _ H' L.pop N
     .rw[if_neg u]at h;exact h.elim
    |ok s n=>
     rw[eg]at h;intro v F' S' H' Sr Z g' rv r fr;unfold jR at h;dsimp only at h;by_cases u:iH q n=ai
     .rw[if_pos u]at h;obtain⟨S2,L,g2,u2⟩:=P.called W m M Z g' (λ_ z=>.inl z) (ox u);obtain⟨l,sl,O,ll⟩:=Bt (len n);rw[O]at L;have h:Ok X.K E Y F S H (R.ok s (g7 (d++[.own T]) q n).dropLast:R Slot) _:=h;rw[O,List.dropLast_concat]at h;have N:=bv.pushed (K:=X.K) g2 g1 λb z=>(lo b z).1;rw[<-ll]at N;refine h F' _ H' L.pop N v Sr rv λb z=>⟨nV g1 (fr b z),(r b z).1,λ⟨j,w,_⟩=>?_,(r b z).2.2⟩
      rcases u2 b ⟨j,w⟩with w|⟨i,w⟩
      .exact(r b z).2.1 w
      .obtain⟨_,_,o,y1,_⟩:=P.foot i b w;rw[fr b z]at y1;cases y1
     .rw[if_neg u]at h;exact h.elim
  .rw[if_neg M]at h;exact h.elim
end
section
variable{X:Cx}{E:XK}{pin:List Nat}{e b c o:az}{de db n d:ak->R PV}{m:ak->R (List PV)}{g p q l:Pos}
def vY(i j:Nat)(d:ak->R PV):ak->R aO:=λε=>(d ε).bind λx ε1=>match x with
 |.tup [a,b]=>.ok .next ((ε1.set i (.val a)).set j (.val b))
 |_=>.no
theorem EO(i j:Nat){x y:Str}{k:Nat}{f s r:Pos}(hc:X.calm=ai)(A:X.N.Nodup)(he:DE X E e de)(Z:i∉pin:=by decide)(eY:j∉pin:=by decide)(hi:X.N[i]?=aa x:=by rfl)(hj:X.N[j]?=aa y:=by rfl)(T:Loc X.env.scope x:=by first|exact Or.inl rfl|exact Or.inr rfl) (Q:Loc X.env.scope y:=by first|exact Or.inl rfl|exact Or.inr rfl)(hf:X.fn x=ai\/X.env.scope.names.lookup x=aa .local:=by first|exact .inl rfl|exact .inr rfl) (u:X.fn y=ai\/X.env.scope.names.lookup y=aa .local:=by first|exact .inl rfl|exact .inr rfl)(Y:swapsWithSole [.Tuple [.Name x s,.Name y r] k f] e g.line X.env=pure aj:=by rfl) (W:swappedStores [.Tuple [.Name x s,.Name y r] k f] e X.env=pure ae:=by rfl):DS X E pin (.Assign [.Tuple [.Name x s,.Name y r] k f] e g) (vY i j de):=λF S G B H D M h=>by
 refine ie (CU bA (MX hc (EY (wK A hi T hf) (EY (wK A hj Q u) MJ))) Y W rfl) (he F S G B H _ M (h.bindE.imp λz C F1 S1 H1 P g1 w v K=>?_));split at w
 .rename_i a b;obtain⟨p,us,rfl,fY,L⟩:=K;obtain⟨J,ra,rfl,O,I,rb,rfl,N,rfl⟩:=L;refine⟨p,_,rfl,bR.of fY,rfl,J,_,rfl,I,_,rfl,rfl,?_⟩;exact w F1 _ _ H1 ((P.set O).set N) ((bv.less i).trans (bv.less j)) ((i9.set Z).trans (i9.set eY))
 .exact w.elim
def Jq(K:ax)(r:V->List V->Hp->VK->Prop)(i:TE)(t:TA):TE:=λf H Q=>i f H λx h=>(∃p a,x=.ref p/\h p=aa (.tup a))/\t f h λa j=>r x a j Q
theorem Bq{i:Str}{w:String}{r:V->List V->Hp->VK->Prop}{B:TE}{t:TA}{j f:Pos}{es:List az}(u:PySem.Slot "tuple" i w)(nA:typeOf (.builtin w)=pure (.type "method_descriptor"))(hm:wJ X w r)(ho:PE X o B)(ha:PA X (e::es) t)(mo:ni o i X.env (aM o X.env)=aM o X.env:=by rfl)(M:((dA f (aP (e::es) X.env)).all (λx=>!x.1)&&(qz f (qA [] X.env)).all (λx=>x.1.isSome)&&decide ((e::es).length+([]:List jH).length+(if([]:List jH).isEmpty then 0 else 1)<30))=ai:=by rfl)(mq:(j.endLine == f.line)=ai:=by rfl) (hs:aP (e::es) X.env=(aj,aM e X.env)::aP es X.env:=by rfl) (N:(dA f (aP es X.env)).any (·.1)=aj:=by rfl):PE X (.Call (.Attribute o i j) (e::es) [] f) (Jq X.K r B t):=by
 intro A s y H Q I h;refine wpAny_Call_method_late mo M mq rfl (aI (ho A s y H _ I h) λv C h'=>?_);obtain⟨x,G,F,S,⟨p,J,rfl,hp⟩,W⟩:=h';cases S;obtain⟨_,its,_,⟨Y,e1,e2,_⟩,Z,e3,e4⟩:=(show ca X.prog X.w G C.heap p (.tup J)from F.hok p _ hp)
 refine⟨"tuple",w,PySem.F.plainAttrs_tuple,u,nA,⟨Y,e1,e2⟩,λa z=>?_,?_⟩
 .cases z;exact⟨Z,e3,e4⟩
 have D:=ha f A C y G _ F W;rw[hs]at D ⊢;refine Fp (by show(aj||(dA f (aP es X.env)).any (·.1))=aj;rw[N] <;> rfl) (Am ?_);exact aI D λL O h2=>by obtain⟨K,H2,I2,P,T⟩:=h2;exact hm A O y H2 (.ref p) K (.ref p) L Q I2 rfl P T
def lM(f:List PV->PV->Option PV)(d de:ak->R PV):ak->R PV:=λε=>(d ε).bind λx h=>match x with
 |.tup i=>(de h).bind λk a=>a6 (f i k) a
 |_=>.no
theorem Dm{f a:Pos}(W:DE X E o d)(Z:DE X E e de)(T:ni o "count" X.env (aM o X.env)=aM o X.env:=by rfl)(P:(f.endLine == a.line)=ai:=by rfl) (dj:lW e=aj:=by rfl):DE X E (.Call (.Attribute o "count" f) [e] [] a) (lM oj d de):=λF S J B H Q N h=>by
 have y:=kE (es:=[]) (env:=X.env) dj;refine bY (Bq PySem.F.slot_tuple_count PySem.F.type_tuple_count Gu bA (iF bA jW y) T (by rw[y];rfl) P y rfl) (W F S J B H _ N ((Ok.bind h).imp λx j F1 S1 H1 s g1 A v L=>?_));split at A
 .rename_i K;obtain⟨p,C,rfl,D,M⟩:=L;refine⟨⟨p,C,rfl,D⟩,Z F1 S1 j B H1 _ s ((Ok.bind A).imp λk I F2 S2 H2 O G q w r=>?_)⟩;unfold oj at q;cases i:cV k with
  |none=>rw[i]at q;exact q.elim
  |some z=>
   cases u:ig K with
   |none=>rw[i,u]at q;exact q.elim
   |some ws=>rw[i,u]at q;obtain⟨rfl,Y⟩:=u8 (M.grow G s.fit) u;rw[i7 r i];exact⟨p,C,z,rfl,rfl,bR.of (G.imm s.fit D id),rm i,Y,q F2 S2 H2 O (bv.refl ..) _ rfl⟩
 .exact A.elim
end
def gG:List Tx->Tx
 |[]=>[]
 |x::r=>r.foldl (λb y=>if y<b then y else b) x
theorem GW(l:List Tx)(y:Tx)(h:l≠[]):gG (l++[y])=if y<gG l then y else gG l:=by
 cases l with
 |nil=>exact absurd rfl h
 |cons x r=>show(r++[y]).foldl _ x=_;rw[At];rfl
theorem xS(a:Nat->Nat->Bool):∀k,kg a k<=k
 |0=>aZ _
 |k+1=>by
  unfold kg;split
  .exact aZ _
  .exact FN (xS a k)
theorem A8(a:List Tx):∀k,k<a.length->a[kg (λi j=>decide (a.getD i []<a.getD j [])) k]?=aa (gG (a.take (k+1)))
 |0,h=>by
  cases a with
  |nil=>cases h
  |cons x r=>simp[kg,gG]
 |k+1,h=>by
  have b:=A8 a k ∅;have e:a.take (k+1+1)=a.take (k+1)++[a[k+1]]:=by rw[FO h]
  have g:=xS (λi j=>decide (a.getD i []<a.getD j [])) k;rw[e,GW _ _ (by intro z;have:=congrArg lm z;rw[jk,gT]at this;lia)];unfold kg;have f:a.getD (k+1) []=a[k+1]:=by simp[tE,h]
  have d:a.getD (kg (λi j=>decide (a.getD i []<a.getD j [])) k) []=gG (a.take (k+1)):=by rw[xz,b];rfl
  rw[f,d];by_cases c:a[k+1]<gG (a.take (k+1))
  .rw[if_pos (by simpa using c),if_pos c];simp[h]
  .rw[if_neg (by simpa using c),if_neg c];exact b
section
variable{X:Cx}
theorem ya{b:List Tx}{a:List ah}(r:bq (cy b) a){i:Nat}{v:ah}(h:a.toArray[i]?=aa v):∃t,v=.str (tS (b.getD i [])) t:=by
 have d:=r.length;rw[sK]at d;have g:i<a.length:=by have:=(nj.mp h).1;simpa using this
 have e:(cy b)[i]?=aa (tV (b.getD i [])):=by unfold cy;rw[gx,eh ∅];simp[tE,eh (show i<b.length by lia)]
 obtain⟨u,c,f⟩:=r.get e;have:a[i]?=aa v:=by simpa using h
 rw[this]at c;cases c;exact f
theorem Hq(n:X.calm=ai):fk X (.builtin "min") (λw H Q=>∃(p:af) (a:List Tx),w=[.ref p]/\bP X.K H p (cy a)/\a≠[]/\Q (tV (gG a)) H):=by
 intro S s A H w us Q I r h;obtain⟨p,a,rfl,J,P,q⟩:=h;obtain⟨u,rfl,D⟩:=vals1 r;cases D;obtain⟨d,l,m,hz⟩:=I.list J;have y:=l.length;rw[sK]at y;have hn:0<a.length:=by cases a with|nil=>exact absurd rfl P|cons=>simp
 refine call_min_walk (xk m.isList ?_);have W:p≠s.heap.objs.size:=by obtain⟨o,f,_⟩:=m.isList;exact cT (bo f)
 refine⟨s.heap.objs.size,_,_,_,_,_,λi j=>decide (a.getD i []<a.getD j []),rfl,xl (uW (I.ok.hd n)) s.heap.objs.size p W d.toArray,⟨⟨_,cf _ rfl,rfl,rfl⟩,?_⟩,?_,by rw[bJ];lia,λi j Z Y s' Q' E' M L O=>?_,λv h' C G k=>?_⟩
 .obtain⟨o,f,n,N⟩:=m.isList;exact⟨o,bh _ f,n,N⟩
 .intro b g;obtain⟨o,f,_⟩:=m.isList;have B:p<s.heap.objs.size:=bo f;have sz:∀o:Obj,(s.heap.push o).objs.size=s.heap.objs.size+1:=λo=>by simp[Heap.push]
  rcases br.mp g with rfl|g
  .show _<(s.heap.push _).objs.size;rw[sz];exact lq _
  .rw[eR.mp g];show _<(s.heap.push _).objs.size;rw[sz];exact jM B
 .obtain⟨t,rfl⟩:=ya l M;obtain⟨t',rfl⟩:=ya l L;refine lt_str ?_;rw[jy,jy];exact O
 .obtain⟨t,rfl⟩:=ya l G;have e:a.getD (kg (λi j=>decide (a.getD i []<a.getD j [])) (d.toArray.size-1)) []=gG a:=by rw[bJ,<-y,xz,A8 a _ ∅,show a.length-1+1=a.length by lia,tN];rfl
  rw[e];have T:Inv X S A H {s with heap:=s.heap.push {cls:=.type "list_iterator",data:=.fields #[.ref p,.int 0 0]},toks:=s.toks}:=I.kept (t':=s.toks) λb o e=>bh _ e;exact⟨tV (gG a),H,Inv.turned (t':=C) T (it:=s.heap.objs.size) (λb o g e=>k b o (by simpa using g) e) I.fresh (k9 I.lt) (.inr I.sz) (λx c e z=>by obtain⟨v,E⟩:=I.cell x c e;exact absurd E.lt (by rw[z];exact eO _)) (λF K z=>absurd (bo (I.pin F K).1) (by rw[z];exact eO _)),⟨t,rfl⟩,q⟩
def rT:List PV->Option PV
 |[.lst b]=>(fE b).bind λa=>if a≠[] then aa (.str (gG a))else ae
 |_=>ae
theorem Ej:∀{a:List Tx},a≠[]->gG a∈a:=by
 have c:∀(r:List Tx) (x:Tx),r.foldl (λb y=>if y<b then y else b) x∈x::r:=by
  intro r
  induction r with
  |nil=>intro x;simp
  |cons y r d=>
   intro x;rw[j_];have:=d (if y<x then y else x);rcases br.mp this with h|h
   .rw[h];split <;> simp
   .simp[h]
 intro a h;cases a with
 |nil=>exact absurd rfl h
 |cons x r=>exact c r x
theorem Lh{K:ax}:PL K (λd H Q=>∃(p:af) (b:List Tx),d=[.ref p]/\bP K H p (cy b)/\b≠[]/\Q (tV (gG b)) H) rT:=λF H d m Q pv h e q=>by
 unfold rT at e;split at e
 .obtain⟨v,rfl,a,n,rfl,j,_,f⟩:=f_ h;obtain⟨b,l,c⟩:=AD.mp e;rw[pK l]at f;obtain⟨rfl,i⟩:=PQ.mp f;split at c
  .rename_i g;cases c;exact⟨a,b,rfl,.inl j,g,q _ F H (Al.refl ..) ⟨rfl,i _ (Ej g)⟩⟩
  .cases c
 .cases e
theorem A9:dW "min"=aa (.builtin "min"):=by decide +kernel
def DU:List (aR×PV)->Option (List Tx)
 |[]=>aa []
 | (.inr k,_)::r=>(DU r).map (k.cps.toList::·)
 |_=>ae
def JG(b:List (aR×PV)):Option PO:=(DU b).bind λa=>if a.length<64/\(∀x∈a,x.length<=cx)then aa (.lst (am (aV a)))else ae
def OK(i:Nat):ak->R PO:=λa=>(a6 (zN a i) a).bind λb a=>a6 (JG b) a
end
end Pu
namespace L2
def vS:Bool->Keyed->Array Keyed->Nat->Nat->Nat->StateT bw Sem (Option Nat):=sortPriv% PySem.Builtin.gallop
def D3:Array Keyed->Array Keyed->StateT bw Sem (Array Keyed):=sortPriv% PySem.Builtin.mergeLo
def D5:Array Keyed->Array Keyed->StateT bw Sem (Array Keyed):=sortPriv% PySem.Builtin.mergeHi
def kO(a:KeyKind)(p:Keyed):a.α:=(a.keyOf p.1).getD a.dflt
def f9(b:KeyKind)(p:Keyed):Prop:=∃a,b.keyOf p.1=aa a
theorem f9.k{κ:KeyKind}{p:Keyed}(h:f9 κ p):κ.keyOf p.1=aa (kO κ p):=by obtain⟨a,e⟩:=h;unfold kO;rw[e];rfl
def ik(κ:KeyKind)(kz:gU)(c:aL)(w:aE)(A:aS)(s:ao):Prop :=
 ∀(E:ah->ao->Prop) (x y:ah) (a b:κ.α) {Q:Bool->ao->Prop},κ.keyOf x=aa a->κ.keyOf y=aa b->Q (κ.blt a b) s->aq (aw c w) A (keyLt' kz x y) Q E s
theorem OneLt.ok{κ:KeyKind}(f:κ.OneLt){prog:aL}{w:aE}{A:aS}{s:ao}:ik κ oneType' prog w A s:=λE x y a b _ d c h=>by rw[keyLt'_oneType];exact f prog w A E s x y a b d c h
structure SB(kz:gU)(st:bw):Prop where
 kind:kindOf st=kz
 failed:failedOf st=ae
section
variable{a:aL}{w:aE}{A:aS}{E:ah->ao->Prop}{s:ao}{d:KeyKind}{f:gU}
theorem s_(j:ik d f a w A s){b:bw}{x y:Keyed}{Q:Option Bool->bw->Prop}(i:SB f b)(g:f9 d x)(c:f9 d y)(h:Q (aa (d.blt (kO d x) (kO d y))) b):wpS (aw a w) A E s (lt' x y) Q b:=by rw[lt'_eq];refine aD (kh ?_);rw[i.kind];exact aD (qT (Au (j _ x.1 y.1 _ _ g.k c.k ⟨rfl,aJ h⟩)))
theorem eG{c:bw}{b:Array Keyed}{i:Nat}(g:i<b.size){Q:Keyed->bw->Prop}(h:Q b[i] c):wpS (aw a w) A E s (elem' b i) Q c:=by rw[elem'_eq,getElem?_pos b i g];exact aJ h
def Bg(c:Bool)(g:Keyed)(j:Array Keyed)(h i:Nat):StateT bw Sem (Option Bool) :=elem' j (h+i) >>= λx=>if c=ai then lt' x g else lt' g x >>= λb=>pure (b.map (!·))
def kK(d:KeyKind)(b:Bool)(c x:Keyed):Bool:=if b=ai then d.blt (kO d x) (kO d c)else !d.blt (kO d c) (kO d x)
theorem JN(p:ik d f a w A s){l:bw}{c:Bool}{j:Keyed}{g:Array Keyed}{b i:Nat}{Q:Option Bool->bw->Prop}(o:SB f l)(n:f9 d j)(q:b+i<g.size)(m:f9 d g[b+i])(h:Q (aa (kK d c j g[b+i])) l):wpS (aw a w) A E s (Bg c j g b i) Q l:=by
 refine aD (eG q ?_);cases c
 .rw[if_neg (by simp)];exact aD (s_ p o n m (aJ h))
 .rw[if_pos rfl];exact s_ p o m n h
theorem D_(hO:ik d f a w A s){K:bw}(hk:SB f K){G:Bool}{L:Keyed}{z:Array Keyed}{u n b:Nat}{Q:Option Nat->bw->Prop}(b8:f9 d L)(hn:u+n<=z.size)(hA:∀i (g:i<z.size),f9 d z[i]) (B:Nat->Bool) (hB:∀i (g:i<n),B i=kK d G L (z[u+i]'∅))(mono:∀i j,i<=j->j<n->B j=ai->B i=ai) (hh:b<n)(h:∀r,r<=n->(∀i,i<r->B i=ai)->(∀i,r<=i->i<n->B i=aj)->Q (aa r) K):wpS (aw a w) A E s (vS G L z u n b) Q K:=by
 have O:∀{i:Nat}{Q:Option Bool->bw->Prop},i<n->Q (aa (B i)) K->wpS (aw a w) A E s (Bg G L z u i) Q K:=λ{i Q} g q=>JN hO hk b8 ∅ (hA _ _) (by rw[<-hB i g];exact q);have dn:∀{i j:Nat},i<=j->j<n->B i=aj->B j=aj:=λ{i j} bx hj hf=>by
  cases e:B j with
  |false=>rfl
  |true=>rw[mono i j bx hj e]at hf;cases hf
 unfold vS;refine aD (O hh ?_);cases hr:B b with
 |true=>
  dsimp only;rw[if_pos rfl];refine aD (fV (fW (I:=λx c m=>m=K/\∃l o,c=(ae,l,o)/\l<o/\x<o/\l<n-b/\B (b+l)=ai) (Q:=λc m=>m=K/\∃l o,c=(ae,l,o)/\l<o/\l<n-b/\B (b+l)=ai/\(n-b<=o\/(o<n-b/\B (b+o)=aj))) ?_ ?_ ?_) ?_)
  .rintro x c m _ P ⟨rfl,l,o,rfl,J,T,H,p⟩;dsimp only;by_cases v:o ≥ n-b
   .rw[if_pos v];exact aJ ⟨rfl,l,o,rfl,J,H,p,.inl v⟩
   .rw[if_neg v];refine aD (O ∅ ?_);cases e:B (b+o)with
    |true=>exact aJ ⟨rfl,o,2*o+1,rfl,∅,∅,∅,e⟩
    |false=>exact aJ ⟨rfl,l,o,rfl,J,H,p,.inr ⟨∅,e⟩⟩
  .rintro c m ⟨rfl,l,o,rfl,J,T,H,p⟩;exact⟨rfl,l,o,rfl,J,H,p,.inl ∅⟩
  .exact⟨rfl,0,1,rfl,∅,∅,∅,hr⟩
  rintro c m ⟨rfl,l,o,rfl,J,H,p,M⟩;dsimp only;have Z:b+l+1<=b+min o (n-b):=∅
  have Y:b+min o (n-b)<=n:=∅
  have X:∀i,i<b+l+1->B i=ai:=λi g=>mono i (b+l) ∅ ∅ p;have W:∀i,b+min o (n-b)<=i->i<n->B i=aj:=by
   intro i g N;rcases M with M|⟨M,S⟩
   .lia
   .exact dn (i:=b+o) ∅ N S
  clear M;generalize b+l+1=lo at *;generalize b+min o (n-b)=g at *;refine aD (fV (fW (I:=λx c y=>y=m/\∃l r,c=(ae,l,r)/\l<=r/\r<=n/\r-l<=n-x/\(∀i,i<l->B i=ai)/\(∀i,r<=i->i<n->B i=aj)) (Q:=λc y=>y=m/\∃l r,c=(ae,l,r)/\r<=n/\(∀i,i<r->B i=ai)/\(∀i,r<=i->i<n->B i=aj)) ?_ ?_ ?_) ?_)
  .rintro x c y _ P ⟨rfl,l,r,rfl,a1,F,a3,D,C⟩;dsimp only;by_cases v:l ≥ r
   .rw[if_pos v];have:l=r:=∅
    subst this;exact aJ ⟨rfl,l,l,rfl,F,D,C⟩
   .rw[if_neg v];refine aD (O ∅ ?_);cases e:B (l+(r-l) / 2)with
    |true=>exact aJ ⟨rfl,_,r,rfl,∅,F,∅,λi g=>mono _ _ ∅ ∅ e,C⟩
    |false=>exact aJ ⟨rfl,l,_,rfl,∅,∅,∅,D,λi g N=>dn (i:=l+(r-l) / 2) g N e⟩
  .rintro c y ⟨rfl,l,r,rfl,a1,F,a3,D,C⟩;have:l=r:=∅
   subst this;exact⟨rfl,l,l,rfl,F,D,C⟩
  .exact⟨rfl,lo,g,rfl,Z,Y,∅,X,W⟩
  .rintro c y ⟨rfl,l,r,rfl,F,D,C⟩;exact aJ (h r F D C)
 |false=>
  dsimp only;rw[if_neg (by simp)];refine aD (fV (fW (I:=λx c m=>m=K/\∃l o,c=(ae,l,o)/\l<o/\x<o/\l<=b/\B (b-l)=aj) (Q:=λc m=>m=K/\∃l o,c=(ae,l,o)/\l<o/\l<=b/\B (b-l)=aj/\(b+1<=o\/(o<=b/\B (b-o)=ai))) ?_ ?_ ?_) ?_)
  .rintro x c m _ P ⟨rfl,l,o,rfl,J,T,H,p⟩;dsimp only;by_cases v:o ≥ b+1
   .rw[if_pos v];exact aJ ⟨rfl,l,o,rfl,J,H,p,.inl v⟩
   .rw[if_neg v];refine aD (O ∅ ?_);cases e:B (b-o)with
    |false=>exact aJ ⟨rfl,o,2*o+1,rfl,∅,∅,∅,e⟩
    |true=>exact aJ ⟨rfl,l,o,rfl,J,H,p,.inr ⟨∅,e⟩⟩
  .rintro c m ⟨rfl,l,o,rfl,J,T,H,p⟩;exact⟨rfl,l,o,rfl,J,H,p,.inl ∅⟩
  .exact⟨rfl,0,1,rfl,∅,∅,∅,hr⟩
  rintro c m ⟨rfl,l,o,rfl,J,H,p,M⟩;dsimp only;have Z:b+1-min o (b+1)<=b-l:=∅
  have Y:b-l<=n:=∅
  have X:∀i,i<b+1-min o (b+1)->B i=ai:=by
   intro i g;rcases M with M|⟨M,S⟩
   .lia
   .exact mono i (b-o) ∅ ∅ S
  have W:∀i,b-l<=i->i<n->B i=aj:=λi g N=>dn (i:=b-l) ∅ N p;clear M p;generalize b+1-min o (b+1)=lo at *;generalize b-l=g at *;refine aD (fV (fW (I:=λx c y=>y=m/\∃l r,c=(ae,l,r)/\l<=r/\r<=n/\r-l<=n-x/\(∀i,i<l->B i=ai)/\(∀i,r<=i->i<n->B i=aj)) (Q:=λc y=>y=m/\∃l r,c=(ae,l,r)/\r<=n/\(∀i,i<r->B i=ai)/\(∀i,r<=i->i<n->B i=aj)) ?_ ?_ ?_) ?_)
  .rintro x c y _ P ⟨rfl,l,r,rfl,a1,F,a3,D,C⟩;dsimp only;by_cases v:l ≥ r
   .rw[if_pos v];have:l=r:=∅
    subst this;exact aJ ⟨rfl,l,l,rfl,F,D,C⟩
   .rw[if_neg v];refine aD (O ∅ ?_);cases e:B (l+(r-l) / 2)with
    |true=>exact aJ ⟨rfl,_,r,rfl,∅,F,∅,λi g=>mono _ _ ∅ ∅ e,C⟩
    |false=>exact aJ ⟨rfl,l,_,rfl,∅,∅,∅,D,λi g N=>dn (i:=l+(r-l) / 2) g N e⟩
  .rintro c y ⟨rfl,l,r,rfl,a1,F,a3,D,C⟩;have:l=r:=∅
   subst this;exact⟨rfl,l,l,rfl,F,D,C⟩
  .exact⟨rfl,lo,g,rfl,Z,Y,∅,X,W⟩
  .rintro c y ⟨rfl,l,r,rfl,F,D,C⟩;exact aJ (h r F D C)
end
section
variable{κ:KeyKind}{kz:gU}
def bC(κ:KeyKind)(x y:Keyed):Prop:=κ.kle (kO κ x) (kO κ y)
theorem bC.trans{x y z:Keyed}(b:bC κ x y)(a:bC κ y z):bC κ x z:=tO b a
structure MS(κ:KeyKind)(T o ra rb:List Keyed):Prop where
 perm:(o++(ra++rb)).Perm T
 so:o.Pairwise (bC κ)
 sa:ra.Pairwise (bC κ)
 sb:rb.Pairwise (bC κ)
 oa:∀x∈o,∀y∈ra,bC κ x y
 ob:∀x∈o,∀y∈rb,bC κ x y
theorem MS.stepA{T o x f d:List Keyed}(h:MS κ T o (x++f) d)(i:∀u∈x,∀v∈d,bC κ u v):MS κ T (o++x) f d:=by
 obtain⟨n,m,c,l,g,j⟩:=h;rw[FP]at c;refine⟨by simpa[kc]using n,?_,c.2.1,l,?_,?_⟩
 .rw[FP];exact⟨m,c.1,λu a v b=>g u a v (Ab _ b)⟩
 .intro u a v b;rcases iq.mp a with a|a
  .exact g u a v (lf _ b)
  .exact c.2.2 u a v b
 .intro u a v b;rcases iq.mp a with a|a
  .exact j u a v b
  .exact i u a v b
theorem MS.swap{T o b a:List Keyed}(h:MS κ T o b a):MS κ T o a b :=⟨(FE _ List.perm_append_comm).trans h.perm,h.so,h.sb,h.sa,h.ob,h.oa⟩
theorem MS.stepB{T o x a b:List Keyed}(h:MS κ T o a (x++b))(c:∀u∈x,∀v∈a,bC κ u v):MS κ T (o++x) a b :=(h.swap.stepA c).swap
def fQ(κ:KeyKind)(T:List Keyed)(r:Array Keyed):Prop:=r.toList.Perm T/\r.toList.Pairwise (bC κ)
theorem MS.endA{T o a:List Keyed}{r:Array Keyed}(h:MS κ T o a [])(e:r.toList=o++a):fQ κ T r:=by obtain⟨f,d,c,i,b,g⟩:=h;refine⟨by rw[e];simpa using f,?_⟩;rw[e,FP];exact⟨d,c,b⟩
theorem MS.last{T o b a:List Keyed}{r:Array Keyed}(h:MS κ T o b a)(c:∀u∈a,∀v∈b,bC κ u v)(e:r.toList=o++(a++b)):fQ κ T r:=by
 have d:MS κ T o b (a++[]):=by simpa using h
 exact(d.stepB c).endA (by rw[e];simp)
theorem j4(a:Array Keyed)(i j:Nat):(a.extract i j).toList=(a.toList.drop i).take (j-i):=by simp[Array.toList_extract,List.extract_eq_take_drop]
theorem qc(a:Array Keyed)(i:Nat):(a.extract i a.size).toList=a.toList.drop i:=by rw[j4,lp];simp
theorem C4{a:Array Keyed}{i:Nat}(h:i<a.size):a.toList.drop i=a[i]::a.toList.drop (i+1):=by rw[xx (by simpa using h)];simp
theorem E1(a:Array Keyed)(i k:Nat):a.toList.drop i=(a.extract i (i+k)).toList++a.toList.drop (i+k):=by rw[j4,show i+k-i=k by lia,<-List.drop_drop,qJ]
theorem pI{a:Array Keyed}{i:Nat}{x:Keyed}(h:x∈a.toList.drop i):∃j,∃d:j<a.size,i<=j/\a[j]=x:=by
 obtain⟨k,c,e⟩:=xA h;rw[AE]at e;have b:i+k<a.size:=by simp at c;lia
 exact⟨i+k,b,∅,by simpa using e⟩
theorem CY{a:Array Keyed}{i k:Nat}{x:Keyed}(h:x∈(a.extract i (i+k)).toList):∃j,∃c:j<a.size,i<=j/\j<i+k/\a[j]=x:=by
 rw[j4]at h;obtain⟨m,b,e⟩:=xA h;rw[AF,AE]at e;refine⟨i+m,?_,∅,?_,by simpa using e⟩
 all_goals simp at b;lia
def sw(κ:KeyKind)(a:Array Keyed):Prop:=∀i j (b:j<a.size) (c:i<=j),bC κ (a[i]'∅) a[j]
theorem sw.pw{a:Array Keyed}(h:sw κ a):a.toList.Pairwise (bC κ):=by rw[List.pairwise_iff_getElem];intro i j c b d;have:=h i j (by simpa using b) ∅;simpa using this
structure eZ(κ:KeyKind)(a b c:Array Keyed)(d f:Nat):Prop where
 ms:MS κ (a.toList++b.toList) c.toList (a.toList.drop d) (b.toList.drop f)
 la:d<=a.size
 lb:f<=b.size
variable{a b c:Array Keyed}{d f:Nat}
theorem eZ.pushA(h:eZ κ a b c d f)(i:d<a.size)(l:∀j (g:j<b.size),f<=j->bC κ a[d] b[j]):eZ κ a b (c.push a[d]) (d+1) f:=by refine⟨?_,i,h.lb⟩;rw[tF];refine MS.stepA (by rw[AG,<-C4 i];exact h.ms) λu n v m=>?_;obtain⟨j,g,o,rfl⟩:=pI m;rw[eR.mp n];exact l j g o
theorem eZ.pushB(h:eZ κ a b c d f)(i:f<b.size)(l:∀j (g:j<a.size),d<=j->bC κ b[f] a[j]):eZ κ a b (c.push b[f]) d (f+1):=by refine⟨?_,h.la,i⟩;rw[tF];refine MS.stepB (by rw[AG,<-C4 i];exact h.ms) λu n v m=>?_;obtain⟨j,g,o,rfl⟩:=pI m;rw[eR.mp n];exact l j g o
theorem eZ.extA{k:Nat}(h:eZ κ a b c d f)(p:d+k<=a.size)(m:∀i (l:i<a.size),d<=i->i<d+k->∀j (g:j<b.size),f<=j->bC κ a[i] b[j]):eZ κ a b (c++a.extract d (d+k)) (d+k) f:=by refine⟨?_,p,h.lb⟩;rw[gz];refine MS.stepA (by rw[<-E1];exact h.ms) λu o v n=>?_;obtain⟨j,g,s,rfl⟩:=pI n;obtain⟨i,l,r,q,rfl⟩:=CY o;exact m i l r q j g s
theorem eZ.extB{k:Nat}(h:eZ κ a b c d f)(p:f+k<=b.size)(m:∀i (l:i<b.size),f<=i->i<f+k->∀j (g:j<a.size),d<=j->bC κ b[i] a[j]):eZ κ a b (c++b.extract f (f+k)) d (f+k):=by refine⟨?_,h.la,p⟩;rw[gz];refine MS.stepB (by rw[<-E1];exact h.ms) λu o v n=>?_;obtain⟨j,g,s,rfl⟩:=pI n;obtain⟨i,l,r,q,rfl⟩:=CY o;exact m i l r q j g s
theorem eZ.doneA(h:eZ κ a b c d f)(e:f=b.size):fQ κ (a.toList++b.toList) (c++a.extract d a.size++b.extract f b.size):=by have:=h.ms;rw[show b.toList.drop f=[] by rw[AH];simp[e]]at this;refine this.endA ?_;rw[gz,gz,qc,qc,show b.toList.drop f=[] by rw[AH];simp[e],iP]
theorem eZ.doneB(h:eZ κ a b c d f)(e:d=a.size):fQ κ (a.toList++b.toList) (c++a.extract d a.size++b.extract f b.size):=by have:=h.ms;rw[show a.toList.drop d=[] by rw[AH];simp[e]]at this;refine this.swap.endA ?_;rw[gz,gz,qc,qc,show a.toList.drop d=[] by rw[AH];simp[e],iP]
theorem eZ.last(h:eZ κ a b c d f)(e:d+1=a.size)(n:∀j (g:j<b.size),bC κ b[j] (a[d]'∅)):fQ κ (a.toList++b.toList) (c++b.extract f b.size++a.extract d a.size):=by
 refine h.ms.last (λu m v l=>?_) (by rw[gz,gz,qc,qc,kc]);obtain⟨j,g,q,rfl⟩:=pI m;obtain⟨i,o,p,rfl⟩:=pI l;have:i=d:=∅
 subst this;exact n j g
end
section
variable{b:aL}{w:aE}{A:aS}{E:ah->ao->Prop}{s:ao}{a:KeyKind}{c:gU}
theorem zt(y:ik a c b w A s){l:bw}(u:SB c l){f:Keyed}{d:Array Keyed}{base n hint:Nat}{Q:Option Nat->bw->Prop}(F:f9 a f)(q:base+n<=d.size)(z:∀i (g:i<d.size),f9 a d[i]) (o:∀i j (D:i<=j) (m:j<base+n),base<=i->bC a (d[i]'∅) (d[j]'∅)) (v:hint<n)(h:∀r,r<=n->(∀i (g:i<d.size),base<=i->i<base+r->bC a d[i] f)->(∀i (g:i<d.size),base+r<=i->i<base+n->a.klt (kO a f) (kO a d[i]))->Q (aa r) l):wpS (aw b w) A E s (vS aj f d base n hint) Q l:=by
 refine D_ y u F q z (λi=>if g:i<n then kK a aj f (d[base+i]'∅)else aj) (λi g=>by rw[dif_pos g]) ?_ v ?_
 .intro i j D m e;rw[dif_pos m]at e;rw[dif_pos ∅];simp only[kK,jL,if_false,FK]at e ⊢;exact tO (o (base+i) (base+j) ∅ ∅ ∅) e
 .intro r p C B;refine h r p (λi g x G=>?_) (λi g x G=>?_)
  .have:=C (i-base) ∅;rw[dif_pos ∅]at this;simp only[kK,jL,if_false,FK,show base+(i-base)=i by lia]at this;exact this
  .have:=B (i-base) ∅ ∅;rw[dif_pos ∅]at this;simp only[kK,jL,if_false,Bool.not_eq_false',show base+(i-base)=i by lia]at this;exact this
theorem yW(y:ik a c b w A s){l:bw}(u:SB c l){f:Keyed}{d:Array Keyed}{base n hint:Nat}{Q:Option Nat->bw->Prop}(F:f9 a f)(q:base+n<=d.size)(z:∀i (g:i<d.size),f9 a d[i]) (o:∀i j (D:i<=j) (m:j<base+n),base<=i->bC a (d[i]'∅) (d[j]'∅)) (v:hint<n)(h:∀r,r<=n->(∀i (g:i<d.size),base<=i->i<base+r->a.klt (kO a d[i]) (kO a f))->(∀i (g:i<d.size),base+r<=i->i<base+n->bC a f d[i])->Q (aa r) l):wpS (aw b w) A E s (vS ai f d base n hint) Q l:=by
 refine D_ y u F q z (λi=>if g:i<n then kK a ai f (d[base+i]'∅)else aj) (λi g=>by rw[dif_pos g]) ?_ v ?_
 .intro i j D m e;rw[dif_pos m]at e;rw[dif_pos ∅];simp only[kK,if_true]at e ⊢;exact KeyOrd.klt_of_kle_of_klt (o (base+i) (base+j) ∅ ∅ ∅) e
 .intro r p C B;refine h r p (λi g x G=>?_) (λi g x G=>?_)
  .have:=C (i-base) ∅;rw[dif_pos ∅]at this;simp only[kK,if_true,show base+(i-base)=i by lia]at this;exact this
  .have:=B (i-base) ∅ ∅;rw[dif_pos ∅]at this;simp only[kK,if_true,show base+(i-base)=i by lia]at this;exact this
end
structure fP(st ay:bw):Prop where
 kind:kindOf ay=kindOf st
 arr:arrOf ay=arrOf st
 pend:bg ay=bg st
 failed:failedOf ay=failedOf st
theorem fP.rfl{st:bw}:fP st st:=⟨_root_.rfl,_root_.rfl,_root_.rfl,_root_.rfl⟩
theorem fP.sb{b:gU}{a c:bw}(h:fP a c)(k:SB b a):SB b c:=⟨h.kind.trans k.kind,h.failed.trans k.failed⟩
section
variable{prog:aL}{w:aE}{A:aS}{E:ah->ao->Prop}{s:ao}{κ:KeyKind}{kz:gU}
theorem cg{a d:Type}{M:Model}{c:Prop}[Decidable c]{t e:StateT a Sem d}{Q:d->a->Prop}{b:a}(g:c->wpS M A E s t Q b)(f:¬c->wpS M A E s e Q b):wpS M A E s (if c then t else e) Q b:=by
 split
 .exact g ‹_›
 .exact f ‹_›
def Lz:Nat->StateT bw Sem Unit:=sortPriv% PySem.Builtin.setMinGallop
theorem fP.trans{a b c:bw}(f:fP a b)(d:fP b c):fP a c:=⟨d.kind.trans f.kind,d.arr.trans f.arr,d.pend.trans f.pend,d.failed.trans f.failed⟩
theorem yC{a b:bw}{g:Nat}{Q:Unit->bw->Prop}(d:fP b a)(h:∀c,fP b c->Q () c):wpS (aw prog w) A E s (Lz g) Q a :=mj (h _ (d.trans ⟨rfl,rfl,rfl,rfl⟩))
theorem MK(hO:ik κ kz prog w A s){L:bw}(hk:SB kz L){a b:Array Keyed}{Q:Array Keyed->bw->Prop}(ha:0<a.size)(hb:0<b.size)(hA:∀i (O:i<a.size),f9 κ a[i]) (hB:∀i (O:i<b.size),f9 κ b[i]) (sa:sw κ a) (sb:sw κ b)(h0:bC κ b[0] a[0]) (hl:∀j (p:j<b.size),bC κ b[j] a[a.size-1])(h:∀r F,fP L F->fQ κ (a.toList++b.toList) r->Q r F):wpS (aw prog w) A E s (D3 a b) Q L:=by
 have iX:∀{i:Nat} (O:i<a.size),i+1=a.size->∀j (p:j<b.size),bC κ b[j] a[i]:=λ{i} O e j p=>by
  have:i=a.size-1:=∅
  subst this;exact hl j p
 have I0:eZ κ a b #[b[0]] 0 1:=by
  have z:eZ κ a b #[] 0 0:=⟨⟨by simp,by simp,by simpa using sa.pw,by simpa using sb.pw,by simp,by simp⟩,∅,∅⟩
  exact z.pushB hb λj p _=>h0.trans (sa 0 j p ∅)
 unfold D3;refine aD (qT (me ⟨rfl,?_⟩));refine aD (eG hb ?_);by_cases e1:1=b.size
 .rw[if_pos (by simp[<-e1])];exact aJ (h _ _ .rfl (I0.doneA e1))
 rw[if_neg (by simpa using e1)];by_cases e2:0+1=a.size
 .rw[if_pos (by simp[<-e2])];exact aJ (h _ _ .rfl (I0.last e2 (iX ∅ ∅)))
 rw[if_neg (by simpa using e2)];refine aD (kh ?_);refine aD (fV (fW (I:=λx c F=>fP L F/\∃d f l J,c=(ae,d,f,l,J)/\eZ κ a b d f l/\f+1<a.size/\l<b.size/\x+1<=f+l) (Q:=λc F=>fP L F/\∃r,c.1=aa r/\fQ κ (a.toList++b.toList) r) ?_ ?_ ?_) ?_);rotate_left
 .rintro c F ⟨_,d,f,l,J,rfl,v,z,q,M⟩;lia
 .exact⟨.rfl,_,0,1,_,rfl,I0,∅,∅,∅⟩
 .rintro⟨c1,c⟩ F ⟨u,r,rfl,X⟩;exact aJ (h r F u X)
 rintro x c F _ hx ⟨u,d,f,l,J,rfl,v,z,q,M⟩;refine aD (fV (fW (I:=λy c C=>C=F/\∃d f l D B,c=(ae,d,f,l,D,B)/\eZ κ a b d f l/\f+1<a.size/\l<b.size/\x+1+y<=f+l) (Q:=λc C=>C=F/\((∃r Y,c=(aa r,Y)/\fQ κ (a.toList++b.toList) r)\/∃d f l D B,c=(ae,d,f,l,D,B)/\eZ κ a b d f l/\f+1<a.size/\l<b.size/\x+1+1<=f+l)) ?_ ?_ ?_) ?_)
 .rintro y c C _ hy ⟨rfl,d,f,l,D,B,rfl,v,z,q,M⟩;dsimp only;refine aD (eG q (aD (eG ∅ (aD (s_ hO (u.sb hk) (hB l q) (hA f ∅) ?_)))));cases e:κ.blt (kO κ b[l]) (kO κ (a[f]'∅))with
  |true=>
   dsimp only;rw[if_pos rfl];refine aD (eG q ?_);have N:=v.pushB q λj p eB=>bC.trans (ki e) (sa f j p eB);by_cases H:l+1=b.size
   .rw[if_pos (by simp[H])];exact aJ ⟨rfl,.inl ⟨_,_,rfl,N.doneA H⟩⟩
   rw[if_neg (by simpa using H)];split
   .exact aJ ⟨rfl,.inr ⟨_,_,_,_,_,rfl,N,∅,∅,∅⟩⟩
   .exact aJ ⟨rfl,_,_,_,_,_,rfl,N,∅,∅,∅⟩
  |false=>
   dsimp only;rw[if_neg (by simp)];refine aD (eG ∅ ?_);have N:=v.pushA ∅ λj p eB=>bC.trans (show bC κ (a[f]'∅) b[l] from e) (sb l j p eB);by_cases H:f+1+1=a.size
   .rw[if_pos (by simp[H])];exact aJ ⟨rfl,.inl ⟨_,_,rfl,N.last H (iX ∅ ∅)⟩⟩
   rw[if_neg (by simpa using H)];split
   .exact aJ ⟨rfl,.inr ⟨_,_,_,_,_,rfl,N,∅,∅,∅⟩⟩
   .exact aJ ⟨rfl,_,_,_,_,_,rfl,N,∅,∅,∅⟩
 .rintro c C ⟨rfl,d,f,l,D,B,rfl,v,z,q,M⟩;lia
 .exact⟨rfl,_,_,_,_,_,rfl,v,z,q,∅⟩
 rintro c C ⟨rfl,⟨r,Y,rfl,X⟩|⟨d,f,l,D,B,rfl,v,z,q,M⟩⟩
 .exact aJ ⟨u,r,rfl,X⟩
 refine aD (qT (me ⟨rfl,?_⟩));refine aD (fV (fW (I:=λy c C=>fP L C/\∃d f l J D B,c=(ae,d,f,l,J,D,B)/\eZ κ a b d f l/\f+1<a.size/\l<b.size/\x+2+y<=f+l) (Q:=λc C=>fP L C/\((∃r Y,c=(aa r,Y)/\fQ κ (a.toList++b.toList) r)\/∃d f l J D B,c=(ae,d,f,l,J,D,B)/\eZ κ a b d f l/\f+1<a.size/\l<b.size/\x+1+1<=f+l)) ?_ ?_ ?_) ?_);rotate_left
 .rintro c C ⟨_,d,f,l,J,D,B,rfl,v,z,q,M⟩;lia
 .exact⟨u,_,_,_,_,_,_,rfl,v,z,q,∅⟩
 .rintro c C ⟨u,⟨r,Y,rfl,X⟩|⟨d,f,l,J,D,B,rfl,v,z,q,M⟩⟩
  .exact aJ ⟨u,r,rfl,X⟩
  .dsimp only;refine aD (mj (aJ ⟨⟨u.kind,u.arr,u.pend,u.failed⟩,_,_,_,_,rfl,v,z,q,∅⟩))
 clear z q M v u I0 e1 e2;rintro y c C _ hy ⟨u,d,f,l,J,D,B,rfl,v,z,q,M⟩;clear hx hy;have jr:∀{i j:Nat} (K:i<=j) (p:j<b.size),bC κ (b[i]'∅) b[j]:=λ{i j} K p=>sb i j p K;have pf:∀{i j:Nat} (K:i<=j) (p:j<a.size),bC κ (a[i]'∅) a[j]:=λ{i j} K p=>sa i j p K;refine(?_:wpS (aw prog w) A E s _ ?Q _);extract_lets -merge x1 x2 x3 x4 x5 x6 x7 x8 x9 xa xb xc jp;have p:∀g T,fP L T->wpS (aw prog w) A E s (jp () g) ?Q T:=by
  intro g T G;dsimp -zeta only[jp,x1,x2,x3,x4,x5,x6,x7,x8,x9,xa,xb,xc];refine aD (yC G λT G=>?_);refine aD (eG q ?_);refine aD (zt hO (G.sb hk) (base:=f) (n:=a.size-f) (hint:=0) (hB l q) ∅ hA (λi j K p _=>pf K ∅) ∅ λk gn b_ fj=>?_);dsimp -zeta only;extract_lets -merge y1 jp2;have uv:∀o n,eZ κ a b o n l->f+k<=n->n+1<a.size->wpS (aw prog w) A E s (jp2 () o n) ?Q T:=by
   intro o n W nI e4;dsimp -zeta only[jp2,y1];refine aD (eG q ?_);have P:=W.pushB q λj p g=>ki (fj j p ∅ ∅);refine cg (λe5=>?_) λe5=>?_
   .exact aJ ⟨G,.inl ⟨_,_,rfl,P.doneA (by simpa using e5)⟩⟩
   have e5':l+1≠b.size:=by simpa using e5
   refine aD (eG ∅ ?_);refine aD (yW hO (G.sb hk) (base:=l+1) (n:=b.size-(l+1)) (hint:=0) (hA _ _) ∅ hB (λi j K p _=>jr K ∅) ∅ λk' m1 m2 m3=>?_);dsimp -zeta only;extract_lets -merge z1 z2 jp3;have ux:∀o m,eZ κ a b o n m->l+1+k'<=m->m<b.size->wpS (aw prog w) A E s (jp3 () o m) ?Q T:=by
    intro o m Z e6 e7;dsimp -zeta only[jp3,z1,z2];refine aD (eG ∅ ?_);have uz:=Z.pushA ∅ (λj p g=>m3 j p ∅ ∅);refine cg (λe7=>?_) λe7=>?_
    .have S:n+1+1=a.size:=by simpa using e7
     exact aJ ⟨G,.inl ⟨_,_,rfl,uz.last S (iX ∅ S)⟩⟩
    have S:n+1+1≠a.size:=by simpa using e7
    refine cg (λe8=>?_) λe8=>?_
    .exact aJ ⟨G,.inr ⟨_,_,_,_,_,_,rfl,uz,∅,∅,∅⟩⟩
    .exact aJ ⟨G,_,_,_,_,_,_,rfl,uz,∅,∅,∅⟩
   clear_value jp3;refine cg (λA4=>?_) (λA4=>?_)
   .have Z:=P.extB (k:=k') ∅ (λi O g1 g2 j p g3=>bC.trans (ki (m2 i O g1 g2)) (pf g3 p));refine cg (λe6=>?_) λe6=>?_
    .exact aJ ⟨G,.inl ⟨_,_,rfl,Z.doneA (by simpa using e6)⟩⟩
    have e6':l+1+k'≠b.size:=by simpa using e6
    exact ux _ _ Z ∅ ∅
   .exact ux _ _ P ∅ ∅
  clear_value jp2;refine cg (λhk0=>?_) (λhk0=>?_)
  .have W:eZ κ a b (d++a.extract f (f+k)) (f+k) l:=v.extA ∅ λi O g1 g2 j p g3=>(b_ i O g1 g2).trans (jr g3 p);refine cg (λH=>?_) λH=>?_
   .have nI:f+k+1=a.size:=by simpa using H
    exact aJ ⟨G,.inl ⟨_,_,rfl,W.last nI (iX ∅ nI)⟩⟩
   have nI:f+k+1≠a.size:=by simpa using H
   refine cg (λe4=>?_) λe4=>?_
   .exact aJ ⟨G,.inl ⟨_,_,rfl,W.doneB (by simpa using e4)⟩⟩
   have e4':f+k≠a.size:=by simpa using e4
   exact uv _ _ W ∅ ∅
  .exact uv _ _ v ∅ ∅
 exact cg (λ_=>p _ _ u) λ_=>p _ _ u
end
def zo(d:KeyKind):KeyKind where
 α:=d.α
 blt:=λa b=>d.blt b a
 irrefl:=d.irrefl
 trans:=λa b c g f=>d.trans c b a f g
 negTrans:=λa b c h=>(d.negTrans c b a h).symm
 total:=λa b g f=>d.total a b f g
 keyOf:=d.keyOf
 dflt:=d.dflt
section
variable{κ:KeyKind}{g:gU}
theorem rq{x y:Keyed}(h:bC κ y x):bC (zo κ) x y:=h
theorem Bj{a:Array Keyed}{n:Nat}(h:0<n)(b:n<=a.size):(a.toList.take n).reverse=(a[n-1]'∅)::(a.toList.take (n-1)).reverse:=by
 obtain⟨m,rfl⟩:∃m,n=m+1:=⟨n-1,∅⟩
 rw[FO (by simp;lia),FQ];simp
theorem Em(a:Array Keyed)(p n:Nat)(b:p<=n):a.toList.take n=a.toList.take p++(a.extract p n).toList:=by
 rw[j4]
 conv=>lhs;rw[show n=p+(n-p) by lia]
 rw[List.take_add]
theorem pY{a:Array Keyed}{n:Nat}(d:n<=a.size){x:Keyed}(h:x∈a.toList.take n):∃j,∃f:j<a.size,j<n/\a[j]=x:=by
 obtain⟨m,b,e⟩:=xA h;rw[AF]at e;have c:m<n:=by simp at b;lia
 exact⟨m,∅,c,by simpa using e⟩
theorem yZ{a:Array Keyed}{p n:Nat}(d:n<=a.size){x:Keyed}(h:x∈(a.extract p n).toList):∃j,∃f:j<a.size,p<=j/\j<n/\a[j]=x:=by
 rw[j4]at h;obtain⟨m,b,e⟩:=xA h;rw[AF,AE]at e;have c:p+m<n:=by simp at b;lia
 exact⟨p+m,∅,∅,c,by simpa using e⟩
theorem ou(a:Array Keyed)(n:Nat):(a.extract 0 n).toList=a.toList.take n:=by rw[j4];simp
structure e_(κ:KeyKind)(a b c:Array Keyed)(f d:Nat):Prop where
 ms:MS (zo κ) (a.toList++b.toList) c.toList (a.toList.take f).reverse (b.toList.take d).reverse
 la:f<=a.size
 lb:d<=b.size
variable{a b c:Array Keyed}{f d:Nat}
theorem e_.pushA(h:e_ κ a b c f d)(o:0<f)(p:f-1<a.size)(l:∀j (i:j<b.size),j<d->bC κ b[j] a[f-1]):e_ κ a b (c.push a[f-1]) (f-1) d:=by refine⟨?_,∅,h.lb⟩;rw[tF];refine MS.stepA (by rw[AG,<-Bj o h.la];exact h.ms) λu n v m=>?_;obtain⟨j,i,q,rfl⟩:=pY h.lb (o5.mp m);rw[eR.mp n];exact rq (l j i q)
theorem e_.pushB(h:e_ κ a b c f d)(o:0<d)(p:d-1<b.size)(l:∀j (i:j<a.size),j<f->bC κ a[j] b[d-1]):e_ κ a b (c.push b[d-1]) f (d-1):=by refine⟨?_,h.la,∅⟩;rw[tF];refine MS.stepB (by rw[AG,<-Bj o h.lb];exact h.ms) λu n v m=>?_;obtain⟨j,i,q,rfl⟩:=pY h.la (o5.mp m);rw[eR.mp n];exact rq (l j i q)
theorem e_.extA{p:Nat}(h:e_ κ a b c f d)(l:p<=f)(o:∀i (n:i<a.size),p<=i->i<f->∀j (m:j<b.size),j<d->bC κ b[j] a[i]):e_ κ a b (c++(a.extract p f).reverse) p d:=by refine⟨?_,cA l h.la,h.lb⟩;rw[gz,Array.toList_reverse];refine MS.stepA (by rw[<-FQ,<-Em _ _ _ l];exact h.ms) λu r v q=>?_;obtain⟨j,m,x,rfl⟩:=pY h.lb (o5.mp q);obtain⟨i,n,w,s,rfl⟩:=yZ h.la (o5.mp r);exact rq (o i n w s j m x)
theorem e_.extB{p:Nat}(h:e_ κ a b c f d)(l:p<=d)(o:∀i (n:i<b.size),p<=i->i<d->∀j (m:j<a.size),j<f->bC κ a[j] b[i]):e_ κ a b (c++(b.extract p d).reverse) f p:=by refine⟨?_,h.la,cA l h.lb⟩;rw[gz,Array.toList_reverse];refine MS.stepB (by rw[<-FQ,<-Em _ _ _ l];exact h.ms) λu r v q=>?_;obtain⟨j,m,x,rfl⟩:=pY h.la (o5.mp q);obtain⟨i,n,w,s,rfl⟩:=yZ h.lb (o5.mp r);exact rq (o i n w s j m x)
theorem xY{T:List Keyed}{r q:Array Keyed}(h:fQ (zo κ) T q)(e:r.toList=q.toList.reverse):fQ κ T r:=by refine⟨by rw[e];exact(FR _).trans h.1,?_⟩;rw[e,FS];exact h.2
theorem e_.doneA(h:e_ κ a b c f d)(e:f=0):fQ κ (a.toList++b.toList) (a.extract 0 f++b.extract 0 d++c.reverse):=by have:=h.ms;rw[e,AA,List.reverse_nil]at this;refine xY (q:=(c.toList++(b.toList.take d).reverse).toArray) (this.swap.endA (by simp)) ?_;rw[gz,gz,ou,ou,e];simp
theorem e_.doneB(h:e_ κ a b c f d)(e:d=0):fQ κ (a.toList++b.toList) (a.extract 0 f++b.extract 0 d++c.reverse):=by have:=h.ms;rw[e,AA,List.reverse_nil]at this;refine xY (q:=(c.toList++(a.toList.take f).reverse).toArray) (this.endA (by simp)) ?_;rw[gz,gz,ou,ou,e];simp
theorem e_.first(h:e_ κ a b c f d)(e:d=1)(p:∀j (n:j<a.size),bC κ (b[0]'(by have:=h.lb;lia)) a[j]):fQ κ (a.toList++b.toList) (b.extract 0 d++a.extract 0 f++c.reverse):=by
 refine xY (q:=(c.toList++((a.toList.take f).reverse++(b.toList.take d).reverse)).toArray) (h.ms.swap.last (λu m v l=>?_) (by simp)) ?_
 .obtain⟨i,o,s,rfl⟩:=pY h.la (o5.mp m);obtain⟨j,n,r,rfl⟩:=pY h.lb (o5.mp l);have:j=0:=∅
  subst this;exact rq (p i o)
 .rw[gz,gz,ou,ou];simp
end
section
variable{f:aL}{w:aE}{A:aS}{E:ah->ao->Prop}{s:ao}{d:KeyKind}{l:gU}
theorem Je(hO:ik d l f w A s){T:bw}(hk:SB l T){a b:Array Keyed}{Q:Array Keyed->bw->Prop}(ha:0<a.size)(hb:0<b.size)(hA:∀i (hi:i<a.size),f9 d a[i]) (hB:∀i (hi:i<b.size),f9 d b[i]) (sa:sw d a) (sb:sw d b)(h0:bC d b[0] a[0]) (hl:∀j (z:j<b.size),bC d b[j] a[a.size-1])(h:∀r K,fP T K->fQ d (a.toList++b.toList) r->Q r K):wpS (aw f w) A E s (D5 a b) Q T:=by
 have jr:∀{i j:Nat} (S:i<=j) (z:j<b.size),bC d (b[i]'∅) b[j]:=λ{i j} S z=>sb i j z S;have pf:∀{i j:Nat} (S:i<=j) (z:j<a.size),bC d (a[i]'∅) a[j]:=λ{i j} S z=>sa i j z S;have hf:∀j (z:j<a.size),bC d b[0] a[j]:=λj z=>h0.trans (pf ∅ z);have I0:e_ d a b #[a[a.size-1]] (a.size-1) b.size:=by
  have C:e_ d a b #[] a.size b.size:=by
   refine⟨⟨?_,by simp,?_,?_,by simp,by simp⟩,∅,∅⟩
   .simp only[<-jG,tN,fH];exact List.Perm.append (FR _) (FR _)
   .simp only[<-jG,tN,FS];exact sa.pw
   .simp only[<-jG,tN,FS];exact sb.pw
  exact C.pushA ha ∅ λj z _=>hl j z
 unfold D5;refine aD (qT (me ⟨rfl,?_⟩));refine aD (eG ∅ ?_);refine cg (λe1=>aJ (h _ _ .rfl (I0.doneA (by simpa using e1)))) λe1=>?_;have q0:a.size-1≠0:=by simpa using e1
 refine cg (λe2=>?_) λe2=>?_
 .have kq:b.size=1:=by simpa using e2
  exact aJ (h _ _ .rfl (I0.first kq hf))
 have kq:b.size≠1:=by simpa using e2
 refine aD (kh ?_);refine aD (fV (fW (I:=λx c K=>fP T K/\∃u v q P,c=(ae,v,q,u,P)/\e_ d a b u v q/\0<v/\v<=a.size/\1<q/\q<=b.size/\x+1+v+q<=a.size+b.size) (Q:=λc K=>fP T K/\∃r,c.1=aa r/\fQ d (a.toList++b.toList) r) ?_ ?_ ?_) ?_);rotate_left
 .rintro c K ⟨_,u,v,q,P,rfl,B,C,M,L,O,W⟩;lia
 .exact⟨.rfl,_,_,_,_,rfl,I0,∅,∅,∅,∅,∅⟩
 .rintro⟨c1,c⟩ K ⟨J,r,rfl,hD⟩;exact aJ (h r K J hD)
 rintro x c K _ hx ⟨J,u,v,q,P,rfl,B,C,M,L,O,W⟩;refine aD (fV (fW (I:=λy c G=>G=K/\∃u v q H F,c=(ae,v,q,u,H,F)/\e_ d a b u v q/\0<v/\v<=a.size/\1<q/\q<=b.size/\x+1+y+v+q<=a.size+b.size) (Q:=λc G=>G=K/\((∃r c',c=(aa r,c')/\fQ d (a.toList++b.toList) r)\/∃u v q H F,c=(ae,v,q,u,H,F)/\e_ d a b u v q/\0<v/\v<=a.size/\1<q/\q<=b.size/\x+1+1+v+q<=a.size+b.size)) ?_ ?_ ?_) ?_)
 .rintro y c G _ hy ⟨rfl,u,v,q,H,F,rfl,B,C,M,L,O,W⟩;dsimp only;refine aD (eG ∅ (aD (eG ∅ (aD (s_ hO (J.sb hk) (hB (q-1) ∅) (hA (v-1) ∅) ?_)))));cases e:d.blt (kO d (b[q-1]'∅)) (kO d (a[v-1]'∅))with
  |true=>
   dsimp only;rw[if_pos rfl];refine aD (eG ∅ ?_);have X:=B.pushA C ∅ λj z eB=>bC.trans (jr (show j<=q-1 by lia) ∅) (ki e);refine cg (λN=>?_) λN=>?_
   .exact aJ ⟨rfl,.inl ⟨_,_,rfl,X.doneA (by simpa using N)⟩⟩
   have nI:v-1≠0:=by simpa using N
   refine cg (λe4=>?_) λe4=>?_
   .exact aJ ⟨rfl,.inr ⟨_,_,_,_,_,rfl,X,∅,∅,∅,∅,∅⟩⟩
   .exact aJ ⟨rfl,_,_,_,_,_,rfl,X,∅,∅,∅,∅,∅⟩
  |false=>
   dsimp only;rw[if_neg (by simp)];refine aD (eG ∅ ?_);have X:=B.pushB ∅ ∅ λj z eB=>bC.trans (pf (show j<=v-1 by lia) ∅) (show bC d (a[v-1]'∅) (b[q-1]'∅)from e);refine cg (λN=>?_) λN=>?_
   .exact aJ ⟨rfl,.inl ⟨_,_,rfl,X.first (by simpa using N) hf⟩⟩
   have nI:q-1≠1:=by simpa using N
   refine cg (λe4=>?_) λe4=>?_
   .exact aJ ⟨rfl,.inr ⟨_,_,_,_,_,rfl,X,∅,∅,∅,∅,∅⟩⟩
   .exact aJ ⟨rfl,_,_,_,_,_,rfl,X,∅,∅,∅,∅,∅⟩
 .rintro c G ⟨rfl,u,v,q,H,F,rfl,B,C,M,L,O,W⟩;lia
 .exact⟨rfl,_,_,_,_,_,rfl,B,C,M,L,O,∅⟩
 rintro c G ⟨rfl,⟨r,c',rfl,hD⟩|⟨u,v,q,H,F,rfl,B,C,M,L,O,W⟩⟩
 .exact aJ ⟨J,r,rfl,hD⟩
 refine aD (qT (me ⟨rfl,?_⟩));refine aD (fV (fW (I:=λy c G=>fP T G/\∃u v q P H F,c=(ae,v,q,u,P,H,F)/\e_ d a b u v q/\0<v/\v<=a.size/\1<q/\q<=b.size/\x+2+y+v+q<=a.size+b.size) (Q:=λc G=>fP T G/\((∃r c',c=(aa r,c')/\fQ d (a.toList++b.toList) r)\/∃u v q P H F,c=(ae,v,q,u,P,H,F)/\e_ d a b u v q/\0<v/\v<=a.size/\1<q/\q<=b.size/\x+1+1+v+q<=a.size+b.size)) ?_ ?_ ?_) ?_);rotate_left
 .rintro c G ⟨_,u,v,q,P,H,F,rfl,B,C,M,L,O,W⟩;lia
 .exact⟨J,_,_,_,_,_,_,rfl,B,C,M,L,O,∅⟩
 .rintro c G ⟨J,⟨r,c',rfl,hD⟩|⟨u,v,q,P,H,F,rfl,B,C,M,L,O,W⟩⟩
  .exact aJ ⟨J,r,rfl,hD⟩
  .dsimp only;exact aD (yC J λZ D=>aJ ⟨D,_,_,_,_,rfl,B,C,M,L,O,∅⟩)
 clear C M L O W B J I0 e1 e2;rintro y c G _ hy ⟨J,u,v,q,P,H,F,rfl,B,C,M,L,O,W⟩;clear hx hy;refine(?_:wpS (aw f w) A E s _ ?Q _);extract_lets -merge x1 x2 x3 x4 x5 x6 x7 x8 x9 xa xb xc jp;have z:∀g Z,fP T Z->wpS (aw f w) A E s (jp () g) ?Q Z:=by
  intro g Z D;dsimp -zeta only[jp,x1,x2,x3,x4,x5,x6,x7,x8,x9,xa,xb,xc];refine aD (yC D λZ D=>?_);refine aD (eG ∅ ?_);refine aD (zt hO (D.sb hk) (base:=0) (n:=v) (hint:=v-1) (hB (q-1) ∅) ∅ hA (λi j S z _=>pf S ∅) ∅ λp gn b_ fj=>?_);dsimp -zeta only;extract_lets -merge y1 y2 jp2;have uv:∀n o,e_ d a b o n q->0<n->n<=p->wpS (aw f w) A E s (jp2 () n o) ?Q Z:=by
   intro n o uw nI e4;dsimp -zeta only[jp2,y1,y2];refine aD (eG ∅ ?_);have Y:=uw.pushB ∅ ∅ λj z g=>b_ j z ∅ ∅;refine cg (λe5=>?_) λe5=>?_
   .exact aJ ⟨D,.inl ⟨_,_,rfl,Y.first (by simpa using e5) hf⟩⟩
   have e5':q-1≠1:=by simpa using e5
   refine aD (eG ∅ ?_);refine aD (yW hO (D.sb hk) (base:=0) (n:=q-1) (hint:=q-1-1) (hA _ _) ∅ hB (λi j S z _=>jr S ∅) ∅ λp' m1 m2 m3=>?_);dsimp -zeta only;extract_lets -merge z1 z2 z3 jp3;have ux:∀m o,e_ d a b o n m->1<m->m<=p'->wpS (aw f w) A E s (jp3 () m o) ?Q Z:=by
    intro m o uy e6 e7;dsimp -zeta only[jp3,z1,z2,z3];refine aD (eG ∅ ?_);have uz:=uy.pushA ∅ ∅ (λj z g=>ki (m2 j z ∅ ∅));refine cg (λe7=>?_) λe7=>?_
    .exact aJ ⟨D,.inl ⟨_,_,rfl,uz.doneA (by simpa using e7)⟩⟩
    have e7':n-1≠0:=by simpa using e7
    refine cg (λe8=>?_) λe8=>?_
    .exact aJ ⟨D,.inr ⟨_,_,_,_,_,_,rfl,uz,∅,∅,∅,∅,∅⟩⟩
    .exact aJ ⟨D,_,_,_,_,_,_,rfl,uz,∅,∅,∅,∅,∅⟩
   clear_value jp3;refine cg (λA4=>?_) (λA4=>?_)
   .have uy:=Y.extB (p:=p') ∅ (λi hi g1 g2 j z g3=>bC.trans (pf (show j<=n-1 by lia) ∅) (m3 i hi ∅ ∅));refine cg (λe6=>?_) λe6=>?_
    .exact aJ ⟨D,.inl ⟨_,_,rfl,uy.first (by simpa using e6) hf⟩⟩
    refine cg (λe9=>?_) λe9=>?_
    .exact aJ ⟨D,.inl ⟨_,_,rfl,uy.doneB (by simpa using e9)⟩⟩
    have e6':p'≠1:=by simpa using e6
    have e9':p'≠0:=by simpa using e9
    exact ux _ _ uy ∅ ∅
   .exact ux _ _ Y ∅ ∅
  clear_value jp2;refine cg (λhk0=>?_) (λhk0=>?_)
  .have uw:e_ d a b (u++(a.extract p v).reverse) p q:=B.extA ∅ λi hi g1 g2 j z g3=>bC.trans (jr (show j<=q-1 by lia) ∅) (ki (fj i hi ∅ ∅));refine cg (λN=>?_) λN=>?_
   .exact aJ ⟨D,.inl ⟨_,_,rfl,uw.doneA (by simpa using N)⟩⟩
   have nI:p≠0:=by simpa using N
   exact uv _ _ uw ∅ ∅
  .exact uv _ _ B ∅ ∅
 exact cg (λ_=>z _ _ J) λ_=>z _ _ J
end
def putL(a:Array Keyed)(c:Nat)(l:List Keyed):Array Keyed:=l.zipIdx.foldl (λa (b:Keyed×Nat)=>a.setIfInBounds (c+b.2) b.1) a
theorem ym:∀(l:List Keyed) (n b:Nat) (a:Array Keyed),b+n+l.length<=a.size -> ((l.zipIdx n).foldl (λa (c:Keyed×Nat)=>a.setIfInBounds (b+c.2) c.1) a).size=a.size /\ ∀k,((l.zipIdx n).foldl (λa (c:Keyed×Nat)=>a.setIfInBounds (b+c.2) c.1) a)[k]?=if b+n<=k/\k<b+n+l.length then l[k-(b+n)]? else a[k]?
 |[],n,b,a,_=>⟨rfl,λk=>by rw[if_neg (by simp)];rfl⟩
 |x::l,n,b,a,h=>by
  have g:b+(n+1)+l.length<=(a.setIfInBounds (b+n) x).size:=by simp at h ⊢;lia
  obtain⟨j,i⟩:=ym l (n+1) b (a.setIfInBounds (b+n) x) g;rw[List.zipIdx_cons,j_];refine⟨by rw[j];simp,λk=>?_⟩;rw[i];by_cases f:b+n=k
  .subst f;rw[if_neg ∅,if_pos (by simp)];rw[Array.getElem?_setIfInBounds_self_of_lt (by simp at h;lia)];simp
  .by_cases d:b+(n+1)<=k/\k<b+(n+1)+l.length
   .rw[if_pos d,if_pos (by simp;lia)];rw[show k-(b+n)=k-(b+(n+1))+1 by lia,List.getElem?_cons_succ]
   .rw[if_neg d,if_neg (by simp;lia),Array.getElem?_setIfInBounds_ne f]
theorem Ii{a:Array Keyed}{b:Nat}{l:List Keyed}(h:b+l.length<=a.size):(putL a b l).size=a.size:=(ym l 0 b a ∅).1
theorem y9{a:Array Keyed}{b:Nat}{l:List Keyed}(h:b+l.length<=a.size)(k:Nat):(putL a b l)[k]?=if b<=k/\k<b+l.length then l[k-b]? else a[k]? :=(ym l 0 b a ∅).2 k
theorem ML{a:Array Keyed}{b n:Nat}{l:List Keyed}(h:b+n<=a.size)(d:l.Perm ((a.toList.drop b).take n)):(putL a b l).toList.Perm a.toList:=by
 have f:l.length=n:=by rw[d.length_eq,jk,m8];simp;lia
 have e:(putL a b l).toList=a.toList.take b++(l++a.toList.drop (b+n)):=by
  apply Ax;intro k;rw[tP,y9 ∅,List.getElem?_append,List.getElem?_append,jk,List.getElem?_take,List.getElem?_drop,f];simp only[jG,tP];rw[show min b a.size=b by lia];by_cases c:k<b
  .rw[if_neg ∅,if_pos c,if_pos c]
  .rw[if_neg c];by_cases i:k<b+n
   .rw[if_pos ∅,if_pos ∅]
   .rw[if_neg ∅,if_neg ∅];congr 1;lia
 rw[e];have g:a.toList=a.toList.take b++((a.toList.drop b).take n++a.toList.drop (b+n)):=by rw[<-List.drop_drop,qJ,qJ]
 conv=>rhs;rw[g]
 exact FE _ (List.Perm.append_right _ d)
section
variable{κ:KeyKind}{kz:gU}
def Run(κ:KeyKind)(a:Array Keyed)(b n:Nat):Prop:=∀i j x y,b<=i->i<=j->j<b+n->a[i]?=aa x->a[j]?=aa y->bC κ x y
theorem bC.refl(x:Keyed):bC κ x x:=lr _
structure Wr(a a':Array Keyed)(lo n:Nat):Prop where
 perm:a'.toList.Perm a.toList
 size:a'.size=a.size
 out:∀k,k<lo\/lo+n<=k->a'[k]?=a[k]?
theorem Run.keep{a m:Array Keyed}{c n b f:Nat}(h:Run κ a c n)(w:Wr a m b f)(d:c+n<=b\/b+f<=c):Run κ m c n:=by intro i j x y q p o l g;rw[w.out i ∅]at l;rw[w.out j ∅]at g;exact h i j x y q p o l g
end
section
variable{b:aL}{w:aE}{A:aS}{E:ah->ao->Prop}{s:ao}{κ:KeyKind}{c:gU}
theorem NB{a:Type}{M:Model}{Q:PUnit->a->Prop}{f d:a}(h:Q ⟨⟩ d):wpS M A E s (set d:StateT a Sem PUnit) Q f:=by unfold wpS;rw[StateT.run_set];exact aC ⟨rfl,h⟩
theorem Pg(a:Array Keyed){p q t:Nat}(f:p<=q)(d:q<=t):(a.extract p q).toList++(a.extract q t).toList=(a.extract p t).toList:=by rw[j4,j4,j4,show t-p=(q-p)+(t-q) by lia,List.take_add,List.drop_drop,show p+(q-p)=q by lia]
theorem Ou{a:Array Keyed}{d f p k g:Nat}(hsz:d+f+p<=a.size)(hk:k<f)(h0:0<g)(hnb:g<=p)(Z:Run κ a d f)(Y:Run κ a (d+f) p)(a1:∀i (o:i<a.size),d<=i->i<d+k->bC κ a[i] (a[d+f]'∅)) (b2:∀i (o:i<a.size),d+f+g<=i->i<d+f+p->bC κ (a[d+f-1]'∅) a[i]){r:Array Keyed} (v:fQ κ ((a.extract (d+k) (d+f)).toList++(a.extract (d+f) (d+f+g)).toList) r):Wr a (putL a (d+k) r.toList) d (f+p)/\Run κ (putL a (d+k) r.toList) d (f+p):=by
 rw[Pg _ ∅ ∅]at v;have aH:r.toList.length=f-k+g:=by rw[v.1.length_eq,j4,jk,m8,jG];lia
 have F:d+k+r.toList.length<=a.size:=∅
 have C:∀m∈r.toList,∃t,∃D:t<a.size,d+k<=t/\t<d+f+g/\a[t]=m:=λm C=>yZ ∅ (v.1.mem_iff.mp C);have H:∀{i j:Nat} (B:i<=j) (l:j<d+f),d<=i->bC κ (a[i]'∅) (a[j]'∅):=λ{i j} B l o=>Z i j _ _ o B l (getElem?_pos _ _ _) (getElem?_pos _ _ _);have G:∀{i j:Nat} (B:i<=j) (l:j<d+f+p),d+f<=i->bC κ (a[i]'∅) (a[j]'∅):=λ{i j} B l o=>Y i j _ _ o B l (getElem?_pos _ _ _) (getElem?_pos _ _ _);have K:∀i (o:i<a.size) j (l:j<a.size),d<=i->i<d+k->d+f<=j->j<d+f+p->bC κ a[i] a[j]:=λi o j l c1 J O c4=>(a1 i o c1 J).trans (G O c4 (aZ _));refine⟨⟨?_,Ii F,λq hq=>?_⟩,?_⟩
 .refine ML (n:=f-k+g) ∅ ?_;have:=v.1;rwa[j4,show d+f+g-(d+k)=f-k+g by lia]at this
 .rw[y9 F,if_neg ∅]
 .intro i j x y h1 L h3 u h;rw[y9 F]at u h;by_cases N:d+k<=i/\i<d+k+r.toList.length
  .rw[if_pos N]at u;obtain⟨t,D,X,W,rfl⟩:=C x (oS u);by_cases z:d+k<=j/\j<d+k+r.toList.length
   .rw[if_pos z]at h;by_cases I:i=j
    .subst I;rw[u]at h;cases h;exact bC.refl _
    .obtain⟨T,S⟩:=cY.mp u;obtain⟨Q,P⟩:=cY.mp h;have:=List.pairwise_iff_getElem.mp v.2 (i-(d+k)) (j-(d+k)) T Q ∅;rw[S,P]at this;exact this
   .rw[if_neg z]at h;obtain⟨l,rfl⟩:=nj.mp h;by_cases M:t<d+f
    .exact(H (show t<=d+f-1 by lia) ∅ ∅).trans (b2 j l ∅ ∅)
    .exact G ∅ ∅ ∅
  .rw[if_neg N]at u;obtain⟨o,rfl⟩:=nj.mp u;by_cases z:d+k<=j/\j<d+k+r.toList.length
   .rw[if_pos z]at h;obtain⟨t,D,X,W,rfl⟩:=C y (oS h);by_cases M:t<d+f
    .exact H ∅ M ∅
    .exact K i o t D ∅ ∅ ∅ ∅
   .rw[if_neg z]at h;obtain⟨l,rfl⟩:=nj.mp h;by_cases J:i<d+k
    .by_cases O:j<d+k
     .exact H L ∅ h1
     .exact K i o j l ∅ J ∅ ∅
    .exact G L ∅ ∅
theorem BA{a:Array Keyed}{f d g:Nat}(q:f+d+g<=a.size)(u:0<d)(r:0<g)(n:Run κ a f d)(m:Run κ a (f+d) g)(v:bC κ (a[f+d-1]'∅) (a[f+d]'∅)):Run κ a f (d+g):=by
 intro i j x y p o B l h;by_cases z:j<f+d
 .exact n i j x y p o z l h
 .by_cases C:i<f+d
  .exact((n i (f+d-1) x _ p ∅ ∅ l (getElem?_pos _ _ _)).trans v).trans (m (f+d) j _ y ∅ ∅ ∅ (getElem?_pos _ _ _) h)
  .exact m i j x y ∅ o ∅ l h
theorem Wr.same{a:Array Keyed}{lo n:Nat}:Wr a a lo n:=⟨qN _,rfl,λ_ _=>rfl⟩
theorem MG(K:ik κ c b w A s){o:bw}(hk:SB c o)(x:∀i (m:i<(arrOf o).size),f9 κ (arrOf o)[i]){i d a pw g F:Nat}(N:(bg o)[i]?=aa (d,a,pw)) (M:(bg o)[i+1]?=aa (d+a,g,F)) (y:0<a) (G:0<g) (p:d+a+g<=(arrOf o).size)(B:Run κ (arrOf o) d a) (z:Run κ (arrOf o) (d+a) g) {Q:Bool->bw->Prop}(h:∀u,SB c u->bg u=((bg o).setIfInBounds i (d,a+g,pw)).eraseIdxIfInBounds (i+1)->Wr (arrOf o) (arrOf u) d (a+g)->Run κ (arrOf u) d (a+g)->Q ai u):wpS (aw b w) A E s (mergeAt' i) Q o:=by
 obtain⟨kd,f,J,mg,fl⟩:=o;have S:c=kd:=hk.kind.symm;have o_:fl=ae:=hk.failed;subst o_;subst S;replace x:∀i (m:i<f.size),f9 κ f[i]:=x;replace p:d+a+g<=f.size:=p;replace B:Run κ f d a:=B;replace z:Run κ f (d+a) g:=z;replace N:J[i]?=aa (d,a,pw):=N;replace M:J[i+1]?=aa (d+a,g,F):=M;replace h:∀u,SB c u->bg u=(J.setIfInBounds i (d,a+g,pw)).eraseIdxIfInBounds (i+1)->Wr f (arrOf u) d (a+g)->Run κ (arrOf u) d (a+g)->Q ai u:=h;have g1:∀{i j:Nat} (q:i<=j) (l:j<d+a),d<=i->bC κ (f[i]'∅) (f[j]'∅):=λ{i j} q l m=>B i j _ _ m q l (getElem?_pos _ _ _) (getElem?_pos _ _ _);have g2:∀{i j:Nat} (q:i<=j) (l:j<d+a+g),d+a<=i->bC κ (f[i]'∅) (f[j]'∅):=λ{i j} q l m=>z i j _ _ m q l (getElem?_pos _ _ _) (getElem?_pos _ _ _);unfold mergeAt';refine aD (kh ?_);dsimp only;rw[N,M];dsimp only;refine aD (NB ?_);generalize (J.setIfInBounds i (d,a+g,pw)).eraseIdxIfInBounds (i+1)=pend at *;refine aD (eG ∅ ?_);refine aD (zt K ⟨rfl,rfl⟩ (base:=d) (n:=a) (hint:=0) (x _ _) ∅ x (λi j q l m=>g1 q l m) y λk m1 m2 m3=>?_);dsimp only;refine cg (λX=>?_) λX=>?_
 .have Y:a<=k:=by have:a-k=0:=(by simpa using X);lia
  refine aJ (h _ ⟨rfl,rfl⟩ rfl Wr.same (BA p y G B z (m2 _ _ ∅ ∅)))
 have Y:k<a:=by have:a-k≠0:=(by simpa using X);lia
 refine aD (eG ∅ ?_);refine aD (yW K ⟨rfl,rfl⟩ (base:=d+a) (n:=g) (hint:=g-1) (x _ _) ∅ x (λi j q l m=>g2 q l m) ∅ λv n1 Z O=>?_);dsimp only;have H:d+k+(a-k)-1=d+a-1:=∅
 simp only[H]at Z O;refine cg (λW=>?_) λW=>?_
 .have kq:v=0:=by simpa using W
  refine aJ (h _ ⟨rfl,rfl⟩ rfl Wr.same (BA p y G B z (O _ _ ∅ ∅)))
 have kq:v≠0:=by simpa using W
 have xs:(f.extract (d+k) (d+a)).size=a-k:=by simp;lia
 have ys:(f.extract (d+a) (d+a+v)).size=v:=by simp;lia
 refine cg (λ_=>?_) λ_=>?_
 all_goals
  first
   |refine aD (MK K ⟨rfl,rfl⟩ ∅ ∅ ?_ ?_ ?_ ?_ ?_ ?_ ?_)
   |refine aD (Je K ⟨rfl,rfl⟩ ∅ ∅ ?_ ?_ ?_ ?_ ?_ ?_ ?_)
  .intro j l;rw[ml];exact x _ _
  .intro j l;rw[ml];exact x _ _
  .intro i j l q;rw[ml,ml];exact g1 ∅ ∅ ∅
  .intro i j l q;rw[ml,ml];exact g2 ∅ ∅ ∅
  .rw[ml,ml];exact ki (m3 _ _ ∅ ∅)
  .intro j l;rw[ml,ml];have:=Z (d+a+j) ∅ ∅ ∅;have e:d+k+((f.extract (d+k) (d+a)).size-1)=d+a-1:=∅
   simp only[e];exact ki this
  .rintro r ⟨P,I,L,mg',T⟩ ⟨D,C,c3,c4⟩ hD;change P=c at D;change I=f at C;change L=pend at c3;change T=ae at c4;subst D C c3 c4;refine aD (mj ?_);refine aD (kh ?_);obtain⟨w1,w2⟩:=Ou p Y ∅ n1 B z (λi m D C=>m2 i m D C) (λi m D C=>O i m D C) hD;exact aJ (h _ ⟨rfl,rfl⟩ rfl w1 w2)
end
section
variable{κ:KeyKind}{kz:gU}
theorem yx{a:Array Keyed}{i:Nat}{x:Keyed}(h:a[i]?=aa x):KK κ a i=kO κ x:=by unfold KK kO;rw[h]
theorem wf{a:Array Keyed}{i:Nat}(h:i<a.size):KK κ a i=kO κ a[i]:=yx (getElem?_pos _ _ _)
def gs(κ:KeyKind)(a:Array Keyed)(lo n:Nat):Prop:=∀i j,lo<=i->i<=j->j<lo+n->κ.kle (KK κ a i) (KK κ a j)
def mB(κ:KeyKind)(a:Array Keyed)(lo n:Nat):Prop:=∀i j,lo<=i->i<=j->j<lo+n->κ.kle (KK κ a j) (KK κ a i)
theorem gs.run{a:Array Keyed}{b n:Nat}(h:gs κ a b n):Run κ a b n:=by intro i j x y l g f d c;have:=h i j l g f;rw[yx d,yx c]at this;exact this
theorem Wr.trans{a b c:Array Keyed}{lo n:Nat}(f:Wr a b lo n)(d:Wr b c lo n):Wr a c lo n :=⟨d.perm.trans f.perm,d.size.trans f.size,λk g=>(d.out k g).trans (f.out k g)⟩
theorem Wr.mono{a b:Array Keyed}{d n c f:Nat}(h:Wr a b d n)(j:c<=d)(i:d+n<=c+f):Wr a b c f :=⟨h.perm,h.size,λk g=>h.out k ∅⟩
theorem GA{a:Array Keyed}{i j:Nat}(b:j<=a.size)(d:i<=j):Wr a (mirror a i j ((j-i) / 2)) i (j-i) :=⟨FT.mp (mirror_perm _ _ _ _),mirror_size _ _ _ _,λk c=>by rw[getElem?_mirror_all b,if_neg ∅]⟩
theorem KJ{a:Array Keyed}{b d:Nat}(c:b<a.size)(f:d<=b):Wr a (bubble a b d) (b-d) (d+1) :=⟨FT.mp (bubble_perm _ _ _),bubble_size _ _ _,λk g=>by rw[getElem?_bubble c d f,if_neg ∅,if_neg ∅]⟩
def AllK(κ:KeyKind)(a:Array Keyed):Prop:=∀i (b:i<a.size),f9 κ a[i]
theorem AllK.of{a b:Array Keyed}(h:AllK κ a)(p:b.toList.Perm a.toList):AllK κ b:=by intro i f;have c:b[i]∈a.toList:=p.mem_iff.mp (by simp);obtain⟨j,d,e⟩:=xA c;rw[<-e];simpa using h j (by simpa using d)
end
section
variable{d:aL}{w:aE}{A:aS}{E:ah->ao->Prop}{s:ao}{κ:KeyKind}{f:gU}
theorem nW(m:ik κ f d w A s){a:bw}(l:SB f a)(g:AllK κ (arrOf a)){i j:Nat}{Q:Option Bool->bw->Prop}(c:i<(arrOf a).size)(b:j<(arrOf a).size)(h:Q (aa (κ.blt (KK κ (arrOf a) i) (KK κ (arrOf a) j))) a):wpS (aw d w) A E s (ltAt' i j) Q a:=by rw[wf c,wf b]at h;rw[ltAt'_eq];refine aD (kh ?_);exact aD (eG c (aD (eG b (s_ m l (g i c) (g j b) h))))
theorem sA{b a:bw}{lo n i j:Nat}{Q:Unit->bw->Prop}(m:SB f a)(o:bg a=bg b)(l:Wr (arrOf b) (arrOf a) lo n)(r:i<=j)(p:j<=(arrOf b).size)(q:lo<=i)(u:j<=lo+n)(h:∀c,SB f c->bg c=bg b->Wr (arrOf b) (arrOf c) lo n->(∀k,KK κ (arrOf c) k=if i<=k/\k<j then KK κ (arrOf a) (i+j-1-k)else KK κ (arrOf a) k)->Q () c):wpS (aw d w) A E s (reverseSlice' i j) Q a:=by
 have g:j<=(arrOf a).size:=by rw[l.size];exact p
 exact wpS_reverse (h _ ⟨m.kind,m.failed⟩ o (l.trans ((GA g r).mono q ∅)) λk=>KK_mirror g k)
theorem O8{i:Type}{c:Prop}[Decidable c]{j h:StateT bw Sem i}{Q:i->bw->Prop}{g:bw}{J:bw->Prop}(l:¬c->J g)(a:∀b,J b->wpS (aw d w) A E s h Q b)(m:c->(∀b,J b->wpS (aw d w) A E s h Q b)->wpS (aw d w) A E s j Q g):wpS (aw d w) A E s (if c then j else h) Q g :=cg (λe=>m e a) λe=>a g (l e)
theorem yX{a:Array Keyed}{lo x:Nat}(b:gs κ a lo x)(h:1<=x)(e:κ.kle (KK κ a (lo+x-1)) (KK κ a (lo+x))):gs κ a lo (x+1):=λi j c n o=>by
 by_cases l:j<lo+x
 .exact b i j c n l
 .have g:j=lo+x:=∅
  subst g;by_cases m:i=lo+x
  .subst m;exact lr _
  .exact tO (b i (lo+x-1) c ∅ ∅) e
theorem Br{a:Array Keyed}{lo x:Nat}(b:mB κ a lo x)(h:1<=x)(e:κ.kle (KK κ a (lo+x)) (KK κ a (lo+x-1))):mB κ a lo (x+1):=λi j c n o=>by
 by_cases l:j<lo+x
 .exact b i j c n l
 .have g:j=lo+x:=∅
  subst g;by_cases m:i=lo+x
  .subst m;exact lr _
  .exact tO e (b i (lo+x-1) c ∅ ∅)
theorem JW{a:Array Keyed}{lo x b:Nat}(g:∀i,lo+x-(b+1)<=i->i<lo+x->KK κ a i=KK κ a (lo+x-1))(h:KK κ a (lo+x)=KK κ a (lo+x-1)):∀i,lo+(x+1)-(b+1+1)<=i->i<lo+(x+1)->KK κ a i=KK κ a (lo+(x+1)-1):=λi l j=>by
 rw[show lo+(x+1)-1=lo+x by lia];by_cases c:i=lo+x
 .rw[c]
 .rw[g i ∅ ∅,h]
theorem B2{a b:Array Keyed}{i j n:Nat}(g:∀k,KK κ b k=if i<=k/\k<j then KK κ a (i+j-1-k)else KK κ a k)(c:∀k,i<=k->k<j->KK κ a k=KK κ a n):∀k,KK κ b k=KK κ a k:=λk=>by
 rw[g];split
 .rw[c _ ∅ ∅,c k ∅ ∅]
 .rfl
theorem Ho(S:ik κ f d w A s){v:bw}(P:SB f v)(T:AllK κ (arrOf v)){lo a:Nat}(h1:1<=a)(hsz:lo+a<=(arrOf v).size){Q:Option Nat->bw->Prop}(h:∀n p,SB f p->bg p=bg v->Wr (arrOf v) (arrOf p) lo a->1<=n->n<=a->gs κ (arrOf p) lo n->Q (aa n) p):wpS (aw d w) A E s (countRun' lo a) Q v:=by
 have one:gs κ (arrOf v) lo 1:=λi j r y D=>by
  have:i=j:=∅
  subst this;exact lr _
 have go:∀{u:bw},Wr (arrOf v) (arrOf u) lo a->(arrOf u).size=(arrOf v).size:=λw=>w.size;unfold countRun';refine aD (fV (fW (I:=λx c g=>g=v/\c=(ae,x)/\gs κ (arrOf v) lo x) (Q:=λc g=>g=v/\∃n,c=(ae,n)/\1<=n/\n<=a/\gs κ (arrOf v) lo n/\(n=a\/κ.klt (KK κ (arrOf v) (lo+n)) (KK κ (arrOf v) (lo+n-1)))) ?_ ?_ ?_) ?_)
 .rintro x c g ph pi ⟨rfl,rfl,o⟩;dsimp only;refine aD (nW S P T ∅ ∅ ?_);cases e:κ.blt (KK κ (arrOf g) (lo+x)) (KK κ (arrOf g) (lo+x-1))with
  |true=>exact aJ ⟨rfl,x,rfl,∅,∅,o,.inr e⟩
  |false=>exact aJ ⟨rfl,rfl,yX o ∅ e⟩
 .rintro c g ⟨rfl,rfl,o⟩;rw[show max 1 a=a by lia]at o ⊢;exact⟨rfl,a,rfl,∅,∅,o,.inl rfl⟩
 .exact⟨rfl,rfl,one⟩
 rintro c p ⟨rfl,n,rfl,n1,n2,o,hn⟩;dsimp only;refine cg (λe1=>aJ (h n p P rfl Wr.same n1 n2 o)) λe1=>?_;have q0:n≠a:=by simpa using e1
 replace hn:κ.klt (KK κ (arrOf p) (lo+n)) (KK κ (arrOf p) (lo+n-1)):=hn.resolve_left q0;refine O8 (J:=λC=>SB f C/\bg C=bg p/\Wr (arrOf p) (arrOf C) lo a/\mB κ (arrOf C) lo (n+1)) (λen=>⟨P,rfl,Wr.same,λi j r y D=>?_⟩) (λC ⟨b_,eY,q_,hD⟩=>?_) λen key=>?_
 .have en':n=1:=∅
  by_cases hi:i=j
  .subst hi;exact lr _
  .have e1:i=lo+n-1:=∅
   have e2:j=lo+n:=∅
   rw[e1,e2];exact ki hn
 .refine aD (qT (me ⟨rfl,?_⟩));refine aD (fV (fW (I:=λx c l=>∃b,c=(ae,x,b)/\SB f l/\bg l=bg p/\Wr (arrOf p) (arrOf l) lo a/\mB κ (arrOf l) lo x/\b+1<=x/\(∀i,lo+x-(b+1)<=i->i<lo+x->KK κ (arrOf l) i=KK κ (arrOf l) (lo+x-1))) (Q:=λc l=>∃m b,c=(ae,m,b)/\SB f l/\bg l=bg p/\Wr (arrOf p) (arrOf l) lo a/\1<=m/\m<=a/\mB κ (arrOf l) lo m/\b+1<=m/\(∀i,lo+m-(b+1)<=i->i<lo+m->KK κ (arrOf l) i=KK κ (arrOf l) (lo+m-1))) ?_ ?_ ?_) ?_)
  .rintro x c l ph pi ⟨b,rfl,B,G,z,F,hq,H⟩;have sz3:=z.size;dsimp only;refine aD (nW S B (T.of z.perm) ∅ ∅ ?_);cases e3:κ.blt (KK κ (arrOf l) (lo+x)) (KK κ (arrOf l) (lo+x-1))with
   |true=>
    have hd':mB κ (arrOf l) lo (x+1):=Br F ∅ (ki e3);dsimp only;rw[if_pos rfl];refine cg (λA5=>?_) λA5=>?_
    .refine aD (sA (κ:=κ) (lo:=lo) (n:=a) B G z ∅ ∅ ∅ ∅ λbF jt fZ W A6=>?_);have Y:=B2 A6 H;exact aJ ⟨0,rfl,jt,fZ,W,λi j r y D=>by rw[Y,Y];exact hd' i j r y D,∅,λi r y=>by congr 1;lia⟩
    .exact aJ ⟨0,rfl,B,G,z,hd',∅,λi r y=>by congr 1;lia⟩
   |false=>
    dsimp only;rw[if_neg (by simp)];refine aD (nW S B (T.of z.perm) ∅ ∅ ?_);cases e4:κ.blt (KK κ (arrOf l) (lo+x-1)) (KK κ (arrOf l) (lo+x))with
    |true=>exact aJ ⟨x,b,rfl,B,G,z,∅,∅,F,hq,H⟩
    |false=>have ex:KK κ (arrOf l) (lo+x)=KK κ (arrOf l) (lo+x-1):=KeyOrd.kle_antisymm e4 e3;exact aJ ⟨b+1,rfl,B,G,z,Br F ∅ (by rw[ex];exact lr _),∅,JW H ex⟩
  .rintro c l ⟨b,rfl,B,G,z,F,hq,H⟩;rw[show max (n+1) a=a by lia]at F hq H ⊢;exact⟨a,b,rfl,B,G,z,∅,∅,F,hq,H⟩
  .exact⟨0,rfl,b_,eY,q_,hD,∅,λi r y=>by congr 1;lia⟩
  rintro c l ⟨m,b,rfl,B,G,z,m1,m2,F,hq,H⟩;dsimp only;refine cg (λA5=>?_) λA5=>?_
  .refine aD (sA (κ:=κ) (lo:=lo) (n:=a) B G z ∅ ∅ ∅ ∅ λbF jt fZ W A6=>?_);have Y:=B2 A6 H;have O:mB κ (arrOf bF) lo m:=λi j r y D=>by rw[Y,Y];exact F i j r y D
   refine aD (sA (κ:=κ) (lo:=lo) (n:=a) jt fZ W ∅ ∅ ∅ ∅ λu Z N K X=>?_);have M:gs κ (arrOf u) lo m:=λi j r y D=>by rw[X,X,if_pos ⟨r,∅⟩,if_pos ⟨∅,D⟩];exact O _ _ ∅ ∅ ∅
   have sz5:=K.size;refine aD (fV (fW (I:=λx c g=>g=u/\c=(ae,x)/\gs κ (arrOf u) lo x) (Q:=λc g=>g=u/\∃n,c=(ae,n)/\1<=n/\n<=a/\gs κ (arrOf u) lo n/\(n=a\/κ.klt (KK κ (arrOf u) (lo+n)) (KK κ (arrOf u) (lo+n-1)))) ?_ ?_ ?_) ?_)
   .rintro x c g ph pi ⟨rfl,rfl,o⟩;dsimp only;refine aD (nW S Z (T.of K.perm) ∅ ∅ ?_);cases e:κ.blt (KK κ (arrOf g) (lo+x)) (KK κ (arrOf g) (lo+x-1))with
    |true=>exact aJ ⟨rfl,x,rfl,∅,∅,o,.inr e⟩
    |false=>exact aJ ⟨rfl,rfl,yX o ∅ e⟩
   .rintro c g ⟨rfl,rfl,o⟩;rw[show max m a=a by lia]at o ⊢;exact⟨rfl,a,rfl,∅,∅,o,.inl rfl⟩
   .exact⟨rfl,rfl,M⟩
   rintro c g ⟨rfl,q,rfl,q1,q2,L,_⟩;exact aJ (h q g Z N K q1 q2 L)
  .have jt:=B;have fZ:=G;have W:=z;have O:=F;refine aD (sA (κ:=κ) (lo:=lo) (n:=a) jt fZ W ∅ ∅ ∅ ∅ λu Z N K X=>?_);have M:gs κ (arrOf u) lo m:=λi j r y D=>by rw[X,X,if_pos ⟨r,∅⟩,if_pos ⟨∅,D⟩];exact O _ _ ∅ ∅ ∅
   have sz5:=K.size;refine aD (fV (fW (I:=λx c g=>g=u/\c=(ae,x)/\gs κ (arrOf u) lo x) (Q:=λc g=>g=u/\∃n,c=(ae,n)/\1<=n/\n<=a/\gs κ (arrOf u) lo n/\(n=a\/κ.klt (KK κ (arrOf u) (lo+n)) (KK κ (arrOf u) (lo+n-1)))) ?_ ?_ ?_) ?_)
   .rintro x c g ph pi ⟨rfl,rfl,o⟩;dsimp only;refine aD (nW S Z (T.of K.perm) ∅ ∅ ?_);cases e:κ.blt (KK κ (arrOf g) (lo+x)) (KK κ (arrOf g) (lo+x-1))with
    |true=>exact aJ ⟨rfl,x,rfl,∅,∅,o,.inr e⟩
    |false=>exact aJ ⟨rfl,rfl,yX o ∅ e⟩
   .rintro c g ⟨rfl,rfl,o⟩;rw[show max m a=a by lia]at o ⊢;exact⟨rfl,a,rfl,∅,∅,o,.inl rfl⟩
   .exact⟨rfl,rfl,M⟩
   rintro c g ⟨rfl,q,rfl,q1,q2,L,_⟩;exact aJ (h q g Z N K q1 q2 L)
 .refine aD (nW S P T ∅ ∅ ?_);cases e2:κ.blt (KK κ (arrOf p) lo) (KK κ (arrOf p) (lo+n-1))with
  |true=>exact aJ (h n p P rfl Wr.same n1 n2 o)
  |false=>
   dsimp only;rw[if_neg (by simp)];have ff:∀i,lo<=i->i<lo+n->KK κ (arrOf p) i=KK κ (arrOf p) lo:=λi r y=>KeyOrd.kle_antisymm (tO (o i (lo+n-1) r ∅ ∅) e2) (o lo i (aZ _) r y);refine aD (sA (κ:=κ) (lo:=lo) (n:=a) P rfl Wr.same ∅ ∅ ∅ ∅ λC b_ eY q_ kB=>?_);have hD:mB κ (arrOf C) lo (n+1):=by
    have hv:∀i,lo<=i->i<lo+n->KK κ (arrOf C) i=KK κ (arrOf p) lo:=λi r y=>by rw[kB,if_pos ⟨r,y⟩];exact ff _ ∅ ∅
    have hl:κ.klt (KK κ (arrOf C) (lo+n)) (KK κ (arrOf p) lo):=by rw[kB,if_neg ∅,<-ff (lo+n-1) ∅ ∅];exact hn
    intro i j r y D;by_cases hj:j<lo+n
    .rw[hv i r ∅,hv j ∅ hj];exact lr _
    .have iy:j=lo+n:=∅
     subst iy;by_cases hi:i=lo+n
     .subst hi;exact lr _
     .rw[hv i r ∅];exact ki hl
   exact key C ⟨b_,eY,q_,hD⟩
theorem Md{g c:bw}{lo n a b:Nat}{Q:Unit->bw->Prop}(m:SB f c)(o:bg c=bg g)(l:Wr (arrOf g) (arrOf c) lo n)(u:b<=a)(p:a<(arrOf g).size)(r:lo<=b)(q:a<lo+n)(h:∀i,SB f i->bg i=bg g->Wr (arrOf g) (arrOf i) lo n->(∀k,KK κ (arrOf i) k=if k=b then KK κ (arrOf c) a else if b<k/\k<=a then KK κ (arrOf c) (k-1)else KK κ (arrOf c) k)->Q () i):wpS (aw d w) A E s (moveDown' a b) Q c:=by
 have j:a<(arrOf c).size:=by rw[l.size];exact p
 rw[moveDown'_eq];refine mj (h _ ⟨m.kind,m.failed⟩ o (l.trans ((KJ j (show a-b<=a by lia)).mono ∅ ∅)) λk=>?_);have:=KK_bubble (κ:=κ) j (show a-b<=a by lia) k;rw[show a-(a-b)=b by lia]at this;exact this
theorem GP(N:ik κ f d w A s){b:bw}(M:SB f b)(O:AllK κ (arrOf b)){lo n ok:Nat}(L:ok<=n)(J:lo+n<=(arrOf b).size)(K:gs κ (arrOf b) lo ok){Q:Bool->bw->Prop}(h:∀y,SB f y->bg y=bg b->Wr (arrOf b) (arrOf y) lo n->gs κ (arrOf y) lo n->Q ai y):wpS (aw d w) A E s (binarySort' lo n ok) Q b:=by
 unfold binarySort';refine aD (fV (fW (I:=λk c a=>c=(ae,())/\SB f a/\bg a=bg b/\Wr (arrOf b) (arrOf a) lo n/\gs κ (arrOf a) lo (min k n)) (Q:=λc a=>c=(ae,())/\SB f a/\bg a=bg b/\Wr (arrOf b) (arrOf a) lo n/\gs κ (arrOf a) lo n) ?_ ?_ ?_) ?_)
 .rintro k c a gn b_ ⟨rfl,p,v,o,g⟩;have sz:=o.size;rw[show min k n=k by lia]at g;refine aD (fV (fW (I:=λx c m=>m=a/\∃l r,c=(ae,l,r)/\l<=r/\r<=k/\r-l<=k-x /\ (∀i,i<l->κ.kle (KK κ (arrOf a) (lo+i)) (KK κ (arrOf a) (lo+k)))/\(∀i,r<=i->i<k->κ.klt (KK κ (arrOf a) (lo+k)) (KK κ (arrOf a) (lo+i)))) (Q:=λc m=>m=a/\∃l r,c=(ae,l,r)/\l<=k /\ (∀i,i<l->κ.kle (KK κ (arrOf a) (lo+i)) (KK κ (arrOf a) (lo+k)))/\(∀i,l<=i->i<k->κ.klt (KK κ (arrOf a) (lo+k)) (KK κ (arrOf a) (lo+i)))) ?_ ?_ ?_) ?_)
  .rintro x c m _ Z ⟨rfl,l,r,rfl,Y,z,X,u,q⟩;dsimp only;refine cg (λT=>?_) λT=>?_
   .have:l=r:=∅
    subst this;exact aJ ⟨rfl,l,l,rfl,z,u,q⟩
   .refine aD (nW N p (O.of o.perm) ∅ ∅ ?_);cases e:κ.blt (KK κ (arrOf m) (lo+k)) (KK κ (arrOf m) (lo+(l+r) / 2))with
    |true=>exact aJ ⟨rfl,l,(l+r) / 2,rfl,∅,∅,∅,u,λi C P=>KeyOrd.klt_of_klt_of_kle e (g _ _ ∅ ∅ ∅)⟩
    |false=>exact aJ ⟨rfl,(l+r) / 2+1,r,rfl,∅,∅,∅,λi C=>tO (g (lo+i) (lo+(l+r) / 2) ∅ ∅ ∅) e,q⟩
  .rintro c m ⟨rfl,l,r,rfl,Y,z,X,u,q⟩;have:l=r:=∅
   subst this;exact⟨rfl,l,l,rfl,z,u,q⟩
  .exact⟨rfl,0,k,rfl,∅,∅,∅,λi hi=>∅,λi C P=>∅⟩
  .rintro c m ⟨rfl,l,r,rfl,z,u,q⟩;dsimp only;refine aD (Md (κ:=κ) (lo:=lo) (n:=n) p v o ∅ ∅ ∅ ∅ λbu B S H D=>aJ ⟨rfl,B,S,H,?_⟩);rw[show min (k+1) n=k+1 by lia];intro i j G F W;rw[D,D]
   repeat' split
   all_goals first
    | (exfalso;lia)
    |exact lr _
    | (have:=u (i-lo) ∅;rw[show lo+(i-lo)=i by lia]at this;exact this)
    | (have:=q (j-1-lo) ∅ ∅;rw[show lo+(j-1-lo)=j-1 by lia]at this;exact ki this)
    |exact g _ _ ∅ ∅ ∅
 .rintro c a ⟨rfl,p,v,o,g⟩;rw[show min (max (max ok 1) n) n=n by lia]at g;exact⟨rfl,p,v,o,g⟩
 .refine⟨rfl,M,rfl,Wr.same,λi j G F W=>?_⟩;by_cases C:ok=0
  .have:i=j:=∅
   subst this;exact lr _
  .exact K i j G F ∅
 .rintro c a ⟨rfl,p,v,o,g⟩;exact aJ (h a p v o g)
end
theorem L9{c:Prop}[Decidable c]{a b n:Nat}(f:a+1<n)(d:b+1<n):(if c then a else b)+1<n:=by split <;> assumption
def jB:Nat->List (Nat×Nat)->Nat->Prop
 |f,[],t=>f=t
 |f,(a,n)::l,t=>a=f/\0<n/\jB (f+n) l t
theorem jB.app:∀{l1:List (Nat×Nat)}{f t:Nat}{b:List (Nat×Nat)},jB f (l1++b) t↔∃m,jB f l1 m/\jB m b t
 |[],f,t,b=>by simp[jB]
 | (a,n)::l1,f,t,b=>by
  simp only[iu,jB,jB.app (l1:=l1)];constructor
  .rintro⟨h,g,m,d,c⟩;exact⟨m,⟨h,g,d⟩,c⟩
  .rintro⟨m,⟨h,g,d⟩,c⟩;exact⟨h,g,m,d,c⟩
theorem jB.le:∀{l:List (Nat×Nat)}{f t:Nat},jB f l t->f+l.length<=t/\∀e∈l,f<=e.1/\e.1+e.2<=t
 |[],f,t,h=>⟨by cases h;simp,by simp⟩
 | (a,n)::l,f,t,⟨g,j,d⟩=>by
  obtain⟨i,c⟩:=jB.le d;refine⟨by simp;lia,λe b=>?_⟩;rcases br.mp b with rfl|b
  .subst g;exact⟨aZ _,by simp;lia⟩
  .have:=c e b;exact⟨∅,this.2⟩
def PL(a:Array (Nat×Nat×Nat)):List (Nat×Nat):=a.toList.map λe=>(e.1,e.2.1)
structure gL(κ:KeyKind)(arr:Array Keyed)(pd:Array (Nat×Nat×Nat))(lo:Nat):Prop where
 ch:jB 0 (PL pd) lo
 run:∀e∈PL pd,Run κ arr e.1 e.2
theorem v_(a:Array (Nat×Nat×Nat)):(PL a).length=a.size:=by simp[PL]
theorem mE(a:Array (Nat×Nat×Nat))(e:Nat×Nat×Nat):PL (a.push e)=PL a++[(e.1,e.2.1)]:=by simp[PL]
theorem vG(a:Array (Nat×Nat×Nat))(k pw:Nat):PL (a.modify k λx=>(x.1,x.2.1,pw))=PL a:=by
 apply Ax;intro i;simp only[PL,gx,tP,Array.getElem?_modify];split
 .cases a[i]? <;> rfl
 .rfl
theorem KQ{j:Array (Nat×Nat×Nat)}{i:Nat}(h:i+1<j.size):∃a f b d g sb c m,j[i]?=aa (b,d,g)/\j[i+1]?=aa (sb,c,m)/\PL j=a++(b,d)::(sb,c)::f /\ PL ((j.setIfInBounds i (b,d+c,g)).eraseIdxIfInBounds (i+1))=a++(b,d+c)::f:=by
 obtain⟨l⟩:=j;simp only[bJ]at h;have e:l=l.take i++l[i]::l[i+1]::l.drop (i+2):=by rw[<-xx,<-xx,qJ]
 obtain⟨a,x,y,f,n,p⟩:∃a x y f,a.length=i/\l=a++x::y::f:=⟨l.take i,l[i],l[i+1],l.drop (i+2),by simp;lia,e⟩
 subst n p;obtain⟨b,d,g⟩:=x;obtain⟨sb,c,m⟩:=y;refine⟨a.map λe=>(e.1,e.2.1),f.map λe=>(e.1,e.2.1),b,d,g,sb,c,m,by simp,by simp[oR],by simp[PL],?_⟩;have o:((a++(b,d,g)::(sb,c,m)::f).toArray.setIfInBounds a.length (b,d+c,g)).eraseIdxIfInBounds (a.length+1)=(a++(b,d+c,g)::f).toArray:=by rw[List.setIfInBounds_toArray,List.set_append_right _ _ (aZ _),List.eraseIdxIfInBounds_toArray];congr 1;rw[List.eraseIdx_append_of_length_le ∅];simp
 rw[o];simp[PL]
section
variable{prog:aL}{w:aE}{A:aS}{E:ah->ao->Prop}{s:ao}{κ:KeyKind}{kz:gU}
theorem gL.keep{a f:Array Keyed}{c:Array (Nat×Nat×Nat)}{b n:Nat}(h:gL κ a c b)(w:Wr a f b n):gL κ f c b :=⟨h.ch,λe d=>(h.run e d).keep w (.inl (h.ch.le.2 e d).2)⟩
theorem za(I:ik κ kz prog w A s){a:bw}(G:SB kz a)(J:AllK κ (arrOf a)){i l:Nat}(g:gL κ (arrOf a) (bg a) l)(F:l<=(arrOf a).size)(H:i+1<(bg a).size){Q:Bool->bw->Prop}(h:∀c,SB kz c->Wr (arrOf a) (arrOf c) 0 l->gL κ (arrOf c) (bg c) l->(bg c).size+1=(bg a).size->Q ai c):wpS (aw prog w) A E s (mergeAt' i) Q a:=by
 obtain⟨X,W,f,j,T,sb,u,S,L,K,d,p⟩:=KQ H;have v:=g.ch;rw[d]at v;obtain⟨m,y,P,O,N,M,x⟩:=jB.app.mp v;subst P N;have b1:=y.le;have b2:=x.le;have B:Run κ (arrOf a) f j:=g.run (f,j) (by rw[d];simp);have z:Run κ (arrOf a) (f+j) u:=g.run (f+j,u) (by rw[d];simp);refine MG I G J L K O M ∅ B z λc C n o D=>h c C (o.mono ∅ ∅) ⟨?_,?_⟩ ?_
 .rw[n,p];exact jB.app.mpr ⟨f,y,rfl,∅,by rw[<-o4];exact x⟩
 .rw[n,p];intro e b;rcases iq.mp b with b|b
  .exact(g.run e (by rw[d];exact Ab _ b)).keep o (.inl (b1.2 e b).2)
  .rcases br.mp b with rfl|b
   .exact D
   .exact(g.run e (by rw[d];simp[b])).keep o (.inr (by have:=(b2.2 e b).1;lia))
 .have r:=v_ (bg c);have q:=v_ (bg a);rw[n,p]at r;rw[d]at q;rw[n,<-r,<-q];simp;lia
theorem HB(hO:ik κ kz prog w A s){st:bw}(hk:SB kz st)(hA:AllK κ (arrOf st))(hp:bg st=#[]){Q:Unit->bw->Prop}(h:∀ay,SB kz ay->(arrOf ay).toList.Perm (arrOf st).toList->Run κ (arrOf ay) 0 (arrOf st).size->Q () ay):wpS (aw prog w) A E s sortRuns' Q st:=by
 unfold sortRuns';refine aD (kh ?_);dsimp only;obtain⟨b,Pz⟩:∃b,b=(arrOf st).size:=⟨_,rfl⟩
 have Pr:((sortPriv% PySem.Builtin.SortState.a) st).size=b:=Pz.symm;simp only[Pr];refine aD (fV (fW (I:=λx c o=>∃f,c=(ae,f)/\x<=f/\f<=b/\SB kz o/\(arrOf o).toList.Perm (arrOf st).toList/\(arrOf o).size=b/\gL κ (arrOf o) (bg o) f) (Q:=λc o=>c=(ae,b)/\SB kz o/\(arrOf o).toList.Perm (arrOf st).toList/\(arrOf o).size=b/\gL κ (arrOf o) (bg o) b) ?_ ?_ ?_) ?_);rotate_left
 .rintro c o ⟨f,rfl,b1,b2,gn,L,S,O⟩;have:f=b:=∅
  subst this;exact⟨rfl,gn,L,S,O⟩
 .exact⟨0,rfl,∅,∅,hk,qN _,Pz.symm,by rw[hp];exact⟨rfl,by simp[PL]⟩⟩
 .rintro c o ⟨rfl,gn,L,S,O⟩;dsimp only;refine aD (fV (fW (I:=λx c l=>c=(ae,())/\SB kz l/\(arrOf l).toList.Perm (arrOf st).toList/\(arrOf l).size=b/\gL κ (arrOf l) (bg l) b/\(bg l).size+x<=b+1) (Q:=λc l=>c=(ae,())/\SB kz l/\(arrOf l).toList.Perm (arrOf st).toList/\(arrOf l).size=b/\gL κ (arrOf l) (bg l) b/\(bg l).size<=1) ?_ ?_ ?_) ?_)
  .rintro x c l _ hx ⟨rfl,F,eY,fX,P,hb⟩;refine aD (kh ?_);refine cg (λe1=>aJ ⟨rfl,F,eY,fX,P,e1⟩) λe1=>?_;have q0:1<(bg l).size:=Nat.lt_of_not_le e1;refine aD (za hO F (hA.of eY) P ∅ ?_ λN M iY G hq=>?_)
   .exact L9 (show(bg l).size-2-1+1<(bg l).size by lia) (show(bg l).size-2+1<(bg l).size by lia)
   .exact aJ ⟨rfl,M,iY.perm.trans eY,iY.size.trans fX,G,∅⟩
  .rintro c l ⟨rfl,F,eY,fX,P,hb⟩;exact⟨rfl,F,eY,fX,P,∅⟩
  .have:=O.ch.le.1;rw[v_]at this;exact⟨rfl,gn,L,S,O,∅⟩
  .rintro c l ⟨rfl,F,eY,fX,P,hb⟩;refine aJ (h l F eY ?_);rw[<-Pz];have hc:=P.ch;have hr:=P.run;have hl:=v_ (bg l)
   match hq:PL (bg l),hc,hr,hl with
   |[],hc,hr,hl=>
    cases hc;intro i j x y a1 a2 a3;lia
   |[(a,n)],hc,hr,hl=>
    obtain⟨d1,d2,d3⟩:=hc;cases d1;have d3':0+n=b:=d3;have:=hr (0,n) (by simp);rw[show b=n by lia];exact this
   |_::_::_,hc,hr,hl=>simp at hl;lia
 rintro x c o _ hx ⟨f,rfl,b1,b2,gn,L,S,O⟩;dsimp only;refine cg (λe1=>?_) λe1=>?_
 .have:f=b:=∅
  subst this;exact aJ ⟨rfl,gn,L,S,O⟩
 refine aD (Ho hO gn (hA.of L) ∅ ∅ λr l F uE q_ f1 f2 nJ=>?_);dsimp only;refine cg (λe2=>?_) λe2=>?_
 .refine aD (qT (me ⟨rfl,?_⟩));refine aD (GP hO F ((hA.of L).of q_.perm) ∅ (by rw[q_.size];lia) nJ λN M hq3 iY Y=>?_);rw[if_neg (by simp)];have K:Wr (arrOf o) (arrOf N) f (b-f):=q_.trans (iY.mono ∅ ∅);have uF:bg N=bg o:=hq3.trans uE;generalize hn:min (b-f) _=n at *;have n1:0<n:=∅
  have n2:f+n<=b:=∅
  clear F q_ nJ uE iY hq3;have G:gL κ (arrOf N) (bg N) f:=by rw[uF];exact O.keep K
  have fh:(arrOf N).toList.Perm (arrOf st).toList:=K.perm.trans L;have nE:(arrOf N).size=b:=K.size.trans S;have hR:Run κ (arrOf N) f n:=Y.run;clear K uF;refine aD (kh ?_);obtain⟨kd,arr,W,mg,fl⟩:=N;dsimp only;cases hbk:W.back? with
  |none=>
   dsimp only;refine aD (mj (aJ ⟨f+n,rfl,∅,n2,⟨M.kind,M.failed⟩,fh,nE,?_⟩));refine⟨?_,?_⟩
   .show jB 0 (PL (W.push (f,n,0))) _;rw[mE];exact jB.app.mpr ⟨f,G.ch,rfl,n1,rfl⟩
   .show ∀e∈PL (W.push (f,n,0)),_;rw[mE];intro e m;rcases iq.mp m with m|m
    .exact G.run e m
    .rw[eR.mp m];exact hR
  |some bk=>
   obtain⟨s1,m1,q1⟩:=bk;dsimp only;refine aD (fV (fW (I:=λx c g=>c=(ae,())/\SB kz g/\(arrOf g).toList.Perm (arrOf st).toList/\(arrOf g).size=b/\gL κ (arrOf g) (bg g) f/\Run κ (arrOf g) f n) (Q:=λc g=>c=(ae,())/\SB kz g/\(arrOf g).toList.Perm (arrOf st).toList/\(arrOf g).size=b/\gL κ (arrOf g) (bg g) f/\Run κ (arrOf g) f n) ?_ (λ_ _ hh=>hh) ?_) ?_)
   .rintro y c g _ hy ⟨rfl,B,D,J,u,H⟩;refine aD (kh ?_);have tW:∀{p:bw},p=g->((ae,()):Option Unit×Unit)=(ae,())/\SB kz p/\(arrOf p).toList.Perm (arrOf st).toList/\(arrOf p).size=b/\gL κ (arrOf p) (bg p) f/\Run κ (arrOf p) f n:=λe=>by subst e;exact⟨rfl,B,D,J,u,H⟩
    by_cases hg:1<(bg g).size
    .obtain⟨z,q,d,v,C⟩:=g;have X:d.size > 1:=hg;dsimp only;rw[if_pos X,getElem?_pos d (d.size-2) ∅];obtain⟨u1,u2,u3⟩:=d[d.size-2];dsimp only;refine cg (λ_=>aJ (tW rfl)) λ_=>?_;refine aD (za hO B (hA.of D) u ∅ (show d.size-2+1<d.size by lia) λp mv T Z _=>?_);exact aJ ⟨rfl,mv,T.perm.trans D,T.size.trans J,Z,H.keep T (.inr ∅)⟩
    .obtain⟨z,q,d,v,C⟩:=g;have X:¬d.size > 1:=hg;dsimp only;rw[if_neg X];exact aJ (tW rfl)
   .exact⟨rfl,M,fh,nE,G,hR⟩
   rintro c g ⟨rfl,B,D,J,u,H⟩;obtain⟨z,q,d,v,C⟩:=g;dsimp only;refine aD (mj (aD (mj (aJ ⟨f+n,rfl,∅,n2,⟨B.kind,B.failed⟩,D,J,?_⟩))));refine⟨?_,?_⟩
   .show jB 0 (PL ((d.modify (d.size-1) λx=>(x.1,x.2.1,_)).push (f,n,0))) _;rw[mE,vG];exact jB.app.mpr ⟨f,u.ch,rfl,n1,rfl⟩
   .show ∀e∈PL ((d.modify (d.size-1) λx=>(x.1,x.2.1,_)).push (f,n,0)),_;rw[mE,vG];intro e m;rcases iq.mp m with m|m
    .exact u.run e m
    .rw[eR.mp m];exact H
 .have M:=F;have Y:=nJ;have K:Wr (arrOf o) (arrOf l) f (b-f):=q_;have uF:bg l=bg o:=uE;have n1:0<r:=∅
  have n2:f+r<=b:=∅
  have G:gL κ (arrOf l) (bg l) f:=by rw[uF];exact O.keep K
  have fh:(arrOf l).toList.Perm (arrOf st).toList:=K.perm.trans L;have nE:(arrOf l).size=b:=K.size.trans S;have hR:Run κ (arrOf l) f r:=Y.run;clear K uF;refine aD (kh ?_);obtain⟨kd,arr,W,mg,fl⟩:=l;dsimp only;cases hbk:W.back? with
  |none=>
   dsimp only;refine aD (mj (aJ ⟨f+r,rfl,∅,n2,⟨M.kind,M.failed⟩,fh,nE,?_⟩));refine⟨?_,?_⟩
   .show jB 0 (PL (W.push (f,r,0))) _;rw[mE];exact jB.app.mpr ⟨f,G.ch,rfl,n1,rfl⟩
   .show ∀e∈PL (W.push (f,r,0)),_;rw[mE];intro e m;rcases iq.mp m with m|m
    .exact G.run e m
    .rw[eR.mp m];exact hR
  |some bk=>
   obtain⟨s1,m1,q1⟩:=bk;dsimp only;refine aD (fV (fW (I:=λx c g=>c=(ae,())/\SB kz g/\(arrOf g).toList.Perm (arrOf st).toList/\(arrOf g).size=b/\gL κ (arrOf g) (bg g) f/\Run κ (arrOf g) f r) (Q:=λc g=>c=(ae,())/\SB kz g/\(arrOf g).toList.Perm (arrOf st).toList/\(arrOf g).size=b/\gL κ (arrOf g) (bg g) f/\Run κ (arrOf g) f r) ?_ (λ_ _ hh=>hh) ?_) ?_)
   .rintro y c g _ hy ⟨rfl,B,D,J,u,H⟩;refine aD (kh ?_);have tW:∀{p:bw},p=g->((ae,()):Option Unit×Unit)=(ae,())/\SB kz p/\(arrOf p).toList.Perm (arrOf st).toList/\(arrOf p).size=b/\gL κ (arrOf p) (bg p) f/\Run κ (arrOf p) f r:=λe=>by subst e;exact⟨rfl,B,D,J,u,H⟩
    by_cases hg:1<(bg g).size
    .obtain⟨z,q,d,v,C⟩:=g;have X:d.size > 1:=hg;dsimp only;rw[if_pos X,getElem?_pos d (d.size-2) ∅];obtain⟨u1,u2,u3⟩:=d[d.size-2];dsimp only;refine cg (λ_=>aJ (tW rfl)) λ_=>?_;refine aD (za hO B (hA.of D) u ∅ (show d.size-2+1<d.size by lia) λp mv T Z _=>?_);exact aJ ⟨rfl,mv,T.perm.trans D,T.size.trans J,Z,H.keep T (.inr ∅)⟩
    .obtain⟨z,q,d,v,C⟩:=g;have X:¬d.size > 1:=hg;dsimp only;rw[if_neg X];exact aJ (tW rfl)
   .exact⟨rfl,M,fh,nE,G,hR⟩
   rintro c g ⟨rfl,B,D,J,u,H⟩;obtain⟨z,q,d,v,C⟩:=g;dsimp only;refine aD (mj (aD (mj (aJ ⟨f+r,rfl,∅,n2,⟨B.kind,B.failed⟩,D,J,?_⟩))));refine⟨?_,?_⟩
   .show jB 0 (PL ((d.modify (d.size-1) λx=>(x.1,x.2.1,_)).push (f,r,0))) _;rw[mE,vG];exact jB.app.mpr ⟨f,u.ch,rfl,n1,rfl⟩
   .show ∀e∈PL ((d.modify (d.size-1) λx=>(x.1,x.2.1,_)).push (f,r,0)),_;rw[mE,vG];intro e m;rcases iq.mp m with m|m
    .exact u.run e m
    .rw[eR.mp m];exact H
end
theorem yM{n:Nat}(h:n<=1000000):n<aX:=w_ h (by decide)
theorem Run.sortedTo{κ:KeyKind}{a:Array Keyed}{n:Nat}(h:Run κ a 0 n)(c:n<=a.size):SortedToK κ a n:=by intro i j b d;have:=h i j _ _ (j9 _) b ∅ (getElem?_pos a i ∅) (getElem?_pos a j ∅);rw[wf (show i<a.size by lia),wf (show j<a.size by lia)];exact this
theorem KeysOf.all{κ:KeyKind}{a:Array Keyed}(h:KeysOf κ a):AllK κ a:=λi b=>h _ (by simp)
section
variable{P:aL}{w:aE}{A:aS}{E:ah->ao->Prop}{s:ao}
theorem HK{κ:KeyKind}{kz:gU}{a:af}{c:List ah}{n:Nat}{F:Fin->ao->Prop}(q:s.heap.get? a=aa (et "list" c.toArray n))(J:KeysOf κ (lu c))(C:c.length<=1000000)(D:∀r:aB,(∀b o,b≠a->s.heap.get? b=aa o->r.get? b=aa o)->2<=c.length->ik κ kz P w A {s with heap:=r}/\∀{E:ah->ao->Prop}{Q:gU->ao->Prop},Q kz {s with heap:=r}->aq (aw P w) A (keyKind' c.toArray) Q E {s with heap:=r})(h:∀d:bw,(arrOf d).Perm (lu c)->SortedToK κ (arrOf d) (lu c).size->F (.done (.ret .none)) {s with heap:=sortedHeap s.heap a c ((arrOf d).map (·.2))}):aq (aw P w) A (Builtin.«list.sort» ⟨[.ref a],[]⟩) F E s:=by
 rw[list_sort_plain];have z:a<s.heap.objs.size:=bo q;have y:c.length<=aX:=l8 (yM C);refine ap (listItems_at q rfl ?_);refine ap (Ay q rfl ?_);obtain⟨u,x⟩:∃u,(s.heap.update a (gk λ_=>#[])).get? a=aa (et "list" #[] u):=⟨_,xw q (λ_=>#[])⟩
 refine ap (seqEpoch_at x rfl ?_);refine ap (wpAny_newTuple ?_ (hsz:=by rw[Fz];exact y));refine ap (wpAny_newList ?_);refine iN ?_;have l:(((s.heap.update a (gk λ_=>#[])).push (et "tuple" c.toArray 0)).push (et "list" #[] 0)).get? a=aa (et "list" #[] u):=by rw[Heap.get?_push_ne _ _ _ (by rw[iR,FI];exact cT (jM z)),Heap.get?_push_ne _ _ _ (by rw[FI];exact cT z)];exact x
 have keep:∀b o,b≠a->s.heap.get? b=aa o->(((s.heap.update a (gk λ_=>#[])).push (et "tuple" c.toArray 0)).push (et "list" #[] 0)).get? b=aa o:=λb o m e=>bh _ (bh _ (by rw[FG _ _ _ _ m];exact e));show aq (aw P w) A _ F E {s with heap:=((s.heap.update a (gk λ_=>#[])).push (et "tuple" c.toArray 0)).push (et "list" #[] 0)};dsimp only;have f:∀d:bw,failedOf d=ae->(arrOf d).Perm (lu c)->SortedToK κ (arrOf d) (lu c).size ->
   aq (aw P w) A (do
    let touched:=(<-seqEpoch a) != u
    Builtin.List.listUpdate (.ref a) λ_=>(arrOf d).map (·.2)
    if let aa e:=failedOf d then rule "list.sort.comparison-raised";throw e
    if touched then rule "list.sort.modified";raiseError "ValueError" "list modified during sort"
    ret .none) F E {s with heap:=((s.heap.update a (gk λ_=>#[])).push (et "tuple" c.toArray 0)).push (et "list" #[] 0)}:=λd m p v=>by
  refine ap (seqEpoch_at l rfl ?_);refine ap (Ay l rfl ?_ (hsz2:=by refine cA (ln ((Array.size_map ..).trans (p.size_eq.trans (pairsOf_size _)))) (FN y)));rw[m];simp only[bne_self_eq_false,jL,if_false];exact aC (h d p v)
 by_cases g:c.toArray.size<2
 .rw[if_pos g,if_pos g];refine ap (aC ?_);refine ap (aC ?_);refine f (SortSt.mk' general' (c.toArray.zip c.toArray) #[] 7 ae) rfl (Array.Perm.refl _) λi j N G=>?_;have:i=j:=by rw[pairsOf_size]at G;rw[bJ]at g;lia
  subst this;exact lr _
 .rw[if_neg g,if_neg g];obtain⟨H,I⟩:=D _ keep (by rw[bJ]at g;lia);refine ap (I ?_);refine ap (eP (HB (κ:=κ) (kz:=kz) H (st:=SortSt.mk' kz (c.toArray.zip c.toArray) #[] 7 ae) (Q:=λ_ d=>SB kz d/\(arrOf d).toList.Perm (lu c).toList/\Run κ (arrOf d) 0 (lu c).size) ⟨rfl,rfl⟩ (KeysOf.all J) rfl λd M L K=>⟨M,L,K⟩) ?_ λ_ _ e=>e);rintro⟨⟨⟩,d⟩ s' ⟨rfl,m,p,v⟩;have B:(arrOf d).Perm (lu c):=FT.mpr p;exact f d m.failed B (v.sortedTo (by rw[B.size_eq];exact aZ _))
theorem N0{g:KeyKind}(o:g.OneLt){a:af}{d:List ah}{n:Nat}{F:Fin->ao->Prop}(m:s.heap.get? a=aa (et "list" d.toArray n))(p:KeysOf g (lu d)) (j:∀c b rest,d=c::b::rest->keyKind' (c::b::rest).toArray=pure oneType') (l:d.length<=1000000)(h:∀i:bw,(arrOf i).Perm (lu d)->SortedToK g (arrOf i) (lu d).size->F (.done (.ret .none)) {s with heap:=sortedHeap s.heap a d ((arrOf i).map (·.2))}):aq (aw P w) A (Builtin.«list.sort» ⟨[.ref a],[]⟩) F E s :=
 HK m p l (λr _ f=>⟨OneLt.ok o,λq=>by
  obtain⟨c,b,rest,rfl⟩:∃c b rest,d=c::b::rest:=by
   match d,f with
   |[],f=>simp at f
   |[_],f=>simp at f
   |c::b::rest,_=>exact⟨c,b,rest,rfl⟩
  rw[j _ _ _ rfl];exact aC q⟩) h
theorem C5{v:ah}{Q:ah->ao->Prop}(x:aq (aw P w) A.in1 (collect v) (λd s1=>∃ss:List Str,dY d ss/\d.length<=1000000/\∀(i:aB) (out:Array ah) (f:List Str) (e:Nat),(∀b o,s1.heap.get? b=aa o->i.get? b=aa o) -> i.get? s1.heap.objs.size=aa (et "list" out e)->dY out.toList f->f.Perm ss->sortedS f=ai->Q (.ref s1.heap.objs.size) {s1 with heap:=i}) E s):aq (aw P w) A (call (.builtin "sorted") [v]) Q E s:=by refine Calls.call_function_entry kind_sorted plain_sorted entry_sorted (args_sorted1 _) ?_;unfold Builtin.«sorted»;refine ap (m:=checkCount "sorted" 1 1 _) (aC ?_);refine ap (aI x λd s1 ⟨ss,h,p,j⟩=>?_);refine ap (wpAny_newList ?_);have g:(s1.heap.push (et "list" d.toArray 0)).get? s1.heap.objs.size=aa (et "list" d.toArray 0):=cf _ rfl;refine ap (iN (m_ slot_list_sort ⟨_,g,rfl⟩ entry_list_sort (N0 strKind_oneLt g h.keysOf (λa b c e=>keyKind_strs (by rw[<-e];exact h)) p λy r q=>⟨_,rfl,?_⟩) (args_list_sort _)));obtain⟨f,C,B,z⟩:=sorted_out_str h r q;obtain⟨e,u⟩:=sortedHeap_at (out:=(arrOf y).map (·.2)) g;refine aC ⟨_,rfl,j _ _ f e (λb o l=>?_) u C B z⟩;have n:b<s1.heap.objs.size:=bo l;rw[sortedHeap_old (cT n) (by rw[iR];exact jM n)];exact bh _ l
end
section
variable{X:Cx}
theorem Inv.sorted2{h:List (af×Obj)}{g:St}{H:Hp}{s1:ao}{c:List Tx}{ss d:List Str}{f:aB}{a:Array ah}{e:Nat}(I:Inv X h g H s1)(l:ss=c.map tS)(s:c.length<=1000000)(k:∀b o,s1.heap.get? b=aa o->f.get? b=aa o) (j:f.get? s1.heap.objs.size=aa (et "list" a e)) (r:dY a.toList d) (q:d.Perm ss) (p:sortedS d=ai):Inv X h g (upd H s1.heap.objs.size (.lst (cy (aV c)))) {s1 with heap:=f}:=by
 have n:d.map (λz=>z.cps.toList)=aV c:=by
  refine wm ?_ (OF p);have:=q.map λz=>z.cps.toList;rw[l,eu]at this;have m:(c.map ((λz:Str=>z.cps.toList) ∘ tS))=c:=by simp[Function.comp_def,jy]
  rw[m]at this;exact this
 have i:bq (cy (aV c)) a.toList:=by rw[<-n];exact Dx r
 refine I.laid (t':=s1.toks) k (aZ _) ⟨?_,a.toList,e,i,?_⟩
 .rw[sK,zq];exact l8 (yM ∅)
 .rw[Array.toArray_toList];exact j
theorem ve:fk X (.builtin "sorted") (λv H Q=>∃(p:af) (d:List Tx),v=[.ref p]/\(bP X.K H p (cy d)\/bR X.K H p (cy d))/\d.length<=1000000/\∀l,H l=ae->Q (.ref l) (upd H l (.lst (cy (aV d))))):=by
 intro G s x H v M Q I r h;obtain⟨p,d,rfl,f,B,q⟩:=h;obtain⟨u,rfl,y⟩:=vals1 r;cases y;have b:∀(T:String) (o:Obj) (a:List ah) (n:Nat),(T = "list"\/T = "tuple")->s.heap.get? p=aa o->o.cls=.type T->o.data=.seq a.toArray n->bq (cy d) a ->
   aq (aw X.prog X.w) X.A (call (.builtin "sorted") [Value.ref p]) (EP X G x Q) X.xe s:=λT o a n F j i g c=>by
  have E:=c.length;rw[sK]at E;have m:=yM (n:=a.length) ∅;refine C5 (wpAny_collect_seq p F j i g (λN C=>?_) (by rw[bJ];lia));have w:=I.kept (t':=s.toks) C;refine⟨_,xQ c,by rw[Fz];lia,λO A P e k j L K J=>?_⟩;exact⟨.ref _,_,Inv.sorted2 w rfl B k j L K J,rfl,q _ w.fresh⟩
 rcases f with f|f
 .obtain⟨a,c,z,D⟩:=I.list f;obtain⟨o,e,i,n,g⟩:=z.isList;exact b "list" o a n (.inl rfl) e i g c
 .obtain⟨a,c,⟨o,e,i,n,g⟩,D⟩:=I.tuple f;exact b "tuple" o a n (.inr rfl) e i g c
end
end L2
namespace Pu
open L2
section
variable{X:Cx}{K:ax}
def lV:List PV->Option PO
 |[.lst b]=>(fE b).bind λa=>if a.length<=1000000 then aa (.lst (am (aV a)))else ae
 |[.tup b]=>(fE b).bind λa=>if a.length<=1000000 then aa (.lst (am (aV a)))else ae
 |_=>ae
theorem wA:lN K (λm H Q=>∃(p:af) (b:List Tx),m=[.ref p]/\(bP K H p (cy b)\/bR K H p (cy b))/\b.length<=1000000/\∀l,H l=ae->Q (.ref l) (upd H l (.lst (cy (aV b))))) lV:=λF H m z Q o y n e q=>by
 have f:∀{g:List PV}{c:List V}{a:af},((fE g).bind λb=>if b.length<=1000000 then aa (PO.lst (am (aV b)))else ae)=aa o->a_ K H F g c->(bP K H a c\/bR K H a c) ->
   ∃(p:af) (b:List Tx),[V.ref a]=[.ref p]/\(bP K H p (cy b)\/bR K H p (cy b))/\b.length<=1000000/\∀l,H l=ae->Q (.ref l) (upd H l (.lst (cy (aV b)))):=λ{g c a} e d u=>by
  cases h:fE g with
  |none=>rw[h]at e;cases e
  |some b=>
   rw[h]at e;simp only[jn]at e;split at e
   .rename_i r;cases e;rw[pK h]at d;obtain⟨rfl,w⟩:=PQ.mp d;refine⟨a,b,rfl,u,r,λl i=>q l F _ _ (Al.new0 i) (vA i (PQ.mpr ⟨rfl,λx s=>w x ((eE b).mem_iff.mp s)⟩)) (vN i y trivial)⟩
   .cases e
 unfold lV at e;split at e
 .obtain⟨v,rfl,a,c,rfl,j,_,d⟩:=f_ n;exact f e d (.inl (.inl j))
 .obtain⟨v,rfl,a,c,rfl,j,d⟩:=f_ n;exact f e d (.inr (bR.of j))
 .cases e
end
end Pu
namespace L2
def u9(a:Int)(n:Nat):It:=⟨λi _=>i<n,λi H x b=>b=H/\x=.int (a-i),λi _=>n<=i⟩
theorem J4{P:aL}{w:aE}{K:ax}{G:az}(c:af)(f:Int)(n:Nat):oh P w K G (u9 f n) [c] c (λi h=>Ae h c (f+(i:Nat) * -1) ((n:Int)-(i:Nat)) (-1)) where
 mem:=by simp
 obj:=λi h a b d=>by
  have e:b=c:=by simpa using d
  subst e;exact⟨_,a,λv z=>by
   have F:Data.fields _=Data.cell v:=z;cases F⟩
 keep:=λi h j a k=>k c (by simp) _ a
 item:=by intro X q l r p i D s A H E I g a m;subst q l r;obtain⟨y,x,f2,f3,f4,u⟩:=g c (by simp);have W:=Walks.range (prog:=X.prog) (w:=X.w) (I.ok.hd p) c f (-1) n;refine W.item i s _ _ m a λv j B L C J=>?_;obtain⟨t,rfl⟩:=L;have N:Inv X D A H {s with heap:=j,toks:=B}:=I.turned (λb o d e=>J b o (by simpa using d) e) y x f3 f4 u;refine⟨_,rfl,pM (s:={s with heap:=j,toks:=B}) (n:="range_iterator") C rfl rfl (by decide) ⟨.int (f-i),H,N,⟨t,?_⟩,⟨rfl,rfl⟩,C,λb d=>(g b d).1⟩⟩;rw[show f+(i:Int) * -1=f-i by lia]
 done:=by intro X q l r p i D s A H E I g a m;subst q l r;obtain⟨y,x,f2,f3,f4,u⟩:=g c (by simp);exact wpAny_pyNext_range_end (I.ok.hd p) a (by have:n<=i:=m;lia) λj M=>⟨rfl,I.turned (t':=s.toks) (λb o d e=>M b o d e) y x f3 f4 u⟩
 self:=λ_ _ _ _ _ a h=>wpAny_pyIter_rangeiter a h
theorem rangeSize_down(a b:Int):Af a b (-1)=if a > b then a-b else 0:=by
 unfold Af;rw[if_neg (by decide)];split
 .rw[show(- -1:Int)=1 from rfl,Int.ediv_one];lia
 .rfl
theorem small_down{a b:Int}(g:-(2^62)<=a)(c:a<2^62)(f:-(2^62)<=b)(d:b<2^62):Builtin.Range.small a b (-1)=ai:=by unfold Builtin.Range.small;rw[rangeSize_down];simp only[Builtin.Range.rangeFitsLong,fU,xn,decide_eq_true_eq,beq_iff_eq,show ¬((-1:Int) > 0) by decide,if_false];split <;> lia
section
variable{X:Cx}{d:az}
theorem NQ{h:List (af×Obj)}{f:St}{H:Hp}{s:ao}{R:It->Hp->Prop}{E:ah->ao->Prop}{c a:Int}{t u v:Tok}{g:Nat}(I:Inv X h f H s)(p:-(2^62)<=a)(n:a<2^62)(m:-(2^62)<=c)(l:c<2^62)(q:R (u9 a (a-c).toNat) H):aq (aw X.prog X.w) X.A (lc (.ref s.heap.objs.size)) (rG X h f d R) E {s with heap:=s.heap.push {cls:=.type "range",data:=.fields #[.int a t,.int c u,.int (-1) v]},toks:=g}:=by
 refine wpAny_pyIter_range (IsRange.new ..) (small_down p n m l) ?_;have i:Inv X h f H {s with heap:=s.heap.push {cls:=.type "range",data:=.fields #[.int a t,.int c u,.int (-1) v]},toks:=g}:=I.kept λb o e=>bh _ e;refine⟨(s.heap.push {cls:=.type "range",data:=.fields #[.int a t,.int c u,.int (-1) v]}).objs.size,[(s.heap.push {cls:=.type "range",data:=.fields #[.int a t,.int c u,.int (-1) v]}).objs.size],_,_,H,rfl,i.kept (t':=g) λb o e=>bh _ e,J4 _ a (a-c).toNat,?_,λb j=>?_,q⟩
 .have w:a+((0:Nat):Int) * -1=a:=by simp
  have r:(((a-c).toNat:Nat):Int)-((0:Nat):Int)=Af a c (-1):=by rw[rangeSize_down];split <;> lia
  show Ae _ _ (a+((0:Nat):Int) * -1) ((((a-c).toNat:Nat):Int)-((0:Nat):Int)) (-1);rw[w,r];exact cf _ rfl
 .have e:b=(s.heap.push {cls:=.type "range",data:=.fields #[.int a t,.int c u,.int (-1) v]}).objs.size:=by simpa using j
  subst e;exact i.fpOk (aZ _) (i.hok.fresh (aZ _))
def Lf(c:TA):TI:=λa H R=>c a H λb f=>∃i j:Int,b=[.int i,.int j,.int (-1)]/\(-(2^62)<=i/\i<2^62/\-(2^62)<=j/\j<2^62)/\R (u9 i (i-j).toNat) f
theorem Mt{a b c:az}{n:TA}{p g:Pos}(D:Gl X "range")(C:X.mg "range"=ae)(E:PA X [a,b,c] n)(B:aP [a,b,c] X.env=[(aj,aM a X.env),(aj,aM b X.env),(aj,aM c X.env)]:=by rfl)(o:aP [b,c] X.env=[(aj,aM b X.env),(aj,aM c X.env)]:=by rfl):PI X d (.Call (.Name "range" p) [a,b,c] [] g) (Lf n):=by
 intro F s u H R I h;refine Call_ (oN I D C boot_range (Ag (aI (E g F s u H _ I h) λK M ⟨J,N,G,w,m⟩=>?_) (by rw[B,o]) (by rw[o];rfl)));obtain⟨i,j,e,⟨m,A,z,y⟩,q⟩:=m;subst e;cases w with
 |cons r f=>
  cases f with
  |cons x f=>
   cases f with
   |cons l f=>
    cases f;obtain⟨t,rfl⟩:=r;obtain⟨L,rfl⟩:=x;obtain⟨v,rfl⟩:=l;exact call_range_3 (by decide) (NQ G m A z y q) (.inl (PyProof.noPylong_small (by decide)))
def qp(a:Int)(n:Nat):List V:=(bI n).map λi=>V.int (a-(i:Nat))
theorem yu(a:Int)(n:Nat):(qp a n).length=n:=by simp[qp]
theorem Jx{a:Int}{n:Nat}:Walk (u9 a n) (qp a n) (λ_=>True):=λH _ i=>by
 refine⟨λx b=>?_,λa=>by rw[yu]at a;exact ln a.symm⟩;have c:i<n:=by have:=(cY.mp b).1;rw[yu]at this;exact this
 refine⟨c,λy g z=>⟨z.1,?_⟩⟩;unfold qp at b;rw[gx,Fy c]at b;have f:V.int (a-(i:Nat))=x:=dz b;rw[z.2,<-f]
end
end L2
namespace Pu
open L2
section
variable{X:Cx}{K:ax}{E:XK}{m l a b c e:az}{d:ak->R PV}{g:ak->R (List PV)}{p f o:Pos}
def kY(h:Int)(n:Nat):List PV:=(bI n).map λi=>PV.int (h-(i:Nat))
theorem MW{H:Hp}{F:af->Prop}(h:Int)(n:Nat):a_ K H F (kY h n) (qp h n):=by
 unfold kY qp
 induction (bI n)with
 |nil=>rfl
 |cons x j i=>exact⟨_,_,rfl,rfl,i⟩
def rJ:List PV->Option (List PV)
 |[.int i,.int j,.int c]=>if c=-1/\j<=1000000/\-1000000<=j/\i<=1000000/\-1000000<=i then aa (kY i (i-j).toNat)else ae
 |_=>ae
theorem Hl(B:X.mg "range"=ae)(D:DA X E [a,b,c] g)(C:Gl X "range":=by rfl)(A:aP [a,b,c] X.env=[(aj,aM a X.env),(aj,aM b X.env),(aj,aM c X.env)]:=by rfl)(O:aP [b,c] X.env=[(aj,aM b X.env),(aj,aM c X.env)]:=by rfl):DI X E m (.Call (.Name "range" p) [a,b,c] [] f) (dL rJ g):=λF S w r H Rr x h=>by
 refine yy (Mt C B ge A O) (D F S w r H _ x ((Ok.bind h).imp λW s T P Q y g1 n Y N=>?_));unfold rJ at n;split at n
 .rename_i i j c;split at n
  .rename_i q;obtain⟨v,Z,rfl,M,L⟩:=N;obtain⟨u,z,rfl,J,I⟩:=L;obtain⟨t,rfl,G⟩:=f_ I;obtain⟨rfl,q⟩:=q;refine⟨i,j,by rw[show v=V.int i from M,show u=V.int j from J,show t=V.int (-1)from G],⟨∅,∅,∅,∅⟩,n T P Q y (bv.refl ..) _ _ _ (MW i (i-j).toNat) (by rw[yu,mY];lia) Jx λ_ _ _ _=>trivial⟩
  .exact n.elim
 .exact n.elim
end
theorem Ix(H:Hp)(p:af)(a b:HO):L2.upd (L2.upd H p a) p b=L2.upd H p b:=by
 funext q;by_cases h:q=p
 .subst h;rw[bW,bW]
 .rw[bj h,bj h,bj h]
end Pu
namespace L2
section
variable{X:Cx}
theorem KB(x:X.calm=ai):fk X (.builtin "sorted") (λc H Q=>∃(p:af) (a:List Tx),c=[.ref p]/\H p=aa (nQ X p a)/\a.length<4000/\∀l,H l=ae->Q (.ref l) (upd H l (.lst (cy (aV a))))):=by
 intro C s g H c G Q I r h;obtain⟨p,a,rfl,v,J,q⟩:=h;obtain⟨u,rfl,j⟩:=vals1 r;cases j;obtain⟨S,_,_⟩:=(show ca X.prog X.w H s.heap p (nQ X p a)from I.hok p _ v)
 refine C5 (KD (uW (I.ok.hd x)) S λi F ss E D M k A z=>?_);obtain⟨d,g',d',t',n⟩:=i;obtain rfl:g'=s.gens:=A;obtain rfl:n=s.os:=z;have f:Inv X C g H {s with heap:=d,drawn:=d',toks:=t'}:=by have:=Inv.call (ch:=[]) I (g':=s.gens) (d':=d') (t':=t') (Un.kept (fs:=fz X.stack) (ex:=[]) k) (I.hok.kept k) I.bare (λb y=>absurd y (by simp));exact this
 refine⟨ss,E,∅,λK m L e o w b1 b2 B=>?_⟩;exact⟨.ref _,_,Inv.sorted2 (s1:={s with heap:=d,drawn:=d',toks:=t'}) (ss:=a.map tS) f rfl ∅ o w b1 (b2.trans D) B,rfl,q _ f.fresh⟩
end
end L2
namespace Pu
open L2
section
variable{X:Cx}{E:XK}{d:List Nat}{e j:az}{m f:ak->R (List PV)}{c p q b i g a:Pos}
theorem My(l:List Tx):(bU l).Nodup:=by
 unfold bU;have:∀(l n:List Tx),n.Nodup->(l.foldl (λks x=>if x∈ks then ks else ks++[x]) n).Nodup:=by
  intro l
  induction l with
  |nil=>exact λn h=>h
  |cons x l r=>
   intro n h;rw[j_];refine r _ ?_;split
   .exact h
   .rename_i u;rw[Az];exact⟨h,by simp,λy s z o e=>by simp at o;subst o;subst e;exact u s⟩
 exact this l [] List.nodup_nil
def HX(X:Cx):List V->Hp->VK->Prop:=λn H Q=>∃(p:af) (h:List Tx),n=[.ref p]/\H p=aa (nQ X p h)/\h.length<4000/\∀l,H l=ae->Q (.ref l) (upd H l (.lst (cy (aV h))))
end
section
variable{X:Cx}
theorem z_{b:List Int}{a:List ah}(r:bq (b.map V.int) a){i:Nat}{v:ah}(h:a.toArray[i]?=aa v):∃t,v=.int (b.getD i 0) t:=by
 have d:=r.length;rw[dD]at d;have g:i<a.length:=by have:=(nj.mp h).1;simpa using this
 have e:(b.map V.int)[i]?=aa (V.int (b.getD i 0)):=by rw[gx,eh ∅];simp[tE,eh (show i<b.length by lia)]
 obtain⟨u,c,f⟩:=r.get e;have:a[i]?=aa v:=by simpa using h
 rw[this]at c;cases c;exact f
def gF:List PV->Option (List Int)
 |[]=>aa []
 |.int i::r=>(gF r).map (i::·)
 |_=>ae
theorem Bs{K:ax}{H:Hp}{F:af->Prop}:∀{a:List PV}{c:List V}{b:List Int},a_ K H F a c->gF a=aa b->c=b.map V.int
 |[],_,_,r,e=>by cases e;exact r
 |.int i::a,_,b,⟨v,r,rfl,f,d⟩,e=>by
  cases q:gF a with
  |none=>simp[gF,q]at e
  |some g=>simp[gF,q]at e;subst e;rw[Bs d q,show v=V.int i from f];rfl
 |.non::_,_,_,_,e=>by simp[gF]at e
 |.bl _::_,_,_,_,e=>by simp[gF]at e
 |.str _::_,_,_,_,e=>by simp[gF]at e
 |.tup _::_,_,_,_,e=>by simp[gF]at e
 |.lst _::_,_,_,_,e=>by simp[gF]at e
 |.raw _::_,_,_,_,e=>by simp[gF]at e
 |.exc _::_,_,_,_,e=>by simp[gF]at e
end
end Pu
namespace Mx
def F5:Nat->Nat->Nat
 |0,x=>x
 |n+1,x=>F5 n (5*x+1)
end Mx
namespace L2
section
variable{X:Cx}{f:List (af×Obj)}{d:St}{H:Hp}{s:ao}{a:af}
theorem Inv.recast{p q:HO}(I:Inv X f d H s)(e:H a=aa p)(w:∀j,p≠.tup j)(D:∀o u,X.H₀ a≠aa (.frz o u))(C:∀m,p≠.tbl m)(B:∀x,p≠.own x)(new:ca X.prog X.w (upd H a q) s.heap a q):Inv X f d (upd H a q) s:=by
 have g:∀b,H b=ae->(upd H a q) b=ae:=λb i=>by rw[bj (by rintro rfl;rw[e]at i;cases i)];exact i
 refine⟨I.ok,I.os,I.bare,⟨I.base.keep,I.base.slot,λb o h n y=>g b (I.base.free b o h n y),I.base.there,λb j h=>?_,λb o u h=>?_,λb m h=>?_⟩,I.loc,I.cell,g _ I.free,λx c h=>g _ (I.freeC x c h),λp A=>?_,λb u i=>?_,I.len⟩
 .have z:=I.base.tups b j h;rw[bj (by rintro rfl;rw[e]at z;exact w j (dz z))];exact z
 .have z:=I.base.frzs b o u h;rw[bj (by rintro rfl;exact D o u h)];exact z
 .have z:=I.base.tbls b m h;rw[bj (by rintro rfl;rw[e]at z;exact C _ (dz z))];exact z
 .obtain⟨G,F,E⟩:=I.pin p A;exact⟨G,g _ F,E⟩
 .by_cases l:b=a
  .subst l;rw[bW]at i;cases i;exact new
  .rw[bj l]at i;refine(I.hok b u i).stay (λc v _ r=>r) (λc r=>?_) λc j r=>?_
   .rw[bj (by rintro rfl;rw[e]at r;exact B _ (dz r))];exact r
   .rw[bj (by rintro rfl;rw[e]at r;exact w _ (dz r))];exact r
def rz(o:Obj):Nat:=match o.data with
 |.dict _ b=>b
 |_=>0
end
end L2
namespace Pu
open L2
section
variable{X:Cx}{E:XK}{f:List Nat}{e b c:az}{de i g:ak->R PV}{d:Pos}
theorem EF{j:Type}[DecidableEq j]:∀{a:List (j×V)}{p:j×V},(a.map (·.1)).Nodup->p∈a->eM a p.1=aa p.2
 |q::a,p,l,h=>by
  rw[dO,lj]at l;rcases br.mp h with rfl|h
  .exact oJ rfl
  .rw[ot λe=>l.1 (cp.mpr ⟨p,h,e.symm⟩)];exact EF l.2 h
theorem O9{H:Hp}{a l:af}{o:HO}{u v:HO}(e:H a=aa v)(m:l≠a):upd (upd (upd H a o) l u) a v=upd H l u:=by
 funext b;by_cases j:b=a
 .subst j;rw[bW,bj (fF m),e]
 .rw[bj j];by_cases h:b=l
  .subst h;rw[bW,bW]
  .rw[bj h,bj h,bj j]
end
end Pu
namespace L2
theorem Jb{d:Pos}{a b:Int}{c g:ah}(l:List ah)(h:TriplesOk l)(e:tm d (l++[cP a,cP b,c])=aa g):tm d l=aa g\/g=c:=by
 fun_induction TriplesOk l with
 |case1=>simp[tm,cP]at e;exact .inr e.2.symm
 |case2 o t n u x rest i=>
  simp only[iu,tm]at e ⊢;split at e
  .rename_i f;rw[if_pos f];exact .inl e
  .rename_i f;rw[if_neg f];exact i h e
 |case3 l m j=>exact h.elim
section
variable{X:Cx}{i:List (af×Obj)}{d:St}{H:Hp}{s:ao}
structure vB(X:Cx)(x:Str)(c P:af):Prop where
 mem:x∈sS
 tab:j7 X.K x=aa (c,P)
 hd:w8 X.K c P=ai
 code:X.env.code=.ref c
theorem NX(I:Inv X i d H s){x:Str}{c P:af}(L:vB X x c P){j:qB}{y:az}{l:cU}{F:Pos}{w:List (Str×af)}(hq:X.env.qual++"<lambda>"=x++".<locals>.<lambda>") (nD:xf l X.env=pure w) (ua:defaultsOf j X.env=([],[])) {Q:ah->ao->Prop}(h:∀f c' p H' Y,Inv X i d H' Y->(∀b o,H b=aa o->H' b=aa o)->Y.heap.get? f=aa (AI "<lambda>" (X.env.qual++"<lambda>") j y l w ((X.mg "__name__").getD .none) c' p)->f≠X.env.locals -> Y.heap.CodeRec (.ref c') (X.env.qual++"<lambda>")->c'≠X.env.locals->Q (.ref f) Y):aq (aw X.prog X.w) X.A (aM (.Lambda j y l F) X.env) Q X.xe s:=by
 have M:=I.tab x L.mem c P L.tab;obtain⟨ps,hP,C,g⟩:=I.hok P _ M;have J:s.heap.Ns cn X.mg:=I.mod.glob.keeps I.bk;have hgP:cn≠P:=λz=>by
  obtain⟨o,es,ep,e,Z,_⟩:=J;rw[z,hP]at e;cases e;cases Z
 have S:s.heap.BuiltinsAt X.mg P:=by
  obtain⟨bm,ob,b1,b2,b3,b4,b5,b6⟩:=I.mod.bm;refine⟨bm,ob,b1,b2,λz=>?_,λz=>?_,I.bk _ _ b3,b4,b5,b6⟩
  .obtain⟨o,es,ep,e,Z,_⟩:=I.mod.glob;rw[<-z,b3]at e;cases e;rw[b6]at Z;cases Z
  .have e:=I.bk _ _ b3;rw[z,hP]at e;cases e;simp at b4
 have hC:=PySem.W.codeHd_of_K I.kIn L.hd;have Lne:X.env.locals≠P:=λz=>by have:=I.free;rw[z,M]at this;cases this
 refine PySem.W.kla_eval ua ?_;cases hf:tm F ps.toList with
 |some cv=>
  obtain⟨A,rfl,jQ,xL⟩:=g F _ hf;refine PySem.W.kla_makeFunctionHit (mg:=X.mg) nD I.ok.glob J L.code hC hP C hf S λp W tk hk hsz=>?_;have D:∀b o,s.heap.get? b=aa o->(W.push (AI "<lambda>" (X.env.qual++"<lambda>") j y l w ((X.mg "__name__").getD .none) A p)).get? b=aa o:=λb o e=>bh _ (hk b o e);refine h _ A p H _ (I.un (Un.kept D) (I.hok.kept D)) (λ_ _ e=>e) (cf _ rfl) (k9 (fc I.lt hsz)) ?_ λz=>?_
  .have G:s.heap.CodeRec (.ref A) (X.env.qual++"<lambda>"):=by rw[hq];exact xL
   exact G.keeps D
  .have:=I.free;rw[<-z,jQ]at this;cases this
 |none=>
  refine PySem.W.kla_makeFunction (mg:=X.mg) nD I.ok.glob J L.code hC hP C hf hgP S λA p W tk hx fJ aW xL O=>?_;generalize ho:AI "<lambda>" (X.env.qual++"<lambda>") j y l w ((X.mg "__name__").getD .none) A p=fo;have D:∀b o,b≠P->s.heap.get? b=aa o->(W.push fo).get? b=aa o:=λb o n e=>bh _ (hx b o n e);have fr:H A=ae:=I.hok.fresh fJ;have B:(W.push fo).CodeRec (.ref A) (X.env.qual++"<lambda>"):=xL.keeps λb o e=>bh _ e;have nP:∀b,H b=ae->b≠P:=λb n z=>by rw[z,M]at n;cases n
  have nc:∀b o,s.heap.get? b=aa o->b≠A:=λb o e=>cT (fc (bo e) fJ);have E:∀b o,H b=aa o->(upd H A (.own P)) b=aa o:=λb o e=>by rw[bj (n9 e fr)];exact e
  have I':Inv X i d (upd H A (.own P)) {s with heap:=W.push fo,gens:=s.gens,drawn:=s.drawn,toks:=tk}:=by
   refine I.step (ch:=[]) (λ_ z=>nomatch z) (λb o _ _ _ e n=>D b o (nP b n) e) (λb o _ _ _ e n=>⟨o.slots,D b o (nP b n) e⟩) (λb o _ e n=>by rw[bj (nc b o e)];exact n)
    (λb o _ e=>?_) (λb xs e=>E b _ e) (λb o u e=>E b _ e) (λb q e=>E b _ e) (λm hm=>?_) (λa u e=>?_) I.bare
   .by_cases T:b=P
    .subst T;exact⟨_,bh _ O⟩
    .exact⟨o,D b o T e⟩
   .exact(hm.extBut hx Lne).push _
   .by_cases ha:a=A
    .subst ha;rw[bW]at e;cases e;obtain⟨_,o,_,_,z,e2,_⟩:=B;cases z;exact⟨o,e2⟩
    .rw[bj ha]at e;by_cases T:a=P
     .subst T;rw[M]at e;cases e;refine⟨_,bh _ O,by rw[gz];exact TriplesOk_snoc _ _ _ _ C,λN cv K=>?_⟩;rw[gz]at K;rcases Jb _ C K with z|rfl
      .obtain⟨c2,rfl,h1,h2⟩:=g N cv z;refine⟨c2,rfl,E c2 _ h1,?_⟩;obtain⟨c3,o,vs,t,z,e2,r⟩:=h2;cases z;exact⟨c2,o,vs,t,rfl,D c2 o (λz=>by rw[z,M]at h1;cases h1) e2,r⟩
      .exact⟨A,rfl,bW,hq ▸ B⟩
     .refine(I.hok a u e).stay (λb v K r=>D b v ?_ r) (λb r=>E b _ r) λb xs r=>E b _ r;rcases K with rfl|K
      .exact T
      .rintro rfl;rw[M]at K;cases K
  exact h _ A p _ _ I' E (by rw[<-ho];exact cf _ rfl) (k9 (fc I.lt (cA fJ (l8 aW)))) B (k9 (fc I.lt fJ))
end
open Att
theorem Ef:∀{c:List V}{vs:List ah}{i:Nat}{v:ah},bq c vs->vs[i]?=aa v->∃x,c[i]?=aa x/\RelV x v
 |_,_,_,_,.nil,e=>by simp at e
 |_,_,0,_,.cons h _,e=>by simp at e;subst e;exact⟨_,rfl,h⟩
 |_,_,i+1,_,.cons _ t,e=>by obtain⟨x,a,b⟩:=Ef (i:=i) t (by simpa using e);exact⟨x,by simpa using a,b⟩
section
variable{X:Cx}{d:List (af×Obj)}{c:St}{H:Hp}{s:ao}
theorem Inv.mapKept{i:aB}{l:Nat}{m:Str->Option ah}(I:Inv X d c H s)(w:s.heap.Ns X.env.locals m)(f:i.Ns X.env.locals m)(k:∀b o,b≠X.env.locals->s.heap.get? b=aa o->i.get? b=aa o):Inv X d c H {s with heap:=i,toks:=l}:=by
 refine I.step (g':=s.gens) (d':=s.drawn) (ch:=[]) (λ_ z=>nomatch z) (λb o h _ _ e _=>k b o h e) (λb o h _ _ e _=>⟨o.slots,k b o h e⟩) (λ_ _ _ _ n=>n) (λb o _ e=>?_) (λ_ _ e=>e) (λ_ _ _ e=>e) (λ_ _ e=>e) (λq x=>?_) (λa u e=>?_) I.bare
 .by_cases j:b=X.env.locals
  .subst j;obtain⟨p,_,_,y,_⟩:=f;exact⟨p,y⟩
  .exact⟨o,k b o j e⟩
 .have:q=m:=x.eq_nsMap.trans w.eq_nsMap.symm;rw[this];exact f
 .refine(I.hok a u e).stay (λb v g r=>k b v ?_ r) (λ_ r=>r) λ_ _ r=>r;rintro rfl;have:=I.free;rcases g with rfl|g
  .rw[e]at this;cases this
  .rw[g]at this;cases this
end
end L2
namespace Pu
open L2
structure zK(K:ax)(mg:Str->Option ah)(x:Str)(c T:af):Prop where
 tab:j7 K x=aa (c,T)
 hd:w8 K c T=ai
 code:∀f fd oc od osl,mg x=aa (.ref f)->K.lookup f=aa ⟨oc,od,.func fd,osl⟩->fd.code=.ref c
theorem Mz{K:ax}{h:aB}{b:Str->Option ah}{x:Str}{c T:af}(X:K.In h)(G:h.Ns cn b)(a:j7 K x=aa (c,T))(l:w8 K c T=ai):zK K b x c T:=by
 refine⟨a,l,λf o oc n g i j=>?_⟩;unfold j7 at a;split at a
 .rename_i p e;have d:=nr X G e;rw[i]at d;cases d;rw[j]at a;dsimp only at a;split at a
  .rename_i q m;split at a
   .split at a
    .cases a;exact m
    .cases a
   .cases a
  .cases a
 .cases a
theorem Nw{B:fK}{P:aL}{w:aE}{K:ax}{m:Str->Option ah}{b:aB}{x:Str}{j:bi}{N l:List Str}{k n:Nat}{d:ak->R aO}{pin:List Nat}(Z:∃c T,zK K m x c T)(O:x∈sS)(D:c7 K m x j)(Y:cJ N l (bd j))(S:N.length=l.length+n)(F:∀(kV y G:ah) (X:Option af) (o W:ah) (q:List ah),q.length=l.length->eQ (jl x x (jw j) (gg j) (bd j) .none kV y G X o W) ⟨q,[]⟩=pure (l.zip q))(M:∀(f:af) (o:ah) (c T:af) (A:aS) (a:List Env) (s:ao) (H:Hp) (E:XK),Room k (A.deeper (jj x (bd j) s.heap.objs.size f o))->vB (h8 B P w K m b N x (bd j) f o A a s H E) x c T->g6 (h8 B P w K m b N x (bd j) f o A a s H E) E pin (gg j) d):c8 B P w K m b x (k+1) l (ce K (bH l.length pin (bL n d))):=by
 have no:∀{g},bH l.length pin (bL n d) g≠.no->g.length=l.length/\eU pin 0 g=ai:=λ{g} h=>by
  unfold bH at h;by_cases z:g.length=l.length/\eU pin 0 g=ai
  .exact z
  .rw[if_neg z]at h;exact absurd rfl h
 obtain⟨f,v,C,p⟩:=D.ex;obtain⟨c,T,L⟩:=Z;refine⟨f,v,C,BC p Y S F (λg h=>(no h).1) (λg h i r e=>by have:=(nU (no h).2 i r e).1;rwa[tL]at this) (λg rs aF h=>.inr λi r e=>(nU (no (by rw[h];exact nofun)).2 i r e).2) (λg h=>by unfold bH;rw[if_pos (no h)]) λA a s H E Q=>?_,p.binds F,p.kp⟩;obtain⟨oc,I,_,_,_,_,_,_,u,_,J,_⟩:=p.ex;exact M f v.code c T A a s H E Q ⟨O,L.tab,L.hd,L.code f v oc I u C J⟩
end Pu
theorem L2.Room.d1{k:Nat}{A:PySem.Around}(r:L2.Room k A):A.depth+1<PySem.recursionLimit:=by have:=r.dp;lia
namespace L2
open Mx
theorem perm_mapE{g q:Type}{f:g->q}{l:List q}{m:List g}(h:l.Perm (m.map f)):∃d:List g,l=d.map f/\d.Perm m:=by
 generalize c:m.map f=mm at h
 induction h generalizing m with
 |nil=>
  cases m with
  |nil=>exact⟨[],rfl,.nil⟩
  |cons=>cases c
 |cons x _ w=>
  cases m with
  |nil=>cases c
  |cons y r=>rw[dO]at c;injection c with o n;obtain⟨d,e,p⟩:=w n;exact⟨y::d,by rw[dO,<-e,o],p.cons y⟩
 |swap x y l=>
  match m,c with
  |a::b::r,c=>simp only[dO,List.cons.injEq]at c;obtain⟨o,n,z⟩:=c;exact⟨b::a::r,by simp[o,n,z],.swap ..⟩
 |trans _ _ j i=>obtain⟨C,A,s⟩:=i c;obtain⟨v,B,u⟩:=j A.symm;exact⟨v,B,u.trans s⟩
section
variable{P:aL}{w:aE}{A:aS}{E:ah->ao->Prop}{s:ao}
structure Keyd(P:aL)(w:aE)(K:Type)[DecidableEq K] where
 is:aB->K->ah->Prop
 hash:K->Int
 room:aS->Prop
 keep:∀{h h':aB}{k:K}{v:ah},is h k v->(∀b o,h.get? b=aa o->o.cls=.type "tuple"->h'.get? b=aa o)->is h' k v
 ref:∀{h:aB}{k:K}{v:ah},is h k v->∃a o,v=.ref a/\h.get? a=aa o
 eqBool:∀{A:aS}{E:ah->ao->Prop}{s:ao}{x y:K}{u v:ah}{Q:Bool->ao->Prop},room A->is s.heap x u->is s.heap y v->Q (decide (x=y)) s->aq (aw P w) A (PySem.eqBool u v) Q E s
 quiet:∀{A:aS}{E:ah->ao->Prop}{s:ao}{k:K}{v:ah}{Q:Bool->ao->Prop},is s.heap k v->Q ai s->aq (aw P w) A (tQ 8 v) Q E s
 cls:∀{A:aS}{E:ah->ao->Prop}{s:ao}{k:K}{v:ah}{Q:Bool->ao->Prop},is s.heap k v->Q aj s->aq (aw P w) A (ofAClassStatement 8 v) Q E s
 hbv:∀{A:aS}{E:ah->ao->Prop}{s:ao}{k:K}{v:ah}{Q:Bool->ao->Prop},is s.heap k v->Q aj s->aq (aw P w) A (hashByValue 8 v) Q E s
variable{K:Type}[DecidableEq K]{c:Keyd P w K}
end
section
variable{P:aL}{w:aE}{A:aS}{E:ah->ao->Prop}{s:ao}
theorem tupTy{a:af}{b:Array ah}(h:IsTup s.heap a b):s.TypeIs (.ref a) "tuple":=let ⟨o,ho,hc,_⟩:=h;⟨o,ho,hc⟩
theorem quiet_tup{n:Nat}{a:af}{b:Array ah}{Q:Bool->ao->Prop}(i:IsTup s.heap a b)(q:∀v∈b.toList,∀(E:ah->ao->Prop) (Q:Bool->ao->Prop),Q ai s->aq (aw P w) A (tQ n v) Q E s)(h:Q ai s):aq (aw P w) A (tQ (n+1) (.ref a)) Q E s:=by
 have g:=tupTy i;obtain⟨o,p,_,m,x⟩:=i;unfold tQ;refine ap (w6 g F.slot_tuple_eq.lookup ?_);show aq _ _ (isInstance (.ref a) (.type "tuple") >>= _) _ _ s;refine ap (Aw g isSubtype_tuple_tuple ?_);simp only[Bool.not_true,jL,if_false];refine ap (xr p x ?_);refine ap ?_;show aq _ _ (forIn b _ _) _ _ s;rw[<-Array.forIn_toList];refine AJ _ (λrest r c=>r.1=ae/\c=s/\∀v∈rest,v∈b.toList) _ ?_ ?_ _ _ ⟨rfl,rfl,λv l=>l⟩
 .rintro v rest r c ⟨f,rfl,j⟩;refine ap (q v (j v jD) _ _ ?_);simp only[Bool.not_true,jL,if_false];exact aC ⟨rfl,rfl,λu d=>j u (jE _ d)⟩
 .rintro⟨z,y⟩ c ⟨f,rfl,_⟩;simp only at f;subst f;exact aC h
theorem tup_uniq{h:aB}{a:af}{x y:Array ah}(g:IsTup h a x)(f:IsTup h a y):x=y:=by
 obtain⟨o,e,_,n,d⟩:=g;obtain⟨i,b,_,j,c⟩:=f;rw[e]at b;cases b;rw[d]at c;cases c;rfl
theorem strs_uniq:∀{a:List ah}{x y:List Str},dY a x->dY a y->x=y
 |_,_,_,.nil,.nil=>rfl
 |_,_,_,.cons z t h,.cons _ _ b=>by rw[strs_uniq h b]
theorem all_getD{a b:List Str}:((bI (min a.length b.length)).all (λj=>a.getD j gi == b.getD j gi)&&a.length == b.length)=decide (a=b):=by
 rw[lg,fU,ke,decide_eq_true_iff,beq_iff_eq];constructor
 .rintro⟨g,f⟩;refine List.ext_getElem f λi d c=>?_;have:=g i (j6.mpr ∅);rw[beq_iff_eq]at this;simpa[d,c]using this
 .rintro rfl;exact⟨λx _=>by simp,rfl⟩
theorem strs_len{a:List ah}{b:List Str}(h:dY a b):a.length=b.length:=h.length
theorem eq_strs{b h:af}{c a:Array ah}{i d:List Str}(u:A.units<cLine)(o:IsTup s.heap b c)(f:dY c.toList i)(p:IsTup s.heap h a)(g:dY a.toList d):tz A s (.ref b) (.ref h) (decide (i=d)):=by
 by_cases n:b=h
 .subst n;obtain rfl:=tup_uniq o p;obtain rfl:=strs_uniq f g;rw[decide_eq_true rfl];exact .same _
 .have m:=strs_len f;have l:=strs_len g;rw[jG]at m l;rw[<-all_getD,<-m,<-l];refine .of_refs n (.tuples o p u λj r q=>?_);obtain⟨t,e⟩:=vZ j c[j] f (by simp[r]);obtain⟨x,v⟩:=vZ j a[j] g (by simp[q]);rw[e,v];exact Fo _ _ _ _
theorem tup_kept{h d:aB}{a:af}{x:Array ah}(f:IsTup h a x)(k:∀b o,h.get? b=aa o->o.cls=.type "tuple"->d.get? b=aa o):IsTup d a x:=by obtain⟨o,e,c,r⟩:=f;exact⟨o,k a o e c,c,r⟩
theorem strs_mem_shape{a:List ah}{b:List Str}(h:dY a b):∀v∈a,∃z t,v=Value.str z t:=λv c=>h.all v c
end
section
open PySem.SeqAt
open PySem.AutoSeq1 (wpAny_loadPart')
open PySem.MeetsSeq PySem.MeetsSeq2 PySem.MeetsSeq3
end
end L2
namespace Pu
open L2
abbrev cC:=List aR
def jd(a:List (cC×PV))(k:cC):Option PV:=(a.find? λb=>decide (b.1=k)).map (·.2)
def mC(a:List (cC×PV))(k:cC)(v:PV):List (cC×PV):=if(a.any λb=>decide (b.1=k))=ai then a.map (λb=>if b.1=k then(b.1,v)else b)else a++[(k,v)]
def vf:List PV->Option cC
 |[]=>aa []
 |x::a=>(vx x).bind λk=>(vf a).map (k::·)
def kU:PV->Option cC
 |.tup a=>vf a
 |_=>ae
section
variable{K:ax}{F:af->Prop}{S:Nat->af->Prop}{ε:ak}{d:St}{H:Hp}{i:Nat}{c:List (cC×PV)}{ws:List (cC×V)}{a:af}
theorem C3:∀{f:List PV}{b:List V}{k:cC},a_ K H F f b->vf f=aa k->b=k.map kV
 |[],b,k,r,e=>by cases r;cases e;rfl
 |x::f,b,k,⟨v,r,j,h,g⟩,e=>by simp only[vf,AD,ma]at e;obtain⟨n,m,ks,l,rfl⟩:=e;rw[j,NC h m,C3 g l];rfl
theorem Bo{x:PV}{v:V}{k:cC}(r:aN K H F x v)(e:kU x=aa k):∃b,v=.ref b/\H b=aa (.tup (k.map kV)):=by
 cases x <;> simp[kU]at e;obtain⟨b,h,rfl,g,f⟩:=r;exact⟨b,rfl,by rw[g,C3 f e]⟩
theorem gf.len(h:gf K H F c ws):ws.length=c.length:=by
 unfold gf at h
 induction h with
 |nil=>rfl
 |cons _ _ b=>simp[b]
theorem gf.val(h:gf K H F c ws)(k:cC):(∃x v,jd c k=aa x/\eM ws k=aa v/\aN K H F x v)\/(jd c k=ae/\eM ws k=ae):=by
 unfold gf at h
 induction h with
 |nil=>exact .inr ⟨rfl,rfl⟩
 |@cons p q ps qs r _ ih=>
  by_cases e:p.1=k
  .refine .inl ⟨p.2,q.2,by simp[jd,gR,e],?_,r.2⟩;rw[oJ (by rw[<-r.1];exact e)]
  .have b:¬q.1=k:=by rw[<-r.1];exact e
   rw[ot b];have:jd (p::ps) k=jd ps k:=by simp[jd,gR,e]
   rw[this];exact ih
theorem gf.any(h:gf K H F c ws)(k:cC):(c.any λb=>decide (b.1=k))=ws.any λb=>decide (b.1=k):=by
 unfold gf at h
 induction h with
 |nil=>rfl
 |cons r _ f=>rw[qF,qF,f,r.1]
theorem gf.put(h:gf K H F c ws)(k:cC){x:PV}{v:V}(r:aN K H F x v):gf K H F (mC c k x) (iI ws k v):=by
 unfold mC iI;rw[h.any k];split
 .rename_i b;clear b;unfold gf at h ⊢
  induction h with
  |nil=>exact .nil
  |@cons p q ps qs r1 _ ih=>
   refine .cons ?_ ih;dsimp only;by_cases e:p.1=k
   .rw[if_pos e,if_pos (by rw[<-r1.1];exact e)];exact⟨r1.1,r⟩
   .rw[if_neg e,if_neg (by rw[<-r1.1];exact e)];exact r1
 .exact wY h ⟨rfl,r⟩
theorem aQ.dtAt(r:aQ K F S ε d H)(e:ε[i]?=aa (.own (.dT c))):∃a ws,d[i]?=aa (aa (.ref a))/\H a=aa (.dT ws)/\gf K H F c ws/\S i a/\∀b,S i b->b=a:=by obtain⟨a,m,⟨g,l,j⟩,f⟩:=r.own i _ e;exact⟨a,g,m,l,j,(f a).mpr rfl,λb h=>(f b).mp h⟩
end
def fq(b:ak)(i:Nat):Option (List (cC×PV)):=match b[i]? with
 |some (.own (.dT a))=>aa a
 |_=>ae
theorem p6{b:ak}{i:Nat}{a:List (cC×PV)}(h:fq b i=aa a):b[i]?=aa (.own (.dT a)):=by
 unfold fq at h;split at h
 .cases h;assumption
 .cases h
section
variable{X:Cx}{E:XK}{pin:List Nat}{e b c:az}{de f g:ak->R PV}{d:Pos}
def jb(i:Nat)(f de:ak->R PV):ak->R aO:=λj=>(de j).bind λy ε1=>(a6 (fq ε1 i) ε1).bind λ_ ε1=>(f ε1).bind λk a=>(a6 (fq a i) a).bind λh a=>(a6 (kU k) a).bind λk a=>if h.length<cx then .ok .next (a.set i (.own (.dT (mC h k y))))else .no
theorem E4(i:Nat){y:Str}{I l:Pos}(hu:X.A.units+64<cLine)(hb:DE X E b f)(he:DE X E e de)(hN:X.N[i]?=aa y:=by rfl)(fg:fu X.env.scope y:=by eq_refl)(hd:(y==("__debug__":Str))=aj:=by decide) (bK:(y==("__classdict__":Str))=aj:=by decide) (hs:iM e (aa (.Subscript (.Name y I) b l)) d.line X.env=pure aj:=by rfl):DS X E pin (.Assign [.Subscript (.Name y I) b l] e d) (jb i f de):=λF S M p H D T h=>by
 refine ie (HJ ∅ (gK hN fg hd bK) bA bA hs) (he F S M p H _ T (h.bindE.imp λy m F1 S1 H1 s g1 q v P=>?_));cases G:fq m i with
 |none=>rw[G]at q;exact q.elim
 |some K=>
  rw[G]at q;simp only[dU,R.bind_ok]at q;obtain⟨a,N,B,ha0,_⟩:=s.dtAt (p6 G);refine⟨.ref a,B,hb F1 S1 m p H1 _ s (q.bindE.imp λk r F2 S2 H2 J g2 j u Q=>?_)⟩;cases o:fq r i with
  |none=>rw[o]at j;exact j.elim
  |some x=>
   rw[o]at j;simp only[dU,R.bind_ok]at j;obtain⟨a',O,n,ha,L,_⟩:=J.dtAt (p6 o);rw[B]at n;cases n;cases C:kU k with
   |none=>rw[C]at j;exact j.elim
   |some w=>
    rw[C]at j;simp only[dU,R.bind_ok]at j;split at j
    .rename_i hl;obtain⟨bb,rfl,Z⟩:=Bo Q C;have b_:=L.put w (P.grow g2 s.fit);obtain⟨W,g3⟩:=J.updO (po':=.dT (mC x w y)) (o':=.dT (iI O w v)) (p6 o) rfl B trivial λH' Y m2 A Sa z=>⟨⟨_,A,b_.mono Y⟩,z⟩
     exact⟨a,_,rfl,z9.t ha Z (by rw[L.len];exact fc hl jV),j F2 S2 p _ W g3 (i9.refl _ _)⟩
    .exact j.elim
def Ed:ak->R PO:=λa=>.ok (.dT []) a
theorem IQ:DN X E (.Dict [] [] d) Ed:=λF S m l H Q i h=>bY N9 λp a=>by
 have al:Al F F H (upd H p (.dT [])):=Al.new0 a;refine h F S _ (i.al al) al.grow p (λb=>b=p) ⟨⟨[],bW,.nil⟩,λb=>Iff.rfl⟩ λb z=>?_;subst z;refine⟨a,λz=>?_,λ⟨j,z⟩=>?_,_,bW,trivial⟩
 .obtain⟨o,q⟩:=i.ex b z;rw[a]at q;cases q
 .obtain⟨_,_,o,q,_⟩:=i.foot j b z;rw[a]at q;cases q
end
end Pu
namespace L2
def pH(h:aB)(d:af)(a:Array tD)(b:Nat):Prop:=∃o,h.get? d=aa o/\o.ExactDict/\o.data=.dict a b
section
variable{P:aL}{w:aE}{A:aS}{E:ah->ao->Prop}{s:ao}{d f:af}{c:Array tD}{g i:Nat}
theorem pH.ty(r:pH s.heap d c g):s.TypeIs (.ref d) "dict":=let ⟨o,ho,hc,_⟩:=r;⟨o,ho,hc.1⟩
theorem JU{Q:ah->ao->Prop}(j:(d == ip)=aj)(r:pH s.heap d c g)(q:Q (.ref s.heap.objs.size) {s with heap:=s.heap.push {cls:=.type "dict_keyiterator",data:=.fields #[.ref d,.int 0 0,.int c.size 0,.int g 0]}}):aq (aw P w) A (lc (.ref d)) Q E s:=by have a:=r.ty;obtain⟨o,h,l,b⟩:=id r;refine FD a F.slot_dict_iter (m_ F.slot_dict_iter a F.entry_dict_iter ?_ (F.args_dict_iter_1 _));unfold Builtin.«dict.__iter__» Builtin.Dict.dictSlotNone;refine ap (ap (wpAny_notOrdered_dict a ?_));refine aC (show aq _ _ (Builtin.Dict.showsAll d >>= _) _ _ s from ?_);unfold Builtin.Dict.showsAll;rw[if_neg (by rw[j];exact dX)];refine ap (aC (ap (FU h b (ap (wpAny_dictEpoch h b ?_)))));refine ap (jI (aC ⟨_,rfl,"dict_keyiterator",_,⟨_,cf _ rfl,rfl⟩,F.slot_dict_keyiterator_next.lookup,?_⟩));simpa[cP]using q
theorem GI{Q:Option ah->ao->Prop}(a:s.heap.IsKeyIter f d i c.size g)(r:pH s.heap d c g)(p:i<c.size)(q:∀l,l.IsKeyIter f d (i+1) c.size g->jF f s.heap l->Q (aa c[i].key) {s with heap:=l}):aq (aw P w) A (k_ (.ref f)) Q E s:=by
 obtain⟨u,h,j,b⟩:=id a;obtain⟨v,o,x,m⟩:=id r;unfold k_;refine ap (Au (Ai (name:=oV "__next__") a.typeIs AK (m_ AK a.typeIs Pn ?_ (Po _))));refine ap (aC (ap (ap ?_)))
 first|refine ap (AL a.typeIs (aC ?_))|refine ap (AM a.typeIs (aC ?_))
 refine ap (wpAny_fieldsOf h b ?_);simp only[show Builtin.Dict_items.ownsTuple "dict_keyiterator"=aj by decide,jL,if_false];show aq _ _ (if(Value.ref d == Value.none)=ai then _ else _) _ _ s;rw[if_neg (show ¬((Value.ref d == Value.none)=ai)from dX)];refine ap (aC (ap (FU o m ?_)));rw[if_neg (by simp)];refine ap (aC (ap (wpAny_dictEpoch o m ?_)));rw[if_neg (by simp)];refine aC ?_;simp only[show ¬((i:Int)<0)from by lia,if_false,gy,tJ p];refine ap ?_
 first|refine ap (AL a.typeIs (aC ?_))|refine ap (AM a.typeIs (aC ?_))
 refine ap (wpAny_isOneOf_keyiter a.typeIs ?_);refine show aq _ _ (ka (.ref f) 1 (cP ((i:Int)+1)) >>= _) _ _ s from ap (o0 h b (by simp) ?_)
 have n:(s.heap.update f (mi (·.setIfInBounds 1 (cP ((i:Int)+1))))).IsKeyIter f d (i+1) c.size g :=⟨_,nh _ h (AB (tK b _)),(Obj.cls_mapFields ..).trans j,by rw[tK b];simp[cP]⟩
 refine ap (iN (ap (wpAny_isOneOf_keyiter (s:={s with heap:=s.heap.update f (mi (·.setIfInBounds 1 (cP ((i:Int)+1))))}) n.typeIs ?_)));exact show aq _ _ (pure c[i].key) _ _ _ from aC (aC ⟨_,rfl,aC (q _ n (mf ..))⟩)
theorem Ow{Q:Option ah->ao->Prop}(v:A.handled=ae)(h:s.heap.IsKeyIter f d i c.size g)(r:pH s.heap d c g)(u:c.size<=i)(q:∀p,Heap.ExtBut f s.heap p->Q ae {s with heap:=p}):aq (aw P w) A (k_ (.ref f)) Q E s:=by
 obtain⟨y,l,x,n⟩:=id h;obtain⟨z,o,B,j⟩:=id r;unfold k_;refine ap (Au (Ai (name:=oV "__next__") h.typeIs AK (m_ AK h.typeIs Pn ?_ (Po _))));refine ap (aC (ap (ap ?_)))
 first|refine ap (AL h.typeIs (aC ?_))|refine ap (AM h.typeIs (aC ?_))
 refine ap (wpAny_fieldsOf l n ?_);simp only[show Builtin.Dict_items.ownsTuple "dict_keyiterator"=aj by decide,jL,if_false];show aq _ _ (if(Value.ref d == Value.none)=ai then _ else _) _ _ s;rw[if_neg (show ¬((Value.ref d == Value.none)=ai)from dX)];refine ap (aC (ap (FU o j ?_)));rw[if_neg (by simp)];refine ap (aC (ap (wpAny_dictEpoch o j ?_)));rw[if_neg (by simp)];refine aC ?_;simp only[show ¬((i:Int)<0)from by lia,if_false,gy,Array.getElem?_eq_none u];refine ap ?_
 first|refine ap (AL h.typeIs (aC ?_))|refine ap (AM h.typeIs (aC ?_))
 refine show aq _ _ (ka (.ref f) 0 .none >>= _) _ _ s from ap (o0 l n (by simp) ?_)
 refine show aq _ _ (newExc (.type "StopIteration") [] >>= _) _ _ _ from ap ?_
 simp only[newExc,newTuple];refine ap (jI ?_ (by size_fits));refine ap (m:=Av _ _) (tG (a:=Value.none) (by first|rfl | (simp only[Av];rfl)) ?_);refine jI ?_ (by size_fits);simp only[raiseNew];refine ap (wpAny_handled ?_);rw[show A.in1.handled=ae from v];refine ap (aC (wpAny_throw ?_));refine ap (Aw (T:="StopIteration") (b:=ai) ⟨_,cf _ rfl,rfl⟩ isSubtype_stop ?_);exact aC (q _ (((mf ..).extBut.push _).push _))
end
section
variable{X:Cx}{f:List (af×Obj)}{d:St}{H:Hp}{s:ao}{a:af}{c:List (List aR×V)}
theorem DC{P:aL}{w:aE}{h:aB}{o:Obj}(z:h.get? a=aa o)(k:ca P w H h a (.dT c)):(a == ip)=aj/\∃j,pH h a j (rz o)/\j.size=c.length/\(c.map (·.1)).Nodup /\
  ∀(i:Nat) (e:tD),j[i]?=aa e->∃p b,c[i]?=aa p/\e.key=.ref b/\H b=aa (.tup (p.1.map kV)):=by
 obtain⟨u,G,F,g,M,j,K,E,v,D,y,A⟩:=k;rw[z]at E;cases E;have L:rz o=K:=by unfold rz;rw[D]
 have B:=wM g;refine⟨G,j,⟨o,z,v,by rw[L];exact D⟩,by rw[<-jG,y,dD];exact B.symm,?_,λi e C=>?_⟩
 .have:c.map (·.1)=F.map (·.1):=by
   clear y A B u
   induction g with
   |nil=>rfl
   |cons r _ n=>simp[n,r.1]
  rw[this];exact A
 .rw[<-tP,y,gx]at C;obtain⟨x,v,rfl⟩:=ma.mp C;have:∀{l:List (List aR×V)}{m:List (List aR×af×ah)} (i:Nat) (x:List aR×af×ah),iK (λ(p:List aR×V) (q:List aR×af×ah)=>p.1=q.1/\H q.2.1=aa (.tup (p.1.map kV))/\RelV p.2 q.2.2) l m->m[i]?=aa x->∃p,l[i]?=aa p/\H x.2.1=aa (.tup (p.1.map kV)):=by
   intro l m i x r
   induction r generalizing i with
   |nil=>intro e;simp at e
   |cons r _ n=>
    intro e;cases i with
    |zero=>simp at e;subst e;exact⟨_,rfl,r.2.1⟩
    |succ i=>exact n i (by simpa using e)
  obtain⟨p,I,J⟩:=this i x g v;exact⟨p,x.2.1,I,rfl,J⟩
theorem Inv.freezeT(I:Inv X f d H s)(e:H a=aa (.dT c)):∃o,s.heap.get? a=aa o/\Inv X f d (upd H a (.frz o (.dT c))) s:=by
 have k:ca X.prog X.w H s.heap a (.dT c):=I.hok a _ e;obtain⟨z,i,h,b,o,j,l,g,r⟩:=id k;refine⟨o,g,I.recast e (λ_ q=>by cases q) (λo u q=>?_) (λ_ q=>by cases q) (λ_ q=>by cases q) ⟨g,z,i,h,Paired.mapP b λp q z=>⟨z.1,?_,z.2.2⟩,o,j,l,g,r⟩⟩
 .have:=I.base.frzs a o u q;rw[e]at this;cases this
 .rw[bj (u5 z.2.1 e (λz=>nomatch z))];exact z.2.1
theorem Inv.thawT{o:Obj}(I:Inv X f d H s)(e:H a=aa (.frz o (.dT c)))(i:∀o u,X.H₀ a≠aa (.frz o u)):Inv X f d (upd H a (.dT c)) s:=by
 obtain⟨j,z,h,g,b,r⟩:=(show ca X.prog X.w H s.heap a (.frz o (.dT c))from I.hok a _ e)
 refine I.recast e (λ_ q=>by cases q) i (λ_ q=>by cases q) (λ_ q=>by cases q) ⟨z,h,g,Paired.mapP b λp q z=>⟨z.1,?_,z.2.2⟩,r⟩;rw[bj (u5 z.2.1 e (λz=>nomatch z))];exact z.2.1
end
def mR(o:Obj):List af:=match o.data with
 |.dict a _=>a.toList.map λe=>match e.key with
  |.ref b=>b
  |_=>0
 |_=>[]
def sD(a:af)(o:Obj)(c:List (List aR×V)):It :=⟨λi H=>H a=aa (.frz o (.dT c))/\i<c.length,λi H x d=>d=H/\∃b,(mR o)[i]?=aa b/\x=.ref b,λi H=>H a=aa (.frz o (.dT c))/\c.length<=i⟩
def xP(H:Hp)(a:List (List aR×V))(bs:List af):Prop:=bs.length=a.length/\∀(i:Nat) (b:af),bs[i]?=aa b->∃p,a[i]?=aa p/\H b=aa (.tup (p.1.map kV))
theorem Co{P:aL}{w:aE}{H:Hp}{h:aB}{a:af}{o:Obj}{f:List (List aR×V)}(r:h.get? a=aa o)(k:ca P w H h a (.dT f)):(a == ip)=aj/\∃d,pH h a d (rz o)/\d.size=f.length/\(f.map (·.1)).Nodup/\xP H f (mR o)/\∀(i:Nat) (e:tD),d[i]?=aa e->∃b,(mR o)[i]?=aa b/\e.key=.ref b:=by
 obtain⟨B,d,rd,q,A,j⟩:=DC r k;have n:mR o=d.toList.map λe=>match e.key with
  |.ref b=>b
  |_=>0:=by
  obtain⟨D,z,_,C⟩:=rd;rw[r]at z;cases z;unfold mR;rw[C]
 have l:∀(i:Nat) (e:tD),d[i]?=aa e->∃b,(mR o)[i]?=aa b/\e.key=.ref b:=λi e g=>by obtain⟨p,b,y,m,x⟩:=j i e g;refine⟨b,?_,m⟩;rw[n,gx,tP,g,xq,m]
 refine⟨B,d,rd,q,A,⟨by rw[n,dD,jG];exact q,λi b s=>?_⟩,l⟩;have g:i<d.size:=by have:=(cY.mp s).1;rw[n,dD,jG]at this;exact this
 obtain⟨p,c,y,m,x⟩:=j i d[i] (by simp[g]);obtain⟨E,v,u⟩:=l i d[i] (by simp[g]);rw[s]at v;cases v;rw[m]at u;cases u;exact⟨p,y,x⟩
theorem Oi{P:aL}{w:aE}{K:ax}{S:az}(a l:af)(o:Obj)(g:List (List aR×V)):oh P w K S (sD a o g) [l] l (λi h=>h.IsKeyIter l a i g.length (rz o)) where
 mem:=by simp
 obj:=λi h f b j=>by
  have e:b=l:=by simpa using j
  subst e;obtain⟨o,e,c,d⟩:=f;exact⟨o,e,λv z=>by rw[d]at z;cases z⟩
 keep:=λi h p f k=>f.at λo e=>k l (by simp) o e
 item:=by
  intro X B q C O i Q s M H E I n f y;subst B q C;obtain⟨r,N⟩:=y;obtain⟨u,x⟩:=(show ca X.prog X.w H s.heap a (.frz o (.dT g))from I.hok a _ r)
  obtain⟨T,J,rd,m,_,_,A⟩:=Co u x;obtain⟨b,j,Y⟩:=A i J[i] (by simp[m,N]);obtain⟨G,F,f2,f3,f4,D⟩:=n l (by simp);rw[<-m]at f;refine GI f rd ∅ λp L sb=>?_;have Z:Inv X Q M H {s with heap:=p}:=I.turned (t':=s.toks) (λb o j e=>(sb.2 b j).trans e) G F f3 f4 D;rw[m]at L;obtain⟨oi,e,c,d⟩:=id L;exact⟨J[i].key,rfl,pM (s:={s with heap:=p}) e c d (by decide) ⟨.ref b,H,Z,by rw[Y];rfl,⟨rfl,b,j,rfl⟩,L,λb j=>(n b j).1⟩⟩
 done:=by
  intro X B q C O i Q s M H E I n f y;subst B q C;obtain⟨r,N⟩:=y;obtain⟨u,x⟩:=(show ca X.prog X.w H s.heap a (.frz o (.dT g))from I.hok a _ r)
  obtain⟨T,J,rd,m,_⟩:=DC u x;obtain⟨G,F,f2,f3,f4,D⟩:=n l (by simp);rw[<-m]at f;exact Ow (I.ok.hd O) f rd ∅ λp W=>⟨rfl,I.turned (t':=s.toks) (λb o j e=>W b o j e) G F f3 f4 D⟩
 self:=λ_ _ _ _ _ f h=>wpAny_pyIter_keyiter f h
section
variable{X:Cx}{c:az}
def GR(g:TE):TI:=λf H R=>g f H λx d=>∃a b,x=.ref a/\d a=aa (.dT b)/\∀o,(b.map (·.1)).Nodup->b.length<=aX->xP d b (mR o)->R (sD a o b) (upd d a (.frz o (.dT b)))
theorem Jn{d:az}{n:TE}(C:PE X d n):PI X c d (GR n):=by
 intro E s r H R I h;refine aI (C E s r H _ I h) λv g ⟨x,p,m,u,w⟩=>?_;obtain⟨a,f,e,j,q⟩:=w;subst e;cases u;obtain⟨o,B,l⟩:=m.freezeT j;obtain⟨A,F,rd,z,y,i,_⟩:=Co (o:=o) B (show ca X.prog X.w p g.heap a (.dT f)from m.hok a _ j);refine JU A rd ?_;rw[z];refine⟨g.heap.objs.size,[g.heap.objs.size],_,_,_,rfl,l.kept (t':=g.toks) λb o e=>bh _ e,Oi a _ o f,⟨_,cf _ rfl,rfl,rfl⟩,λb D=>?_,q o y (show ca X.prog X.w p g.heap a (.dT f)from m.hok a _ j).1 i⟩;have e:b=g.heap.objs.size:=by simpa using D
 subst e;exact l.fpOk (aZ _) (l.hok.fresh (aZ _))
def Ih(a:af)(b:List (List aR×V))(D:jx):St->Hp->Prop:=λd f=>∃o,f a=aa (.frz o (.dT b))/\D.nx d (upd f a (.dT b))
end
end L2
namespace Pu
open L2
section
variable{K:ax}{F:af->Prop}{H:Hp}
theorem gf.keys{a:List (cC×PV)}{b:List (cC×V)}(h:gf K H F a b):b.map (·.1)=a.map (·.1):=by
 unfold gf at h
 induction h with
 |nil=>rfl
 |cons r _ c=>rw[dO,dO,c,r.1]
end
end Pu
namespace L2
theorem Lr{P:aL}{w:aE}{A:aS}{E:ah->ao->Prop}{s:ao}{t b:af}{f:List ah}{Q:ah->ao->Prop}(v:IsTup s.heap t #[])(x:IsTup s.heap b f.toArray)(h:Q (.ref b) s):aq (aw P w) A (fG .Add (.ref t) (.ref b)) Q E s:=by
 obtain⟨⟨z,y,p,r⟩,j,m,n,l⟩:=id v;obtain⟨⟨q,c,d,a⟩,o,i,u,g⟩:=id x;simp only at m l i g;subst m l i g;exact concat_meets ⟨_,j,rfl⟩ ⟨_,o,rfl⟩ Fh seq_tuple_add Fi Fj (Fk _ _)
  (tuple_addW0 t b #[] f.toArray n u y c r a rfl) ⟨j,o,h⟩
def zE(K:ax):R2:=λx y H Q=>∃a b c,x=.ref a/\y=.ref b/\bR K H a []/\bR K H b c/\Q (.ref b) H
theorem Qc{X:Cx}:bD X (fG .Add) (zE X.K):=by
 intro w s o H x y v u Q I f d h;obtain⟨a,b,p,rfl,rfl,n,m,q⟩:=h;cases f;cases d;obtain⟨l,g,j,_⟩:=I.tuple n;obtain⟨c,r,i,_⟩:=I.tuple m;cases g;exact Lr j i ⟨.ref b,H,I,rfl,q⟩
end L2
namespace Pu
open L2
theorem BU{X:Cx}:bD X (fG .Add) (λx y H Q=>zE X.K x y H Q\/vC X.K x y H Q):=Qc.or gb
end Pu
namespace L2
section
variable{P:aL}{w:aE}{A:aS}{E:ah->ao->Prop}{s:ao}
theorem ME{h:aB}{o:Obj}{l:af}{a:Array ah}(x:h.IsTuple l a):(h.push o).IsTuple l a:=let ⟨ob,e,r⟩:=x;⟨ob,bh _ e,r⟩
set_option maxRecDepth 100000 in
theorem Ld{l:af}{a:Array ah}{Q:ah->ao->Prop}(hh:A.handled=ae)(hl:s.heap.IsTuple l a){J:Nat->aB->Prop}(hJ:∀i h d,J i h->(∀b o,b<=s.heap.objs.size->h.get? b=aa o->d.get? b=aa o)->J i d) (W:J 0 (s.heap.push {cls:=.type "set",dict:=ae,data:=.set #[] 0 (.fresh 0 0 (!dv w))}))(iT:∀(i:Nat) (v:ah) (f:ao) (E:ah->ao->Prop) (Q:Bool->ao->Prop),i<a.size->a[i]?=aa v->J i f.heap->(∀d m b,f.toks<=m->jF s.heap.objs.size f.heap d->J (i+1) d->Q b {f with heap:=d,toks:=m})->aq (aw P w) A.in1.in1.in1 (setAdd s.heap.objs.size v) Q E f)(h:∀(d:aB) (m:Nat),J a.size d->(∀b o,b<s.heap.objs.size->s.heap.get? b=aa o->d.get? b=aa o)->Q (.ref s.heap.objs.size) {s with heap:=d,toks:=m}):aq (aw P w) A (call (.type "set") [.ref l]) Q E s:=by
 obtain⟨c,tl,hmro⟩:=F.called_set.mro;have L:=F.called_set.made;have gW:=F.called_set.sub;refine wpAny_call (codeAny_of_tree ?_);show aq _ _ (callAny (.type "set") _) _ _ _;refine aC ⟨Code.quiet_builtin _ (by decide +kernel),nq F.entry_type_call ?_⟩;rw[Around.under_plain (weight_type_call_type "set" [.ref l] []) rfl];have h1:=F.called_set.notType;have h2:=F.called_set.canCreate;have hct:=PySem.F.typeCall_set_1 (.ref l)
 repeat any_goals (first|assumption|wp_step)
 refine wU (JR (P:=P) (w:=w) (.ref l) (E:=E) (Q:=λp f=>p=.ref s.heap.objs.size/\f={s with heap:=s.heap.push {cls:=.type "set",dict:=ae,data:=.set #[] 0 (.fresh 0 0 (!dv w))}}/\True) λS0=>⟨rfl,rfl,trivial⟩) λr f K=>?_;cases r with
 |error e=>exact K
 |ok fl=>
  cases fl with
  |ret p=>
   obtain⟨rfl,rfl,S0⟩:=K;have hS:=cf (h:=s.heap) (o:=({cls:=.type "set",dict:=ae,data:=.set #[] 0 (.fresh 0 0 (!dv w))}:Obj));have S:(s.heap.push {cls:=.type "set",dict:=ae,data:=.set #[] 0 (.fresh 0 0 (!dv w))}).get? s.heap.objs.size=aa {cls:=.type "set",dict:=ae,data:=.set #[] 0 (.fresh 0 0 (!dv w))}:=cf _ rfl;have hT:Shared.TypeIs {s with heap:=s.heap.push {cls:=.type "set",dict:=ae,data:=.set #[] 0 (.fresh 0 0 (!dv w))}} (.ref s.heap.objs.size) "set":=⟨_,S,rfl⟩
   have hli:=F.called_set.init.lookup;have hbi:=F.called_set.init.bind (.ref s.heap.objs.size)
   repeat any_goals (first|assumption|wp_step)
   refine wU (codeAny_call_builtin (R:=wants (λr Z=>r=.none/\∃d m,Z={s with heap:=d,toks:=m}/\J a.size d /\ (∀b o,b<s.heap.objs.size->s.heap.get? b=aa o->d.get? b=aa o)) E) F.called_set.init.plain F.entry_set_init (check_set_init_1 hT ?_)) λr2 Z H=>?_
   .obtain⟨⟨ocls,n,G,g⟩,Y,nD,nl,y⟩:=hl;simp only at nD y;subst nD;subst y;have q:(s.heap.push {cls:=.type "set",dict:=ae,data:=.set #[] 0 (.fresh 0 0 (!dv w))}).get? l=aa {cls:=.type "tuple",dict:=n,data:=.seq a nl,slots:=g}:=bh _ Y;have hsls:=PySem.F.sub_tuple_set;have hslf:=PySem.F.sub_tuple_frozenset;have b9:(Value.type "tuple" == Value.type "dict")=aj:=by decide
    have kt:(s.heap.push {cls:=.type "set",dict:=ae,data:=.set #[] 0 (.fresh 0 0 (!dv w))}).IsTuple l a:=⟨_,q,rfl,nl,rfl⟩
    unfold Builtin.«set.__init__» noKeywords Builtin.Frozenset.updateFrom;generalize T:lc=PI
    wp_walk
    subst T;refine wpAny_pyIter_tuple kt (ap (wpAny_runValue ?_));have x:l<s.heap.objs.size:=bo Y;have N:A.in1.in1.in1.handled=ae:=by simp[hh]
    have j:(s.heap.push {cls:=.type "set",dict:=ae,data:=.set #[] 0 (.fresh 0 0 (!dv w))}).objs.size=s.heap.objs.size+1:=Ap ..;have u:l≠(s.heap.push {cls:=.type "set",dict:=ae,data:=.set #[] 0 (.fresh 0 0 (!dv w))}).objs.size:=by rw[j];exact cT (jM x)
    have O:s.heap.objs.size∉[(s.heap.push {cls:=.type "set",dict:=ae,data:=.set #[] 0 (.fresh 0 0 (!dv w))}).objs.size,l]:=by rw[j];simp only[br,eR,jN,or_false,not_or];exact⟨cT (lq _),k9 x⟩
    refine Jh ((Walks.tuple N _ l u a).toS) s.heap.objs.size O (λi h d M k=>hJ i h d M λb o B e=>k b o (by rw[j];simp only[eR];exact cT (Nat.lt_succ_of_le B)) e) (λi v f E Q hi hv M hq=>iT i v f E Q hi hv M hq) (a.size-0) 0 _ ∅ (j9 _)
     ⟨⟨_,cf _ rfl,rfl,rfl⟩,(ME kt)⟩ (hJ 0 _ _ W λb o _ e=>bh _ e) ?_
    intro s' z I;obtain⟨d,g',d',C,D⟩:=s';obtain rfl:g'=s.gens:=z.gens;obtain rfl:d'=s.drawn:=z.drawn;obtain rfl:D=s.os:=z.os;show aq _ _ _ _ _ _;refine aC ?_;show aq _ _ (ret Value.none) _ _ _;refine aC ⟨rfl,d,C,rfl,I,λb o B e=>z.heap b o ?_ (bh _ (bh _ e))⟩;rw[j];simp only[br,eR,jN,or_false,not_or];exact⟨cT B,cT (jM B)⟩
   .cases r2 with
    |error e=>exact H
    |ok X=>
     cases X with
     |ret r=>
      obtain⟨rfl,d,m,rfl,I,nH⟩:=H
      repeat any_goals (first|assumption|wp_step)
      exact h _ _ I nH
     |_=>exact H.elim
  |_=>exact K.elim
theorem Kk{l:af}{a:Array ah}{c:List Str}{Q:ah->ao->Prop}(x:A.handled=ae)(r:s.heap.IsTuple l a)(u:dY a.toList c)(z:(met (λi=>c.getD i gi) a.size).length<4000)(h:∀(d:aB) (m:Nat),jC P w d s.heap.objs.size (met (λi=>c.getD i gi) a.size)->(∀b o,b<s.heap.objs.size->s.heap.get? b=aa o->d.get? b=aa o)->Q (.ref s.heap.objs.size) {s with heap:=d,toks:=m}):aq (aw P w) A (call (.type "set") [.ref l]) Q E s:=by
 refine Ld x r (J:=λi h=>jC P w h s.heap.objs.size (met (λi=>c.getD i gi) i)) (λi h d S k=>S.at λo e=>k _ o (aZ _) e)
  ⟨#[],0,_,[],cf _ rfl,.nil,qN _,λe y=>by simp at y,by decide,rfl,rfl,λh=>absurd rfl h⟩ (λi v f E Q j p S q=>?_) h
 obtain⟨t,rfl⟩:=vZ i v u (by rw[tP];exact p);unfold setAdd;refine iN ?_;have B:(iQ P w).is (c.getD i gi) (.str (c.getD i gi) t)=ai:=by show oP _ (.str _ t)=ai;simp[oP]
 refine ap ((iQ P w).pyHash (k:=c.getD i gi) B ?_);refine HI (s:={f with toks:=f.toks+1}) S (w_ (CS _ (l8 j)) z) λd b n g=>?_;rw[<-DV (λi=>c.getD i gi)]at g;exact q d _ b (xg _) n g
end
section
variable{X:Cx}
theorem Ol(A:X.calm=ai):fk X (.type "set") (λg H Q=>∃(p:af) (c:List Tx),g=[.ref p]/\bR X.K H p (cy c)/\(bU c).length<4000/\∀a,H a=ae->Q (.ref a) (upd H a (nQ X a (bU c)))):=by
 intro M s C H g D Q I r h;obtain⟨p,c,rfl,y,f,q⟩:=h;obtain⟨u,rfl,m⟩:=vals1 r;cases m;obtain⟨d,i,x,F⟩:=I.tuple y;have z:=i.length;rw[sK]at z;refine Kk (P:=X.prog) (w:=X.w) (I.ok.hd A) x (by simpa using xQ i) (by rw[bJ,show d.length=c.length by lia,BQ,dD];exact f) λB l S k=>?_;have j:jC X.prog X.w B s.heap.objs.size ((bU c).map tS):=by
  have e:d.toArray.size=c.length:=by rw[bJ];lia
  rw[e,BQ]at S;exact S
 refine⟨.ref s.heap.objs.size,_,I.laid (t':=l) (o:=nQ X s.heap.objs.size (bU c)) (λb o e=>k b o (bo e) e) (aZ _) ?_,rfl,q _ I.fresh⟩;obtain⟨K,L,t,E,e,_⟩:=j.ex;exact⟨j,⟨_,e⟩,λJ G v n=>v.at n⟩
end
end L2
namespace Pu
open L2
section
variable{X:Cx}{E:XK}{e:az}{g:ak->R (List PV)}{p q f d:Pos}
def jZ:List PV->Option PO
 |[.tup b]=>(fE b).bind λa=>if(bU a).length<4000 then aa (.lst (am (aV (bU a))))else ae
 |_=>ae
def Iy(X:Cx)(r:List V->Hp->VK->Prop):List V->Hp->VK->Prop:=λc H Q=>∃(p:af) (b:List Tx),c=[.ref p]/\bR X.K H p (cy b)/\(bU b).length<4000/\∀a,H a=ae->r [.ref a] (upd H a (nQ X a (bU b))) Q
theorem HS:lN X.K (Iy X (HX X)) jZ:=λF H I J Q L D u e q=>by
 unfold jZ at e;split at e
 .obtain⟨v,rfl,a,K,rfl,C,n⟩:=f_ u;obtain⟨i,G,m⟩:=AD.mp e;rw[pK G]at n;obtain⟨rfl,A⟩:=PQ.mp n;split at m
  .rename_i s;cases m;refine⟨a,i,rfl,bR.of C,s,λb B=>⟨b,bU i,rfl,bW,s,λl h=>?_⟩⟩;have j:l≠b:=by rintro rfl;rw[bW]at h;cases h
   have r:H l=ae:=by rw[bj j]at h;exact h
   have al:Al F F H (upd (upd H b (nQ X b (bU i))) l (.lst (cy (aV (bU i))))):=(Al.new0 B).trans (Al.new0 h);refine q l F _ (λc=>c=l) al ⟨⟨_,bW,PQ.mpr ⟨rfl,λx y=>A x ((lQ _ _).mp ((eE _).mem_iff.mp y))⟩⟩,λc=>Iff.rfl⟩ λc z=>?_;subst z;exact⟨r,λz=>Exists.elim (D _ z) (λo w=>by rw[r]at w;cases w),_,bW,trivial⟩
  .cases m
 .cases e
theorem BS(c:X.calm=ai)(m:DA X E [e] g)(j:X.mg "sorted"=ae)(a:X.mg "set"=ae)(l:Gl X "sorted":=by rfl)(b:Gl X "set":=by rfl)(h:lW e=aj:=by rfl):DN X E (.Call (.Name "sorted" p) [.Call (.Name "set" q) [e] [] d] [] f) (dL jZ g):=λF S r o H Q i n=>bY (qr (KB c) l j su (iF (zz (Ol c) b a Kb ge (by decide) (by decide) (kE h) rfl) jW (kE rfl)) (by decide) (by decide) (kE rfl) rfl) (vR HS m i n)
end
end Pu
namespace L2
open Mx
section
variable{P:aL}{w:aE}{A:aS}{E:ah->ao->Prop}{s:ao}
def sQ(P:aL)(w:aE)(A:aS)(h:aB)(v:ah)(x:Int)(d:Nat):Prop :=
 ∀(s:ao) (E:ah->ao->Prop) (Q:Int->ao->Prop),s.heap=h->Q x {s with toks:=s.toks+d}->aq (aw P w) A (pyHash v) Q E s
theorem CG{h:aB}{a:af}{f:Array ah}{hs:List (ah×Int×Nat)}(u:A.units<cLine)(r:IsTup h a f)(y:f.toList=hs.map (·.1))(z:∀p∈hs,sQ P w A.in1 h p.1 p.2.1 p.2.2):sQ P w A h (.ref a) (qx (k7 (hs.map (·.2.1)))) ((hs.map (·.2.2)).sum+1):=λs E Q C g=>by
 subst C;have j:s.TypeIs (.ref a) "tuple":=tupTy r;obtain⟨o,v,_,n,B⟩:=r;unfold pyHash
 first|unfold pyHashByItsType|skip
 first|refine ap (wpAny_cRoomFor_or (.inr u) ?_)|skip
 refine ap (w6 j F.slot_tuple_hash.lookup ?_);show aq _ _ (if(aa (Value.builtin "tuple.__hash__") == aa Value.none)=ai then _ else _) Q E _;rw[if_neg (by rw[beq_builtin_none];exact dX)];refine ap (w6 j F.slot_tuple_hash.lookup ?_);show aq _ _ (callSpecialIfBoundUnlessNone? (.ref a) "__hash__" _ >>= _) Q E _;refine ap (wpAny_callSpecialIfBoundUnlessNone?_slot j Pp (m_ Pp j F.entry_tuple_hash ?_ (F.args_tuple_hash_1 _)));show aq _ _ (Builtin.Tuple.tupleItemsOf (.ref a) >>= _) _ _ _;refine ap (wpAny_tupleItemsOf v B ?_);refine ap ?_;rw[<-Array.forIn_toList,y];refine AJ _
  (λrest (b:Array Int) q=>∃c d,hs=c++d/\rest=d.map (·.1)/\b.toList=c.map (·.2.1)/\q={s with toks:=s.toks+(c.map (·.2.2)).sum})
  _ ?_ ?_ _ _ ⟨[],hs,rfl,rfl,rfl,rfl⟩
 .rintro x rest b q ⟨c,d,rfl,i,m,rfl⟩;cases d with
  |nil=>cases i
  |cons p d=>
   rw[dO]at i;injection i with h1 h2;subst h1 h2;refine ap (z p (by simp) _ _ _ rfl ?_)
   first
    |exact aC ⟨c++[p],d,by simp,rfl,by simp[m],by simp[o4]⟩
    |exact ap (aC (aC ⟨c++[p],d,by simp,rfl,by simp[m],by simp[o4]⟩))
 .rintro b q ⟨c,d,rfl,i,m,rfl⟩;have:d=[]:=by cases d with|nil=>rfl|cons=>cases i
  subst this;rw[iP]at g;show aq _ _ (retInt (k7 b.toList)) _ _ _;rw[m];refine wpAny_ret_mkInt ?_;show aq _ _ (if(decide (-(2:Int)^63<=k7 (c.map (·.2.1)))&&decide (k7 (c.map (·.2.1))<2^63))=ai then _ else _) Q E _;unfold qx at g;by_cases l:(decide (-(2:Int)^63<=k7 (c.map (·.2.1)))&&decide (k7 (c.map (·.2.1))<2^63))=ai
  .rw[if_pos l];rw[if_pos l]at g;exact aC (by simpa[o4]using g)
  .rw[if_neg l];rw[if_neg l]at g;exact ap (me (aC (by simpa[o4]using g)))
theorem BN{h:aB}(z:Str)(t:Tok):sQ P w A h (.str z t) (k6 w z) 1:=λs E Q _ a=>(iQ P w).pyHash (s:=s) (k:=z) (by show oP z (.str z t)=ai;simp[oP]) a
def rQ(h:aB)(k:Str×List Str)(a:af):Prop:=∃(b:af) (t:Tok) (c:Array ah),IsTup h a #[.str k.1 t,.ref b]/\IsTup h b c/\dY c.toList k.2
theorem rQ.inj{h:aB}{k d:Str×List Str}{a:af}(x:rQ h k a)(y:rQ h d a):k=d:=by obtain⟨b,t,g,l,j,i⟩:=x;obtain⟨q,p,f,m,o,c⟩:=y;have:=congrArg Array.toList (tup_uniq l m);simp at this;obtain⟨⟨n,_⟩,rfl⟩:=this;obtain rfl:=tup_uniq j o;exact Prod.ext n (strs_uniq i c)
theorem Oo{h:aB}{c:List ah}{b:List Str}(x:dY c b):∃hs:List (ah×Int×Nat),c=hs.map (·.1)/\hs.map (·.2.1)=b.map (k6 w)/\(hs.map (·.2.2)).sum=b.length/\∀p∈hs,sQ P w A h p.1 p.2.1 p.2.2:=by
 induction x with
 |nil=>exact⟨[],rfl,rfl,rfl,λp a=>by simp at a⟩
 |cons z t _ d=>
  obtain⟨hs,j,i,g,f⟩:=d;refine⟨(.str z t,k6 w z,1)::hs,by rw[j];rfl,by rw[dO,i];rfl,by simp[g];lia,λp a=>?_⟩;rcases br.mp a with rfl|a
  .exact BN z t
  .exact f p a
theorem Dz{h b:aB}{a d:af}{x:Array ah}{o:Obj}{es ep}(g:IsTup h a x)(i:h.get? d=aa o)(j:o.data=.dict es ep)(hs:jF d h b):IsTup b a x:=by
 obtain⟨f,e,c,n,r⟩:=g;have l:a≠d:=by
  rintro rfl;rw[i]at e;cases e;rw[j]at r;cases r
 exact⟨f,(hs.2 a l).trans e,c,n,r⟩
def GX(P:aL)(w:aE):HeapKind P w (Str×List Str) where
 is:=rQ
 hash:=BZ w
 draws:=λk=>k.2.length+3
 room:=λA=>A.units+4<cLine
 inj:=λx y=>x.inj y
 keeps:=λ⟨b,t,c,l,i,g⟩ F G hs=>⟨b,t,c,Dz l F G hs,Dz i F G hs,g⟩
 pyHash:=λ{A E s k a Q} M x N=>by
  obtain⟨b,t,c,l,i,g⟩:=x;obtain⟨hs,L,K,J,I⟩:=Oo (P:=P) (w:=w) (A:=A.in1.in1) (h:=s.heap) g;have f:sQ P w A.in1 s.heap (.ref b) (qx (k7 (k.2.map (k6 w)))) (k.2.length+1):=by have:=CG (P:=P) (w:=w) (A:=A.in1) (show A.units+1<cLine by lia) i L I;rw[K,J]at this;exact this
  have d:=CG (P:=P) (w:=w) (A:=A) (hs:=[(.str k.1 t,k6 w k.1,1),(.ref b,qx (k7 (k.2.map (k6 w))),k.2.length+1)]) ∅ l rfl λp D=>by
   simp only[br,jN,or_false]at D;rcases D with rfl|rfl
   .exact BN _ _
   .exact f
  refine d s E Q rfl ?_;have S:([((Value.str k.1 t,k6 w k.1,1):ah×Int×Nat),(.ref b,qx (k7 (k.2.map (k6 w))),k.2.length+1)].map (·.2.2)).sum+1=k.2.length+3:=by simp;lia
  rw[S];exact N
 eqBool:=λ{A E s x y a X Q} M C B q=>by
  by_cases m:a=X
  .subst m;obtain rfl:=C.inj B;rw[decide_eq_true rfl]at q;exact SeqAt.EqAt.same _ _ _ _ _ q
  .obtain⟨b,t,c,l,i,g⟩:=C;obtain⟨b',t',u,O,W,r⟩:=B;have T:decide (x=y)=((bI (min 2 2)).all (λj=>if j=0 then x.1 == y.1 else decide (x.2=y.2))&&2 == 2):=by obtain⟨x1,x2⟩:=x;obtain⟨Z,Y⟩:=y;rw[lg];simp[qK]
   rw[T]at q;refine SeqAt.EqAt.of_refs m (.tuples l O ∅ λj H j2=>?_) _ _ _ _ q
   match j,H with
   |0,_=>exact Fo _ _ _ _
   |1,_=>exact eq_strs (show A.units+1<cLine by lia) i g W r
 quiet:=λ⟨b,t,c,l,i,g⟩ q=>by
  refine quiet_tup (n:=7) l (λv o E Q q=>?_) q;simp only[br,jN,or_false]at o;rcases o with rfl|rfl
  .exact tG (by unfold tQ;rfl) q
  .refine quiet_tup (n:=6) i (λv o E Q q=>?_) q;obtain⟨z,t,rfl⟩:=strs_mem_shape g v o;exact tG (by unfold tQ;rfl) q
abbrev KN(H:Hp):List ((Str×List Str)×V)->List ((Str×List Str)×af×ah)->Prop:=iK λp q=>p.1=q.1/\nX H p.1 q.2.1/\RelV p.2 q.2.2
theorem KN.val{H:Hp}{a:List ((Str×List Str)×V)}{xs:List ((Str×List Str)×af×ah)}(r:KN H a xs)(k:Str×List Str):l5 (eM a k) ((atKey xs k).map (·.2)):=by
 induction r with
 |nil=>exact True.intro
 |@cons p q ps qs h t ih=>
  obtain⟨b,_,c⟩:=h;by_cases e:p.1=k
  .rw[oJ e,show atKey (q::qs) k=aa q.2 by simp[atKey,gR,b.symm.trans e]];exact c
  .have d:¬q.1=k:=λz=>e (b.trans z);rw[ot e,show atKey (q::qs) k=atKey qs k by simp[atKey,gR,d]];exact ih
theorem Cz:∀{ks:List Str}{a:List ah},bq (ks.map V.str) a->dY a ks
 |[],_,r=>by rw[wZ]at r;cases r;exact .nil
 |k::ks,_,r=>by
  rw[dO]at r;cases r with
  |cons h t=>obtain⟨b,rfl⟩:=h;exact .cons _ _ (Cz t)
theorem vD{H:Hp}{h:aB}{k:Str×List Str}{a:af}(ok:cM P w H h)(e:nX H k a):rQ h k a:=by
 obtain⟨b,n,m⟩:=e;obtain⟨_,o,c,f,_⟩:=ok a _ n;obtain⟨_,i,g,d,_⟩:=ok b _ m;cases c with
 |cons l c=>cases c with
  |cons j c=>
   cases c;obtain⟨t,rfl⟩:=l;cases (show _=Value.ref b from j);exact⟨b,t,i.toArray,f,d,by simpa using Cz g⟩
theorem zA{H:Hp}{h:aB}{a:af}{b:List ((Str×List Str)×V)}(ok:cM P w H h)(e:H a=aa (.dN b)):b.length<=aX/\(a == ip)=aj/\∃d,KN H b d/\h.DictOfH (GX P w) a d:=by
 obtain⟨z,y,d,r,o,u,v,n,j,i,g,f⟩:=ok a _ e;refine⟨z,y,d,r,o,u,v,n,j,i,g,λx c=>?_,f⟩;have all:∀{l:List ((Str×List Str)×V)}{m:List ((Str×List Str)×af×ah)},KN H l m->∀x∈m,rQ h x.1 x.2.1:=by
  intro l m q
  induction q with
  |nil=>intro x c;exact nomatch c
  |@cons p q ps qs hq t ih=>
   intro x c;rcases br.mp c with e|c
   .subst e;exact vD ok (by rw[<-hq.1];exact hq.2.1)
   .exact ih x c
 exact all r x c
end
def Ml(g ty:TE):TE:=λf H Q=>g f H λx h=>ty f h λy d=>∃a b c k v,x=.ref a/\y=.ref b/\d a=aa (.dN c)/\nX d k b/\eM c k=aa v/\Q v d
def Ju(d:Bool)(ty h:TE):TE:=λg H Q=>ty g H λy i=>h g i λx f=>∃a b c k,x=.ref a/\y=.ref b/\f a=aa (.dN c)/\nX f k b/\Q (.bl (d^^(eM c k).isSome)) f
def IK(h ty g:TE):TS:=λD d H=>g d H λv j=>h d j λx i=>ty d i λy f=>∃a b c k,x=.ref a/\y=.ref b/\f a=aa (.dN c)/\nX f k b/\eM c k=ae/\c.length<aX/\D.nx d (upd f a (.dN (c++[(k,v)])))
section
variable{X:Cx}{o i e d:az}{f g m:Pos}{j ty l:TE}
theorem IJ(hu:X.A.units+8<cLine)(P:PE X o j)(T:PE X i ty)(N:sv i):PE X (.Subscript o i f) (Ml j ty):=by intro A s r H Q I h;refine EH PySem.F.slot_dict_getitem.lookup N (aI (P A s r H _ I h) λu C ⟨x,H1,I1,E,G⟩=>aI (T A C r H1 _ I1 G) λK s2 ⟨y,H2,q,D,a,b,J,k,v,Y,W,e,S,M,F⟩=>?_);subst Y W;obtain rfl:u=Value.ref a:=E;obtain rfl:K=Value.ref b:=D;obtain⟨z,hd,B,n,w⟩:=zA q.hok e;obtain⟨w',L,c⟩:=l5.some_of (v:=v) (o:=(atKey B k).map (·.2)) (by rw[<-M];exact n.val k);obtain⟨p,O,Z⟩:=ma.mp L;refine⟨w.typeIs,wpAny_getItem_heap (show X.A.in1.units+4<cLine from(show X.A.units+1+4<cLine by lia)) (vD q.hok S) w O ?_⟩;rw[Z];exact⟨v,H2,q.tok _,c,F⟩
theorem JY(Y:X.A.units+8<cLine)(J:PE X i ty)(F:PE X o j):PC X .NotIn i o (Ju ai ty j):=by intro w s r H Q I h;refine aI (J w s r H _ I h) λE A ⟨y,S,O,B,D⟩=>aI (F w A r S _ O D) λu W ⟨x,P,p,C,a,b,n,k,M,L,e,G,v⟩=>?_;subst M L;obtain rfl:u=Value.ref a:=C;obtain rfl:E=Value.ref b:=B;obtain⟨z,K,T,c,N⟩:=zA p.hok e;refine wpAny_notIn_heap (show X.A.in1.units+4<cLine from(show X.A.units+1+4<cLine by lia)) (vD p.hok G) K N ?_;have q:=(c.val k).isSome_eq;rw[Ft]at q;rw[<-q];rw[Bool.true_xor]at v;exact⟨.bl (!(eM n k).isSome),P,p.tok _,rfl,v⟩
theorem N7(hu:X.A.units+8<cLine)(ho:PE X o j)(hi:PE X i ty)(hv:PE X d l)(J:iM d (aa (.Subscript o i g)) f.line X.env=pure aj):PS X (.Assign [.Subscript o i g] d f) (IK j ty l):=by
 intro N s C H D I h;refine wpAny_Assign_Subscript (aI (hv N s C H _ I h) λr Y ⟨v,H1,I1,rv,q1⟩=>aI (ho N Y C H1 _ I1 q1) λu W ⟨x,H2,I2,rx,q2⟩=>aI (hi N W C H2 _ I2 q2) λiv s3 ⟨y,P,O,Z,a,b,w,k,ex,ey,e,S,hn,hl,q3⟩=>?_) J;subst ex ey;obtain rfl:u=Value.ref a:=rx;obtain rfl:iv=Value.ref b:=Z;obtain⟨z,hd,G,n,dd⟩:=zA O.hok e;have hz:G.length<=aX:=by rw[<-wM n];exact z
 refine wpAny_setItem_heap (hsz:=hz) (show X.A.in1.units+4<cLine from(show X.A.units+1+4<cLine by lia)) (vD O.hok S) dd λh' B J=>?_;have K:atKey G k=ae:=by have q:=(n.val k).isSome_eq;rw[hn,Ft]at q;simpa using q.symm
 rw[storedH_new K]at B;obtain⟨q,es,ep,Q,A,h3,h4,_,h5⟩:=B;refine⟨C,upd P a (.dN (w++[(k,v)])),xZ (ob:=.dN (w++[(k,v)])) O (by rw[e];exact True.intro) J ⟨q,Q⟩ ⟨by rw[cK];exact hl,hd,G++[(k,b,r)],?_,q,es,ep,Q,A,h3,h4,h5⟩,q3⟩;have E:∀{c:af}{F:List V},P c=aa (.tup F)->upd P a (.dN (w++[(k,v)])) c=aa (.tup F):=λ{c F} T=>by rw[bj (u5 T e (λz=>nomatch z))];exact T
 refine wY (Paired.mapP n λp q z=>⟨z.1,?_,z.2.2⟩) ⟨rfl,?_,rv⟩
 .obtain⟨M,L,A⟩:=z.2.1;exact⟨M,E L,E A⟩
 .obtain⟨M,L,A⟩:=S;exact⟨M,E L,E A⟩
def JK:TE:=λ_ H Q=>∀p,H p=ae->Q (.ref p) (upd H p (.dN []))
theorem Ir{P:aL}{w:aE}{H:Hp}(h:aB)(a:ip<h.objs.size):ca P w H (h.push {cls:=.type "dict",data:=.dict #[]}) h.objs.size (.dN []):=by
 obtain⟨z,y,u,r,o,q,s,p,n,c,b,v⟩:=Dh (P:=P) (w:=w) (H:=H) h a;cases r;exact⟨z,y,[],.nil,o,q,s,p,n,c,b,.nil⟩
theorem Gr:PE X (.Dict [] [] f) JK:=λc s b H Q I h=>wpAny_Dict_empty ⟨.ref s.heap.objs.size,_,I.laid (a:=s.heap.objs.size) (o:=.dN []) (t':=s.toks) (λ_ _ q=>bh _ q) (aZ _) (Ir s.heap I.big),rfl,h _ (I.hok.fresh (aZ _))⟩
end
end L2
namespace Pu
open L2
def valN(a:List ((Tx×List Tx)×PV))(k:Tx×List Tx):Option PV:=(a.find? λb=>decide (b.1=k)).map (·.2)
def lJ:PV->Option (Tx×List Tx)
 |.tup [.str t,.tup a]=>(fE a).map λb=>(t,b)
 |_=>ae
theorem JL{x y:Tx×List Tx}(h:nS x=nS y):x=y:=by have d:=congrArg Prod.fst h;have c:=congrArg Prod.snd h;refine Prod.ext (og d) ?_;exact(List.map_inj_right λa b e=>og e).mp c
section
variable{K:ax}{F:af->Prop}{S:Nat->af->Prop}{ε:ak}{f:St}{H:Hp}{i:Nat}{d:List ((Tx×List Tx)×PV)}{ws:List ((Str×List Str)×V)}{a:af}
theorem yU{x:PV}{v:V}{k:Tx×List Tx}(r:aN K H F x v)(e:lJ x=aa k):∃b,v=.ref b/\nX H (nS k) b:=by
 unfold lJ at e;split at e
 .rename_i t q;obtain⟨h,p,rfl⟩:=ma.mp e;obtain rfl:=pK p;obtain⟨b,s,rfl,m,g⟩:=r;obtain⟨w,A,rfl,o,g⟩:=g;obtain⟨u,z,rfl,n,g⟩:=g;cases g;obtain⟨c,y,rfl,l,j⟩:=n;obtain⟨rfl,_⟩:=PQ.mp j;refine⟨b,rfl,c,?_,?_⟩
  .rw[m,o.1];rfl
  .rw[l];show aa (HO.tup (cy h))=aa (HO.tup ((h.map tS).map V.str));rw[eu];rfl
 .cases e
theorem kP.len(h:kP K H F d ws):ws.length=d.length:=by
 unfold kP at h
 induction h with
 |nil=>rfl
 |cons _ _ b=>simp[b]
theorem kP.val(h:kP K H F d ws)(k:Tx×List Tx):(∃x v,valN d k=aa x/\eM ws (nS k)=aa v/\aN K H F x v)\/(valN d k=ae/\eM ws (nS k)=ae):=by
 unfold kP at h
 induction h with
 |nil=>exact .inr ⟨rfl,rfl⟩
 |@cons p q ps qs r _ ih=>
  by_cases e:p.1=k
  .refine .inl ⟨p.2,q.2,by simp[valN,gR,e],?_,r.2⟩;rw[oJ (by rw[<-r.1,e])]
  .have b:¬q.1=nS k:=by rw[<-r.1];exact λz=>e (JL z)
   rw[ot b];have:valN (p::ps) k=valN ps k:=by simp[valN,gR,e]
   rw[this];exact ih
theorem aQ.dnAt(r:aQ K F S ε f H)(e:ε[i]?=aa (.own (.dN d))):∃a ws,f[i]?=aa (aa (.ref a))/\H a=aa (.dN ws)/\kP K H F d ws/\S i a/\∀b,S i b->b=a:=by obtain⟨a,m,⟨g,l,j⟩,c⟩:=r.own i _ e;exact⟨a,g,m,l,j,(c a).mpr rfl,λb h=>(c b).mp h⟩
end
def gP(b:ak)(i:Nat):Option (List ((Tx×List Tx)×PV)):=match b[i]? with
 |some (.own (.dN a))=>aa a
 |_=>ae
theorem pW{b:ak}{i:Nat}{a:List ((Tx×List Tx)×PV)}(h:gP b i=aa a):b[i]?=aa (.own (.dN a)):=by
 unfold gP at h;split at h
 .cases h;assumption
 .cases h
section
variable{X:Cx}{E:XK}{pin:List Nat}{e b c:az}{de d g:ak->R PV}{f:Pos}
def sX(i:Nat)(d:ak->R PV):ak->R PV:=λa=>(a6 (gP a i) a).bind λ_ a=>(d a).bind λk ε1=>(a6 (gP ε1 i) ε1).bind λh ε1=>a6 ((lJ k).bind λk=>valN h k) ε1
theorem Ox(i:Nat){y:Str}{C:Pos}(hu:X.A.units+64<cLine)(O:DE X E b d)(T:X.N[i]?=aa y:=by rfl)(W:fu X.env.scope y:=by eq_refl)(N:(y==("__debug__":Str))=aj:=by decide) (Z:(y==("__classdict__":Str))=aj:=by decide) (L:sv b:=by exact λ_ _=>rfl):DE X E (.Subscript (.Name y C) b f) (sX i d):=λF S p B H Q r h=>by
 unfold sX at h;cases o:gP p i with
 |none=>rw[o]at h;exact h.elim
 |some z=>
  rw[o]at h;simp only[dU,R.bind_ok]at h;obtain⟨a,D,A,_⟩:=r.dnAt (pW o);refine bY (IJ ∅ (gK T W N Z) bA L) ⟨.ref a,A,O F S p B H _ r ((Ok.bind h).imp λk l F1 S1 H1 s g1 q u I=>?_)⟩;cases n:gP l i with
  |none=>rw[n]at q;exact q.elim
  |some J=>
   rw[n]at q;simp only[dU,R.bind_ok]at q;obtain⟨a',G,j,P,M,_⟩:=s.dnAt (pW n);rw[A]at j;cases j;cases m:lJ k with
   |none=>rw[m]at q;exact q.elim
   |some w=>
    rw[m,jn]at q;obtain⟨Y,rfl,K⟩:=yU I m;rcases M.val w with⟨x,v,h1,h2,h3⟩|⟨h1,h2⟩
    .rw[h1]at q;exact⟨a,Y,G,nS w,v,rfl,rfl,P,K,h2,q F1 S1 H1 s (bv.refl ..) v h3⟩
    .rw[h1]at q;exact q.elim
def sN(i:Nat)(d de:ak->R PV):ak->R aO:=λj=>(de j).bind λy ε1=>(a6 (gP ε1 i) ε1).bind λ_ ε1=>(d ε1).bind λk a=>(a6 (gP a i) a).bind λh a=>(a6 (lJ k) a).bind λk a=>if h.length<cx/\(valN h k).isNone=ai then .ok .next (a.set i (.own (.dN (h++[(k,y)]))))else .no
theorem MY(i:Nat){y:Str}{N l:Pos}(hu:X.A.units+64<cLine)(hb:DE X E b d)(he:DE X E e de)(hN:X.N[i]?=aa y:=by rfl)(fg:fu X.env.scope y:=by eq_refl)(hd:(y==("__debug__":Str))=aj:=by decide) (bK:(y==("__classdict__":Str))=aj:=by decide) (hs:iM e (aa (.Subscript (.Name y N) b l)) f.line X.env=pure aj:=by rfl):DS X E pin (.Assign [.Subscript (.Name y N) b l] e f) (sN i d de):=λF S W w H D rl h=>by
 refine ie (N7 ∅ (gK hN fg hd bK) bA bA hs) (he F S W w H _ rl (h.bindE.imp λy n F1 S1 H1 A g1 q v Z=>?_));cases M:gP n i with
 |none=>rw[M]at q;exact q.elim
 |some P=>
  rw[M]at q;simp only[dU,R.bind_ok]at q;obtain⟨a,Y,K,ha0,_⟩:=A.dnAt (pW M);refine⟨.ref a,K,hb F1 S1 n w H1 _ A (q.bindE.imp λk z T S2 H2 O g2 j u ru=>?_)⟩;cases s:gP z i with
  |none=>rw[s]at j;exact j.elim
  |some o=>
   rw[s]at j;simp only[dU,R.bind_ok]at j;obtain⟨a',r,p,ha,G,_⟩:=O.dnAt (pW s);rw[K]at p;cases p;cases L:lJ k with
   |none=>rw[L]at j;exact j.elim
   |some m=>
    rw[L]at j;simp only[dU,R.bind_ok]at j;split at j
    .rename_i C;obtain⟨C,Q⟩:=C;obtain⟨bb,rfl,ko⟩:=yU ru L;have B:eM r (nS m)=ae:=by
      rcases G.val m with⟨x,v,h1,h2,h3⟩|⟨h1,h2⟩
      .rw[h1]at Q;cases Q
      .exact h2
     have b_:kP X.K H2 T (o++[(m,y)]) (r++[(nS m,v)]):=wY G ⟨rfl,Z.grow g2 A.fit⟩;obtain⟨r3,g3⟩:=O.updO (po':=.dN (o++[(m,y)])) (o':=.dN (r++[(nS m,v)])) (pW s) rfl K trivial λH' m1 m2 J Sa I=>⟨⟨_,J,b_.mono m1⟩,I⟩
     exact⟨a,bb,r,nS m,rfl,rfl,ha,ko,B,by rw[G.len];exact fc C jV,j T S2 w _ r3 g3 (i9.refl _ _)⟩
    .exact j.elim
def zn:ak->R PO:=λa=>.ok (.dN []) a
theorem Pa:DN X E (.Dict [] [] f) zn:=λF S m l H Q i h=>bY Gr λp a=>by
 have al:Al F F H (upd H p (.dN [])):=Al.new0 a;refine h F S _ (i.al al) al.grow p (λb=>b=p) ⟨⟨[],bW,.nil⟩,λb=>Iff.rfl⟩ λb z=>?_;subst z;refine⟨a,λz=>?_,λ⟨j,z⟩=>?_,_,bW,trivial⟩
 .obtain⟨o,q⟩:=i.ex b z;rw[a]at q;cases q
 .obtain⟨_,_,o,q,_⟩:=i.foot j b z;rw[a]at q;cases q
def oO(a:Bool)(i:Nat)(d:ak->R PV):ak->R PV:=λj=>(d j).bind λk ε1=>(a6 (gP ε1 i) ε1).bind λh ε1=>a6 ((lJ k).map λk=>.bl (a^^(valN h k).isSome)) ε1
theorem GT(i:Nat){y:Str}{o:Pos}(hu:X.A.units+64<cLine)(N:DE X E b d)(P:X.N[i]?=aa y:=by rfl)(T:fu X.env.scope y:=by eq_refl)(M:(y==("__debug__":Str))=aj:=by decide) (Z:(y==("__classdict__":Str))=aj:=by decide) (K:oQ .NotIn (.Name y o)=aj:=by rfl):DT X E (.Compare b [.NotIn] [.Name y o] f) (dB (oO ai i d)):=λF S B A H Q G h=>by
 refine sT (En (JY ∅ bA (gK P T M Z)) K) ?_;have r:=rD h;unfold oO at r;refine N F S B A H _ G ((Ok.bind r).imp λk j z s w l g1 q u D=>?_);cases n:gP j i with
 |none=>rw[n]at q;exact q.elim
 |some I=>
  rw[n]at q;simp only[dU,R.bind_ok]at q;obtain⟨a,C,W,O,L,_⟩:=l.dnAt (pW n);cases m:lJ k with
  |none=>rw[m]at q;exact q.elim
  |some p=>
   rw[m,xq]at q;obtain⟨Y,rfl,J⟩:=yU D m;refine⟨.ref a,W,a,Y,C,nS p,rfl,rfl,O,J,?_⟩;rcases L.val p with⟨x,v,h1,h2,h3⟩|⟨h1,h2⟩
   .rw[h1]at q;rw[h2];exact q z s w l (bv.refl ..) _ rfl
   .rw[h1]at q;rw[h2];exact q z s w l (bv.refl ..) _ rfl
end
end Pu
namespace L2
open Mx SeqAt
def cX(x:Int)(y:Str)(a:Int)(b:Str):Bool:=if x=a then decide (y.cps.toList<b.cps.toList)else decide (x<a)
theorem JI(l b:af)(x a:Int)(y c:Str)(t u B z:Tok)(n K:Nat)(O I:Option af)(J D:Array (Option ah)):Meets (Builtin.«tuple.__lt__» ⟨[.ref l,.ref b],[]⟩) (λ_ R s=>s.heap.get? l=aa {cls:=.type "tuple",dict:=O,data:=.seq #[.int x t,.str y u] n,slots:=J}/\s.heap.get? b=aa {cls:=.type "tuple",dict:=I,data:=.seq #[.int a B,.str c z] K,slots:=D} /\ R (.ok (.ret (.bool (cX x y a c)))) s) :=
 .of_wp λprog w A R s h=>by
  obtain⟨r,g,d,j,m⟩:=s;obtain⟨M,N,h⟩:=h;have f2:=AutoSeq1.sub_tuple_tuple
  wp_walk using wX M,wX N,AJ _ (λrest b F=>b.1=ae/\F=⟨r,g,d,j,m⟩/\(rest=[((Value.int x t:ah),(Value.int a B:ah)),(.str y u,.str c z)] \/ x=a/\rest=[((Value.str y u:ah),(Value.str c z:ah))]\/x=a/\y=c/\rest=[])) _
  case turn=>
   rintro⟨p,q⟩ rest b F ⟨G,rfl,f|⟨C,f⟩|⟨_,_,f⟩⟩
   .cases f;refine ap (EqAt.int_int x t a B prog w _ _ ?_);by_cases e:x=a
    .subst e;rw[beq_self_eq_true]
     wp_walk
     exact⟨rfl,rfl,.inr (.inl ⟨rfl,rfl⟩)⟩
    .rw[beq_false_of_ne e];have H:R (.ok (.ret (.bool (decide (x<a))))) ⟨r,g,d,j,m⟩:=by unfold cX at h;rwa[if_neg e]at h
     have o:∀(E:ah->ao->Prop) (Q:ah->ao->Prop),Q (.bool (decide (x<a))) ⟨r,g,d,j,m⟩->aq (aw prog w) A.in1 (AN .Lt (.int x t) (.int a B)) Q E ⟨r,g,d,j,m⟩:=λE Q h=>CmpOf.ints_lt (prog:=prog) (w:=w) (A:=A.in1) (P:=λi v=>∃t,v=.int (if i=0 then x else a) t) (λi=>if i=0 then x else a) (λi v h=>h) 0 1 _ _ _ _ _ ⟨t,rfl⟩ ⟨B,rfl⟩ (by simpa using h)
     wp_walk using o
     exact⟨_,rfl,by simpa using H⟩
   .cases f;subst C;refine ap (EqAt.str_str y u c z prog w _ _ ?_);by_cases e:y=c
    .subst e;rw[beq_self_eq_true]
     wp_walk
     exact⟨rfl,rfl,.inr (.inr ⟨rfl,rfl,rfl⟩)⟩
    .rw[beq_false_of_ne e];have H:R (.ok (.ret (.bool (decide (y.cps.toList<c.cps.toList))))) ⟨r,g,d,j,m⟩:=by unfold cX at h;rwa[if_pos rfl]at h
     have o:∀(E:ah->ao->Prop) (Q:ah->ao->Prop),Q (.bool (decide (y.cps.toList<c.cps.toList))) ⟨r,g,d,j,m⟩->aq (aw prog w) A.in1 (AN .Lt (.str y u) (.str c z)) Q E ⟨r,g,d,j,m⟩:=λE Q h=>(PyProof.Rows.lt_str h:aq (aw prog w) A.in1 (dr .Lt (.str y u) (.str c z)) Q E _)
     wp_walk using o
     exact⟨_,rfl,by simpa using H⟩
   .cases f
  case fin=>
   rintro⟨b1,b2⟩ F ⟨G,rfl,f|⟨C,f⟩|⟨C,hy,_⟩⟩
   .cases f
   .cases f
   .simp only at G;subst G C hy;have L:cX x y x y=aj:=by unfold cX;rw[if_pos rfl];exact decide_eq_false (qU _)
    rw[L]at h
    wp_walk
    exact⟨_,rfl,by simpa[Builtin.Tuple.tupleCompareSizes]using h⟩
  case h=>exact⟨rfl,rfl,.inl rfl⟩
def mI(h:aB)(k:Int×Str)(v:ah):Prop:=∃a t u,v=.ref a/\IsTup h a #[.int k.1 t,.str k.2 u]
section
variable{P:aL}{w:aE}{A:aS}{E:ah->ao->Prop}{s:ao}
theorem EJ{k a:Int×Str}{v g:ah}{Q:ah->ao->Prop}(G:mI s.heap k v)(D:mI s.heap a g)(H:A.units<cLine)(h:Q (.bool (cX k.1 k.2 a.1 a.2)) s):aq (aw P w) A (AN .Lt v g) Q E s:=by
 obtain⟨l,t,u,rfl,I⟩:=G;obtain⟨b,B,z,rfl,J⟩:=D;obtain⟨⟨L,K,r,C⟩,m,p,n,o⟩:=id I;obtain⟨⟨y,d,f,c⟩,q,j,F,i⟩:=id J;simp only at p o j i;subst p o j i;exact richCompare_meets_room (op:=.Lt) ⟨_,m,rfl⟩ ⟨_,q,rfl⟩ PySem.F.slot_tuple_lt PySem.F.entry_tuple_lt (PySem.F.args_tuple_lt_2 _ _) (JI l b k.1 a.1 k.2 a.2 t u B z n F K d C c)
  ⟨m,q,show Value.bool (cX k.1 k.2 a.1 a.2)≠Value.notImplemented/\Q (.bool (cX k.1 k.2 a.1 a.2)) s from⟨(λx=>nomatch x),h⟩⟩ H
theorem mI.keep{h c:aB}{k:Int×Str}{v:ah}(x:mI h k v)(g:∀b o,h.get? b=aa o->o.cls=.type "tuple"->c.get? b=aa o):mI c k v:=by obtain⟨a,t,u,rfl,d⟩:=x;exact⟨a,t,u,rfl,tup_kept d g⟩
theorem HA{a b c:Int×Str}(f:cX a.1 a.2 b.1 b.2=ai)(d:cX b.1 b.2 c.1 c.2=ai):cX a.1 a.2 c.1 c.2=ai:=by
 unfold cX at *;split at f <;> split at d <;> split <;> simp only[decide_eq_true_iff]at * <;> first|lia|skip
 exact List.lt_trans f d
variable{q l I S:af}{vs:List ah}{kf:Nat->Int×Str}{R:Result->ao->Prop}{Q:ah->ao->Prop}
def B4(P:aL)(w:aE)(A:aS)(s:ao)(q:af)(vs:List ah)(kf:Nat->Int×Str):Prop:=∀(i:Nat) (v:ah),vs[i]?=aa v->∀(h:aB) (d:Nat),(∀b o,s.heap.get? b=aa o->h.get? b=aa o) ->
 aq (aw P w) A.in1 (call (.ref q) [v]) (λu f=>∃c a,f={s with heap:=c,toks:=a}/\(∀b o,h.get? b=aa o->c.get? b=aa o)/\mI c (kf i) u) (λ_ _=>False) {s with heap:=h,toks:=d}
theorem D4{a:Array ah}{c:Nat}{p:Prop}(h:(et "list" a c).cls=.type "tuple"):p:=absurd h (by show ¬(_:ah)=_;simp[et])
structure Hw(s:ao)(l I S:af)(vs:List ah)(kf:Nat->Int×Str)(j i:Nat)(h:aB):Prop where
 keep:∀b o,s.heap.get? b=aa o->h.get? b=aa o
 it:h.IsListIter I l (j+1)
 st:∃vb kb c,h.get? S=aa (et "list" #[vb,kb] c)/\vs[i]?=aa vb/\mI h (kf i) kb
 ij:i<=j
 best:∀j',j'<=j->cX (kf j').1 (kf j').2 (kf i).1 (kf i).2=aj
theorem G4(hh:A.handled=ae)(hu:A.units+4<cLine)(hl:s.heap.IsList l vs.toArray)(fI:s.heap.get? I=ae)(fS:s.heap.get? S=ae)(O:S≠I)(n:B4 P w A s q vs kf)(hR:∀i v K x,vs[i]?=aa v->(∀j,j<vs.length->cX (kf j).1 (kf j).2 (kf i).1 (kf i).2=aj)->(∀b o,s.heap.get? b=aa o->K.get? b=aa o)->R (.ok (.ret v)) {s with heap:=K,toks:=x}):∀(r j i:Nat) (h:aB) (Y:Nat),vs.length-(j+1)=r->j+1<=vs.length->Hw s l I S vs kf j i h->mZ (aw P w) A (.builtin "min.loop" ⟨[.ref I,.ref q,.ref S],[]⟩) R {s with heap:=h,toks:=Y}:=by
 have tX:(toString "min"++toString ".loop" : String) = "min.loop":=by decide
 have hlI:l≠I:=λz=>by obtain⟨o,e,_⟩:=hl;rw[z,fI]at e;cases e
 have hlS:l≠S:=λz=>by obtain⟨o,e,_⟩:=hl;rw[z,fS]at e;cases e
 have W:=xl (prog:=P) (w:=w) (A:=A.in1) hh I l hlI vs.toArray;have B:vs.toArray.size=vs.length:=bJ ..;have lk:∀{h:aB},(∀b o,s.heap.get? b=aa o->h.get? b=aa o)->h.IsList l vs.toArray:=λk=>by obtain⟨o,e,r⟩:=hl;exact⟨o,k _ _ e,r⟩
 intro r
 induction r with
 |zero=>
  intro j i h Y hr hj M;obtain⟨N,kb,c,H,m,F⟩:=M.st;refine nq FV ?_;rw[oY qV _];refine ap (xr H rfl ?_);refine ap (tR (W.done _ _ _ ⟨by rw[B,show vs.length=j+1 by lia];exact M.it,lk M.keep⟩ λK x nH=>?_));have y:=mf K S (gk λ_=>(#[]:Array ah));refine ap ?_;refine wpAny_updateSeq (nH S _ (by simpa using O) H) rfl (ap (AO (aC ?_)));refine hR i N _ _ m (λf iy=>M.best f ∅) λb o e=>?_;have nb:b≠I:=λz=>by rw[z,fI]at e;cases e
  have Z:b≠S:=λz=>by rw[z,fS]at e;cases e
  exact(y.2 b Z).trans (nH b o (by simpa using nb) (M.keep b o e))
 |succ r ih=>
  intro j i h Y hr hj M;obtain⟨N,kb,c,H,m,F⟩:=M.st;have aW:j+1<vs.length:=∅
  refine nq FV ?_;rw[oY qV _];refine ap (xr H rfl ?_);refine ap (tR (W.item (j+1) _ _ _ (by rw[B];exact aW) ⟨M.it,lk M.keep⟩ λv h1 X hP dj gn=>?_));have hv:vs[j+1]?=aa v:=by simpa using hP
  obtain⟨oI,eI,o8,lE⟩:=id dj.1;have d:∀b o,s.heap.get? b=aa o->h1.get? b=aa o:=λb o e=>gn b o (by intro z;rw[eR.mp z,fI]at e;cases e) (M.keep b o e);refine ap (tR (iN (eP (n (j+1) v hv h1 X d) (λu s2 he=>?_) λ_ _ hF=>hF.elim)));obtain⟨G,T,rfl,L,D⟩:=he;have p:∀b o,h.get? b=aa o->o.cls=.type "tuple"->G.get? b=aa o:=λb o e ht=>L b o (gn b o (by
   intro z;rw[eR.mp z]at e;obtain⟨o',e',c',_⟩:=M.it;rw[e]at e';cases e';rw[ht]at c';simp at c') e)
  have Gj:=F.keep p;have a:∀b o,s.heap.get? b=aa o->G.get? b=aa o:=λb o e=>L b o (d b o e);have g:=L S _ (gn S _ (by simpa using O) H);have J:=L I _ eI;refine ap (tR (iN (ap (EJ (s:={s with heap:=G,toks:=T}) (A:=A.in1) D Gj (show A.units+1<cLine by lia) ?_))));refine ap (iN (k8 ?_));refine ap (AO (aC ?_));by_cases kx:cX (kf (j+1)).1 (kf (j+1)).2 (kf i).1 (kf i).2=ai
  .have y:=mf G S (gk λ_=>#[v,u]);obtain⟨c2,iU⟩:∃c2,(G.update S (gk λ_=>#[v,u])).get? S=aa (et "list" #[v,u] c2):=⟨_,xw g λ_=>#[v,u]⟩
   simp only[kx,if_true];refine ap ?_;refine wpAny_updateSeq g rfl (ap (AO ?_));rw[tX];refine aC ⟨oZ qV _,ih (j+1) (j+1) _ _ ∅ aW ⟨λb o e=>?_,⟨oI,(y.2 I O.symm).trans J,o8,lE⟩,⟨v,u,c2,iU,hv,?_⟩,aZ _,λf iy=>?_⟩⟩
   .exact(y.2 b (λz=>by rw[z,fS]at e;cases e)).trans (a b o e)
   .refine D.keep λb o e ht=>(y.2 b ?_).trans e;rintro rfl;rw[g]at e;cases e;exact D4 ht
   .by_cases e:f=j+1
    .subst e;cases C:cX (kf (j+1)).1 (kf (j+1)).2 (kf (j+1)).1 (kf (j+1)).2 with
     |false=>rfl
     |true=>unfold cX at C;rw[if_pos rfl,decide_eq_true_iff]at C;exact absurd C (qU _)
    .cases C:cX (kf f).1 (kf f).2 (kf (j+1)).1 (kf (j+1)).2 with
     |false=>rfl
     |true=>have:=HA C kx;rw[M.best f ∅]at this;cases this
  .have nK:cX (kf (j+1)).1 (kf (j+1)).2 (kf i).1 (kf i).2=aj:=by simpa using kx
   simp only[nK,jL,if_false];refine ap (AO ?_);rw[tX];refine aC ⟨oZ qV _,ih (j+1) i _ _ ∅ aW ⟨a,⟨oI,J,o8,lE⟩,⟨N,kb,c,g,m,Gj⟩,by have:=M.ij;lia,λf iy=>?_⟩⟩;by_cases e:f=j+1
   .subst e;exact nK
   .exact M.best f ∅
theorem JP(T:A.handled=ae)(hu:A.units+4<cLine)(g:s.heap.IsList l vs.toArray)(b9:0<vs.length)(c:B4 P w A s q vs kf)(hQ:∀i v Z p,vs[i]?=aa v->(∀j,j<vs.length->cX (kf j).1 (kf j).2 (kf i).1 (kf i).2=aj)->(∀b o,s.heap.get? b=aa o->Z.get? b=aa o)->Q v {s with heap:=Z,toks:=p}):aq (aw P w) A (call (.builtin "min") [.ref l] [(oV "key",.ref q)]) Q E s:=by
 have M:(toString "min"++toString ".loop" : String) = "min.loop":=by decide
 refine kmk_tree PySem.F.kind_min PySem.F.plain_min PySem.F.entry_min (kmk_min_key _ _) ?_;refine ap (tG (show Builtin.Builtins.bindParams "min" ["key","default"] 0 ⟨[],[(oV "key",.ref q)]⟩=pure [aa (.ref q),ae] from rfl) ?_);refine ap (aC ?_);refine ap (xk g ?_);refine ap (wpAny_newList ?_ (j9 _));rw[M];generalize h:s.heap.objs.size=I;generalize H:s.heap.push {cls:=.type "list_iterator",data:=.fields #[.ref l,.int 0 0]}=g1;have G:g1.get? I=aa {cls:=.type "list_iterator",data:=.fields #[.ref l,.int 0 0]}:=by rw[<-H,<-h];exact cf _ rfl
 have F:∀b o,s.heap.get? b=aa o->g1.get? b=aa o:=λb o e=>by rw[<-H];exact bh _ e
 have d:g1.objs.size=I+1:=by rw[<-H,<-h];exact iR ..
 generalize hS:g1.objs.size=S at d;have J:s.heap.get? I=ae:=wN (by rw[<-h];exact aZ _);have fS:s.heap.get? S=ae:=wN (by rw[h,d];exact xg _);have m:S≠I:=by rw[d];exact Nat.succ_ne_self _
 refine aC ⟨oZ qV _,?_⟩;have N:∀b o,s.heap.get? b=aa o->(g1.push (et "list" #[] 0)).get? b=aa o:=λb o e=>bh _ (F b o e);have gS:(g1.push (et "list" #[] 0)).get? S=aa (et "list" #[] 0):=by rw[<-hS];exact cf _ rfl
 have gI:(g1.push (et "list" #[] 0)).get? I=aa {cls:=.type "list_iterator",data:=.fields #[.ref l,.int 0 0]}:=bh _ G;have C:l≠I:=λz=>by obtain⟨o,e,_⟩:=g;rw[z,J]at e;cases e
 have W:=xl (prog:=P) (w:=w) (A:=A.in1) T I l C vs.toArray;have y:vs.toArray.size=vs.length:=bJ ..;refine nq FV ?_;rw[oY qV _];refine ap (xr gS rfl ?_);refine ap (tR (W.item 0 _ _ _ (by rw[y];exact b9) ⟨⟨_,gI,rfl,rfl⟩,(let ⟨o,e,r⟩:=g;⟨o,N _ _ e,r⟩)⟩ λv Y n hP dj gn=>?_));have O:vs[0]?=aa v:=by simpa using hP
 obtain⟨oI,eI,o8,lE⟩:=id dj.1;have a:∀b o,s.heap.get? b=aa o->Y.get? b=aa o:=λb o e=>gn b o (by intro z;rw[eR.mp z,J]at e;cases e) (N b o e);refine ap (tR (iN (eP (c 0 v O Y n a) (λu s2 he=>?_) λ_ _ hF=>hF.elim)));obtain⟨X,tk2,rfl,L,D⟩:=he;have f:=L S _ (gn S _ (by simpa using m) gS);have x:=mf X S (gk λ_=>#[v,u]);obtain⟨K,iU⟩:∃K,(X.update S (gk λ_=>#[v,u])).get? S=aa (et "list" #[v,u] K):=⟨_,xw f λ_=>#[v,u]⟩
 refine ap ?_;refine wpAny_updateSeq f rfl ?_;rw[M];refine aC ⟨oZ qV _,G4 T hu g J fS m c hQ _ 0 0 _ _ rfl b9 ⟨λb o e=>?_,⟨oI,(x.2 I m.symm).trans (L I _ eI),o8,lE⟩,⟨v,u,K,iU,O,?_⟩,aZ _,λj' iy=>?_⟩⟩
 .exact(x.2 b (λz=>by rw[z,fS]at e;cases e)).trans (L b o (a b o e))
 .refine D.keep λb o e ht=>(x.2 b ?_).trans e;rintro rfl;rw[f]at e;cases e;exact D4 ht
 .obtain rfl:j'=0:=∅
  cases B:cX (kf 0).1 (kf 0).2 (kf 0).1 (kf 0).2 with
  |false=>rfl
  |true=>unfold cX at B;rw[if_pos rfl,decide_eq_true_iff]at B;exact absurd B (qU _)
end
open Att
section
variable{a:aL}{w:aE}{A:aS}{E:ah->ao->Prop}{s:ao}
structure yq(x:Str)(params:qB)(scope:cU):Prop where
 bind:∀(name qual:Str) (body:az) (cl:List (Str×af)) (pm aU ct v:ah),eQ (PySem.W.kla_fn name qual params body scope cl pm aU ct) ⟨[v],[]⟩=pure [(x,v)]
 lx:scope.names.lookup x=aa .local
 ly:scope.names.lookup ("len" : Str)=aa .globalImplicit
 nc:∀z∈scope.names,z.2≠.cell
 co:scope.isCoroutine=aj
 gen:scope.isGenerator=aj
 kind:scope.kind=.function
 dx:(x==("__debug__":Str))=aj
abbrev zW(x:Str)(k:Nat)(g f d c b:Pos):az:=.Tuple [.Call (.Name "len" g) [.Name x f] [] d,.Name x c] k b
theorem IX{f B:af}{x g:Str}{c:qB}{d:cU}{k:Nat}{J I H G F:Pos}{j:List (Str×af)}{D p:ah}{z:Str}{t:Tok}{q:Str->Option ah}{Q:ah->ao->Prop}(L:yq x c d)(X:A.depth<wS) (M:s.heap.get? f=aa (AI "<lambda>" g c (zW x k J I H G F) d j D B p)) (W:s.heap.CodeRec (.ref B) g) (m:s.heap.NoLimit)(O:s.heap.Ns cn q) (N:q "len"=ae) (P:∃l,s.heap.Ns mU l/\l "len"=aa (.builtin "len")) (y:z.length<=aX)(h:∀n C u,(∀b o,s.heap.get? b=aa o->n.get? b=aa o)->mI n ((z.length:Nat),z) u->Q u {s with heap:=n,toks:=C}):aq (aw a w) A (call (.ref f) [.str z t]) Q E s:=by refine wpAny_call (PySem.W.kla_callFunE X M rfl L.co L.gen rfl W ?_);rw[L.bind];refine aC (wpAny_newFunctionEnv L.nc (λz y=>by rw[eR.mp y];exact L.lx) (λi r K=>?_) L.kind);have keep:∀b o,s.heap.get? b=aa o->i.get? b=aa o:=λb o e=>(K.2 b (cT (bo e))).trans (bh _ e);refine⟨m.keeps keep,PySem.W.kla_codeExpr ?_⟩;obtain⟨l,T,S⟩:=P;have Y:=ol;refine wpAny_Tuple_spliced ?_;refine tu ?_;refine wV (Fe L.kind L.ly (Calls.loadGlobal_builtin (O.keeps keep) N (T.keeps keep) S ?_));refine Pi (tu (wO (Fd L.kind L.lx r (v:=.str z t) (by simp) (wT ?_)) L.dx)) rfl rfl;refine len_str ∅ ?_;refine tu (wO (Fd L.kind L.lx r (v:=.str z t) (by simp) (wT ?_)) L.dx);refine⟨by rw[mY];simp,?_⟩;exact h _ _ _ (λb o e=>bh _ (keep b o e)) ⟨_,_,_,rfl,⟨_,cf _ rfl,rfl,_,rfl⟩⟩
end
section
variable{X:Cx}{g:List (af×Obj)}{d:St}{H:Hp}{s:ao}
def No(i:TA):TE:=λd H Q=>i d H λj h=>∃(a:af) (c:List Str),j=[.ref a]/\Rd h a (.lst (c.map .str))/\c≠[]/\(∀x∈c,x.length<=aX) /\
 ∀x f,x∈c->(∀y∈c,cX (y.length:Nat) y (x.length:Nat) x=aj)->(∀b o,h b=aa o->f b=aa o)->Q (.str x) f
theorem Mn{z x n:Str}{p0:Pos}{c P:af}{l:qB}{r:cU}{k:Nat}{p p1 p2 p3 p4 p5 G kp F:Pos}{Y:TA}(hc:X.calm=ai)(hr:X.A.depth+1<wS)(hu:X.A.units+8<cLine)(LA:vB X n c P)(LO:yq x l r)(hq:X.env.qual++"<lambda>"=n++".<locals>.<lambda>")(um:xf r X.env=pure []) (ua:defaultsOf l X.env=([],[]))(hg:Gl X "min") (hm:X.mg "min"=ae) (uJ:X.mg "len"=ae) (ha:PA X [.Name z p0] Y):PE X (.Call (.Name "min" p) [.Name z p0] [⟨aa "key",.Lambda l (zW x k p1 p2 p3 p4 p5) r G,kp⟩] F) (No Y):=by
 intro g s d H Q I h;refine wV (oN I hg hm (show dW "min"=aa (.builtin "min") by kernel_rfl) ?_ (by decide) (by decide));refine callWith_kw (aI (ha F g s d H _ I h) λus s1 ⟨vs,H1,I1,r1,q⟩=>?_);obtain⟨a,A,rfl,hA,b9,aH,hQ⟩:=q;obtain⟨u,rfl⟩:∃u,us=[u]:=by
  cases r1 with
  |cons _ t=>cases t;exact⟨_,rfl⟩
 obtain rfl:u=.ref a:=by
  cases r1 with
  |cons z _=>exact z
 refine kws_cons (NX I1 LA hq um ua λf c' ctv T s2 w D hf hfL xL hcL=>kws_nil ?_);have N:Rd T a (.lst (A.map .str)):=hA.elim (λz=>.inl (D _ _ z)) λ⟨o,z⟩=>.inr ⟨o,D _ _ z⟩;obtain⟨m,kn,hl⟩:=id w.loc;obtain⟨zl,E,n0,Z,eL⟩:=N.ok w.hok;have B:E.length=A.length:=by rw[<-Z.length,dD]
 have K:∀(i:Nat) (v:ah),E[i]?=aa v->∃x t,A[i]?=aa x/\v=.str x t:=λi v J=>by obtain⟨xv,C,rx⟩:=Ef Z J;rw[gx]at C;obtain⟨x,ph,rfl⟩:=ma.mp C;obtain⟨t,rfl⟩:=rx;exact⟨x,t,ph,rfl⟩
 obtain⟨mb,mw,nK⟩:=w.mod.blt;have M:mb "len"=aa (.builtin "len"):=(nK "len" (by decide)).trans (show dW "len"=aa (.builtin "len") by kernel_rfl);show aq _ _ (call (.builtin "min") [.ref a] [(oV "key",.ref f)]) _ _ _;refine JP (vs:=E) (kf:=λi=>(((A.getD i gi).length:Nat),A.getD i gi)) (w.ok.hd hc) ∅ ⟨_,eL,rfl,n0,rfl⟩ (by rw[B];exact List.length_pos_iff.mpr b9) (λi v J O W k=>?_) λi v O W J lw k=>?_
 .obtain⟨x,t,C,rfl⟩:=K i v J;have S:A.getD i gi=x:=by simp[C]
  dsimp only;rw[S];obtain⟨cc,oc,vc,tc,z,ec,rc⟩:=xL;cases z;refine IX (s:={s2 with heap:=O,toks:=W}) LO (Nat.lt_of_succ_lt hr) (k _ _ hf) ⟨_,oc,vc,tc,rfl,k _ _ ec,rc⟩ (w.mod.nolimit.keeps λb o e=>k b o (w.bk b o e)) ((w.mod.glob.keeps w.bk).keeps k) uJ ⟨mb,(mw.keeps w.bk).keeps k,M⟩ (aH x (oS C)) λh2 L u k2 hu=>?_;exact⟨h2,L,rfl,k2,hu⟩
 .obtain⟨x,t,C,rfl⟩:=K i v J;have S:A.getD i gi=x:=by simp[C]
  refine⟨.str x,T,?_,⟨t,rfl⟩,hQ x T (oS C) (λy hy=>?_) D⟩
  .have:O.Ns X.env.locals m:=kn.keeps k;exact w.mapKept kn this λb o _ e=>k b o e
  .obtain⟨j,hj⟩:=FH.mp hy;have:=lw j (by rw[B];exact(cY.mp hj).1);have ey:A.getD j gi=y:=by simp[hj]
   rw[S,ey]at this;exact this
end
end L2
namespace Pu
open L2
def bf(x y:Tx):Bool:=if x.length=y.length then decide (x<y)else decide (x.length<y.length)
def mL:List Tx->Option Tx
 |[]=>ae
 |x::r=>aa (r.foldl (λb y=>if bf y b then y else b) x)
theorem sm(x:Tx):bf x x=aj:=by unfold bf;rw[if_pos rfl];exact decide_eq_false (qU x)
theorem wb{x y z:Tx}(b:bf x y=ai)(a:bf y z=ai):bf x z=ai:=by
 unfold bf at *;split at b <;> split at a <;> split <;> simp only[decide_eq_true_iff]at * <;> first|lia|skip
 exact List.lt_trans b a
theorem vJ{x y:Tx}(b:bf x y=aj)(a:bf y x=aj):x=y:=by
 unfold bf at *;split at b
 .rename_i e;rw[if_pos e.symm]at a;simp only[decide_eq_false_iff_not]at b a;exact Ar (AQ.mp a) (AQ.mp b)
 .rename_i e;rw[if_neg (λz=>e z.symm)]at a;simp only[decide_eq_false_iff_not]at b a;lia
theorem Da(r:List Tx):∀b:Tx,(r.foldl (λb y=>if bf y b then y else b) b∈b::r)/\∀y∈b::r,bf y (r.foldl (λb y=>if bf y b then y else b) b)=aj:=by
 induction r with
 |nil=>intro b;exact⟨by simp,λy d=>by simp at d;subst d;exact sm y⟩
 |cons c r n=>
  intro b;rw[j_];obtain⟨l,i⟩:=n (if bf c b then c else b);refine⟨?_,λy d=>?_⟩
  .rcases br.mp l with h|h
   .rw[h];split <;> simp
   .simp[h]
  .generalize r.foldl (λb y=>if bf y b then y else b) (if bf c b then c else b)=m at l i;have a:=i _ (jD ..);cases f:bf y m with
   |false=>rfl
   |true=>
    rcases br.mp d with rfl|d
    .by_cases g:bf c y=ai
     .rw[if_pos g]at a;rw[wb g f]at a;cases a
     .rw[if_neg g]at a;rw[f]at a;cases a
    .rcases br.mp d with rfl|d
     .by_cases g:bf y b=ai
      .rw[if_pos g]at a;rw[f]at a;cases a
      .rw[if_neg g]at a;have o:bf y b=aj:=by simpa using g
       by_cases j:bf b y=ai
       .rw[wb j f]at a;cases a
       .rw[vJ o (by simpa using j)]at f;rw[f]at a;cases a
     .rw[i y (by simp[d])]at f;cases f
theorem D1{a:List Tx}{x:Tx}(h:x∈a)(c:∀y∈a,bf y x=aj):mL a=aa x:=by
 cases a with
 |nil=>cases h
 |cons b r=>obtain⟨f,d⟩:=Da r b;show aa _=aa x;congr 1;exact vJ (c _ f) (d x h)
theorem ltIS_X(x y:Tx):cX ((tS x).length:Nat) (tS x) ((tS y).length:Nat) (tS y)=bf x y:=by
 unfold cX bf;have b:(tS x).length=x.length:=by simp[tS,ng]
 have a:(tS y).length=y.length:=by simp[tS,ng]
 rw[b,a];simp only[jy,Int.natCast_inj,Int.ofNat_lt]
def pX(i:Nat):ak->R PV:=λa=>(a6 (fv a i) a).bind λb a=>a6 ((fE b).bind λc=>(mL c).map .str) a
section
variable{X:Cx}{E:XK}
theorem Ik(i:Nat){z x n:Str}{c P:af}{d:qB}{f:cU}{k:Nat}{p Y W T O N M g kp q:Pos}(hc:X.calm=ai)(hr:X.A.depth+1<wS)(hu:X.A.units+64<cLine)(LA:vB X n c P)(hm:X.mg "min"=ae)(K:X.mg "len"=ae)(hq:X.env.qual++"<lambda>"=n++".<locals>.<lambda>":=by rfl) (I:xf f X.env=pure []:=by rfl)(LO:yq x d f:=by exact⟨λ_ _ _ _ _ _ _ _=>rfl,rfl,rfl,by decide,rfl,rfl,rfl,by decide⟩)(hN:X.N[i]?=aa z:=by rfl) (fg:fu X.env.scope z:=by eq_refl) (hd:(z==("__debug__":Str))=aj:=by decide) (bK:(z==("__classdict__":Str))=aj:=by decide)(J:defaultsOf d X.env=([],[]):=by rfl) (hg:Gl X "min":=by rfl):DE X E (.Call (.Name "min" p) [.Name z Y] [⟨aa "key",.Lambda d (zW x k W T O N M) f g,kp⟩] q) (pX i):=λF S D σ H Q A h=>by
 unfold pX at h;cases w:fv D i with
 |none=>rw[w]at h;exact h.elim
 |some G=>
  rw[w]at h;simp only[dU,R.bind_ok]at h;cases v:fE G with
  |none=>rw[v]at h;exact h.elim
  |some s=>
   rw[v,jn]at h;cases j:mL s with
   |none=>rw[j]at h;exact h.elim
   |some r=>
    rw[j]at h;simp only[xq,dU]at h;obtain rfl:=pK v;obtain⟨a,ea,⟨us,ha,L⟩,_⟩:=A.own i _ (jz w);obtain⟨rfl,B⟩:=PQ.mp L;refine bY (Mn hc hr ∅ LA LO hq I J hg hm K (iF (gK hN fg hd bK) jW (by rfl))) ?_;refine⟨_,ea,a,s.map tS,rfl,.inl ?_,λz=>?_,λy u=>?_,λy C u Z m=>?_⟩
    .rw[ha,eu];rfl
    .rw[FW]at z;subst z;cases j
    .obtain⟨y,l,rfl⟩:=cp.mp u;have:=B y l;have e:(tS y).length=y.length:=by simp[tS,ng]
     rw[e];exact cA this jV
    .obtain⟨y,l,rfl⟩:=cp.mp u;have:mL s=aa y:=D1 l λz hz=>by have:=Z (tS z) (cp.mpr ⟨z,hz,rfl⟩);rwa[ltIS_X]at this
     rw[this]at j;cases j;have al:Al F F H C:=⟨λ_ z=>z,λb o e=>m b o e,λ_ z=>.inl z⟩
     exact h F S C (A.al al) al.grow (tV r) ⟨rfl,B r l⟩
end
end Pu
namespace L2
open SeqAt
theorem O7{a:Type}{M:Model}{A:aS}{E:ah->ao->Prop}{s:ao}{Q:a->ao->Prop}{n:Nat}{f:Nat->a->Sem (ForInStep a)}{b:a}(h:aq M A (forIn (iS 0 n 1) b f) Q E s):aq M A (forIn ([0:n]:Qg) b f) Q E s:=by rw[Std.Legacy.Range.forIn_eq_forIn_range'];simpa[Std.Legacy.Range.size]using h
theorem OJ(l:af)(a:Array ah)(n:Nat)(I:Option af)(u:Array (Option ah))(x:ah)(e:ah->Bool)(j:Nat)(L:j<a.size)(H:e a[j]=ai)(G:∀m (K:m<a.size),m<j->e a[m]=aj):Meets (Builtin.«tuple.index» ⟨[.ref l,x],[]⟩) (λA R s=>s.heap.get? l=aa {cls:=.type "tuple",dict:=I,data:=.seq a n,slots:=u}/\(∀y,y∈a->EqAt A.in1 s y x (e y))/\R (.ok (.ret (.int j s.toks))) {s with toks:=s.toks+1}) :=
 .of_wp λf w A R s h=>by
  obtain⟨z,g,d,r,v⟩:=s;obtain⟨B,E,h⟩:=h
  wp_walk using wX B,O7
  refine AJ _ (λrest (b:Option Fin×Unit) o=>b.1=ae/\o=⟨z,g,d,r,v⟩/\∃i,i<=j/\rest=iS i (a.size-i) 1) _ ?_ ?_ _ _ ⟨rfl,rfl,0,j9 _,by simp⟩
  .rintro i rest b o ⟨F,rfl,k,C,c⟩;have p:a.size-k=(a.size-k-1)+1:=∅
   rw[p,FX]at c;injection c with hi c;subst hi;have q:i<a.size:=∅
   have D:a[i]?=aa a[i]:=tJ q;rw[D];dsimp only;refine ap (E a[i] (Array.getElem_mem q) f w _ _ ?_);by_cases J:i=j
   .subst J;rw[H]
    wp_walk
    exact⟨_,rfl,h⟩
   .rw[G i q ∅]
    wp_walk
    exact⟨rfl,rfl,i+1,∅,by rw[c];congr 1⟩
  .rintro b o ⟨F,rfl,k,C,c⟩;have:a.size-k=0:=by have:=congrArg lm c;simpa using this.symm
   lia
section
variable{X:Cx}
def Oy(K:ax):V->List V->Hp->VK->Prop:=λx b H Q=>∃(p:af) (a:List V) (y:V) (j:Nat),x=.ref p/\b=[y]/\bR K H p a/\gc y=ai/\a.all gc=ai/\j<a.length /\
 (∀z,a[j]?=aa z->cZ z y=ai)/\(∀(i:Nat) z,i<j->a[i]?=aa z->cZ z y=aj)/\Q (.int j) H
theorem Nm:wI X "tuple.index" (Oy X.K):=by
 intro ag s σ H x vs v us Q I G J h;obtain⟨p,d,y,j,rfl,rfl,O,T,A,hj,S,P,q⟩:=h;cases G;obtain⟨u,rfl,K⟩:=J.one;obtain⟨a,r,⟨⟨Z,Y,C,E⟩,e,z,n,o⟩,hz⟩:=I.tuple O;simp only at z o;subst z o;have hl:a.length=d.length:=r.length.symm;have c:∀(i:Nat) (l:i<a.toArray.size),∃w,d[i]?=aa w/\jg y a.toArray[i]=cZ w y:=λi l=>by
  have D:i<a.length:=by simpa using l
  have B:d[i]?=aa d[i]:=eh ∅;obtain⟨w,b,L⟩:=r.get B;have W:a[i]=w:=by rw[eh D]at b;exact dz b
  refine⟨_,B,?_⟩;rw[<-vo L (ke.mp A _ (As _))];simp[W]
 refine call_meets F.slot_tuple_index ⟨_,e,rfl⟩ F.entry_tuple_index (F.args_tuple_index_2 _ _) (OJ p a.toArray n Y E u (jg y) j (by simp;lia) ?_ ?_) ⟨e,λw M=>rL K T r A w (by simpa using M),?_⟩
 .obtain⟨w,b,f⟩:=c j (by simp;lia);rw[f];exact S w b
 .intro m N g;obtain⟨w,b,f⟩:=c m N;rw[f];exact P m w g b
 .exact⟨.int _,H,I.tok _,⟨_,rfl⟩,q⟩
end
end L2
namespace Pu
open L2
section
variable{X:Cx}{E:XK}{pin:List Nat}{e o:az}{d de:ak->R PV}{y:Str}
theorem J8{b a:Pos}(ho:DE X E o d)(he:DE X E e de)(W:ni o "index" X.env (aM o X.env)=aM o X.env:=by rfl)(T:(b.endLine == a.line)=ai:=by rfl) (dj:lW e=aj:=by rfl):DE X E (.Call (.Attribute o "index" b) [e] [] a) (lM qj d de):=λF S J A H Q O h=>by
 have s:=kE (es:=[]) (env:=X.env) dj;refine bY (Bq PySem.F.slot_tuple_index PySem.F.type_tuple_index Nm bA (iF bA jW s) W (by rw[s];rfl) T s rfl) (ho F S J A H _ O ((Ok.bind h).imp λx g F1 S1 H1 m g1 u v M=>?_));split at u
 .rename_i K;obtain⟨p,B,rfl,C,N⟩:=M;refine⟨⟨p,B,rfl,C⟩,he F1 S1 g A H1 _ m ((Ok.bind u).imp λk I F2 S2 H2 P G q w l=>?_)⟩;unfold qj at q;cases c:cV k with
  |none=>rw[c]at q;exact q.elim
  |some z=>
   cases r:ig K with
   |none=>rw[c,r]at q;exact q.elim
   |some L=>
    rw[c,r]at q;cases n:L.findIdx? (λy=>cZ y z)with
    |none=>rw[jn,jn,n]at q;exact q.elim
    |some j=>
     rw[jn,jn,n]at q;obtain⟨rfl,hf⟩:=u8 (N.grow G m.fit) r;rw[i7 l c];obtain⟨D,Z,Y⟩:=Pk.mp n;refine⟨p,B,z,j,rfl,rfl,bR.of (G.imm m.fit C id),rm c,hf,D,λy f=>?_,λi y hi f=>?_,q F2 S2 H2 P (bv.refl ..) _ rfl⟩
     .rw[eh D]at f;cases f;exact Z
     .have:=Y i hi;rw[eh ∅]at f;cases f;simpa using this
 .exact u.elim
def C0:V->List V->Hp->VK->Prop:=λx a H Q=>∃y c,x=tV y/\a=[tV c]/\Q (.bl (decide (c <:+ y))) H
theorem ON(y c:Tx):Txt.endswith (tS y) (tS c)=decide (c <:+ y):=by
 have f:(tS y).length=y.length:=by simp[tS,ng]
 have b:(tS c).length=c.length:=by simp[tS,ng]
 unfold Txt.endswith Builtin.Str.subAt;rw[f,b,lg,fU,decide_eq_true_iff,decide_eq_true_iff,beq_iff_eq];have g:(tS y).cps.extract (y.length-c.length) (y.length-c.length+c.length)=(tS c).cps↔(y.drop (y.length-c.length)).take c.length=c:=by show y.toArray.extract _ _=c.toArray↔_;rw[<-Array.toList_inj];simp[List.extract_eq_take_drop]
 rw[g];constructor
 .rintro⟨h,a⟩;have:y.drop (y.length-c.length)=c:=by rw[lp (by simp;lia)]at a;exact a
  rw[<-this];exact List.drop_suffix _ _
 .rintro⟨p,rfl⟩;refine⟨by simp,?_⟩;simp
theorem GY:wJ X "str.endswith" C0:=by intro l s f H x g v i Q I a b h;obtain⟨y,c,rfl,rfl,q⟩:=h;obtain⟨t,rfl⟩:=a;obtain⟨u,rfl,j,rfl⟩:=vals1 b;exact SC.endswith ⟨.bl _,H,I.tok _,(by rw[ON];rfl),q⟩
def rH(y:Tx):List PV->Option PV
 |[.str c]=>aa (.bl (decide (c <:+ y)))
 |_=>ae
theorem On{K:ax}:PM K C0 rH:=λF H y b f Q pv g a e q=>by
 unfold rH at e;split at e
 .rename_i c;cases e;obtain⟨v,rfl,rfl,_⟩:=f_ a;exact⟨y,c,rfl,rfl,q _ F H (Al.refl ..) rfl⟩
 .cases e
end
def pJ:PV->PV->Option PV
 |.tup [],.tup b=>aa (.tup b)
 |.tup (x::a),.tup []=>if a.length<1000 then aa (.tup (x::a))else ae
 |x,y=>bp x y
theorem BG{K:ax}:P2 K (λx y H Q=>zE K x y H Q\/vC K x y H Q) pJ:=λF H x y v u Q pv d c e q=>by
 unfold pJ at e;split at e
 .cases e;obtain⟨a,i,rfl,g,j⟩:=d;obtain⟨b,h,rfl,f,l⟩:=id c;rw[show i=[] from j]at g;exact .inl ⟨a,b,h,rfl,rfl,bR.of g,bR.of f,q _ F H (Al.refl ..) c⟩
 .split at e
  .rename_i n;cases e;obtain⟨a,i,rfl,g,j⟩:=id d;obtain⟨b,h,rfl,f,l⟩:=id c;rw[show h=[] from l]at f;have m:=j.len;refine .inr (.inr (.inl ⟨a,b,i,[],rfl,rfl,bR.of g,bR.of f,?_,?_,λ_=>q _ F H (Al.refl ..) d,λz=>absurd rfl z⟩))
   .rintro rfl;simp at m
   .rw[m,mY];simp;lia
  .cases e
 .exact .inr (f8 F H _ _ v u Q pv d c e q)
section
variable{K:ax}{X:Cx}
def kQ:PV->PV->Option PV
 |.int i,.int j=>if 0<=j/\j<=1000000/\i.natAbs<2^64 then aa (.int (i*2^j.toNat))else ae
 |_,_=>ae
def lI:PV->PV->Option PV
 |.int i,.int j=>if 0<=j then aa (.int (i / 2^j.toNat))else ae
 |_,_=>ae
def l6:PV->PV->Option PV
 |.int i,.int j=>aa (.int (tt i j))
 |_,_=>ae
def nZ:PV->PV->Option PV
 |.int i,.int j=>aa (.int (wQ i j))
 |_,_=>ae
theorem yc:P2 K (rI rY λi j=>.int (i*2^j.toNat)) kQ:=λF H x y v u Q pv b a e q=>by
 unfold kQ at e;split at e
 .split at e
  .cases e;exact⟨_,_,b,a,by assumption,q _ F H (Al.refl ..) rfl⟩
  .cases e
 .cases e
theorem Oq:P2 K (rI (λ_ j=>0<=j) λi j=>.int (i / 2^j.toNat)) lI:=λF H x y v u Q pv b a e q=>by
 unfold lI at e;split at e
 .split at e
  .cases e;exact⟨_,_,b,a,by assumption,q _ F H (Al.refl ..) rfl⟩
  .cases e
 .cases e
theorem Ip:P2 K (i8 λi j=>.int (tt i j)) l6:=λF H x y v u Q pv b a e q=>by
 unfold l6 at e;split at e
 .cases e;exact⟨_,_,b,a,q _ F H (Al.refl ..) rfl⟩
 .cases e
theorem HF:P2 K (i8 λi j=>.int (wQ i j)) nZ:=λF H x y v u Q pv b a e q=>by
 unfold nZ at e;split at e
 .cases e;exact⟨_,_,b,a,q _ F H (Al.refl ..) rfl⟩
 .cases e
end
end Pu
namespace L2
section
variable{X:Cx}{c:cU}{x:Str}{g:List Str}{d:List Nat}
def Bc(i:Nat)(u:TT)(w:TE)(d:List Nat):TE:=λp H Q=>∃a f,p[i]?=aa (aa (.ref a))/\H a=aa (.dT f)/\∀o l,(f.map (·.1)).Nodup->f.length<=aX->xP H f (mR o)->upd H a (.frz o (.dT f)) l=ae->∃W:Nat->Nat->List V->Hp->Prop,(∃m,W 0 m [] (upd (upd H a (.frz o (.dT f))) l (.lst [])))/\∀i m h n,W i m h n ->
 ((sD a o f).stop i n/\Q (.ref l) (upd n a (.dT f)))\/((sD a o f).go i n/\∀v s,(sD a o f).yld i n v s->u (aa v::eK p d) s λb r=>if b=ai then w (aa v::eK p d) r λy q=>q l=aa (.lst h)/\h.length<aX/\∃j,j<m/\W (i+1) j (h++[y]) (upd q l (.lst (h++[y]))) else ∃j,j<m/\W (i+1) j h r)
theorem IE{A:az}{Y F M T n:Pos}{y u:Str}{p:Nat}{r:List az}{Q:TT}{S:TE}(i:Nat)(B:iD X c x g d)(hc:X.calm=ai)(hN:X.N[i]?=aa y)(hv:fu X.env.scope y)(hd:(y==("__debug__":Str))=aj)(bK:(y==("__classdict__":Str))=aj)(ht:∀C b j P N,oC (bN X c g C b j P N) r Q) (he:∀C b j P N,PE (bN X c g C b j P N) A S) (O:X.N.Nodup) (pc:X.N[p]?=aa u) (uq:Loc X.env.scope u) (pe:iM (.ListComp A [⟨.Name x Y,.Name y M,r,0⟩] c F) (aa (.Name u T)) n.line X.env=pure ai) (hf:X.fn u=ai\/X.env.scope.names.lookup u=aa .local) (hs:∀x,mX (.Name y M) X.env x=pure x):PS X (.Assign [.Name u T] (.ListComp A [⟨.Name x Y,.Name y M,r,0⟩] c F) n) (λD J H=>Bc i Q S d J H λv K=>D.nx (J.set p (aa v)) K):=by
 intro ag s J H D I h;obtain⟨a,G,ea,Z,h⟩:=h;have hn:∀o u,X.H₀ a≠aa (.frz o u):=λo u z=>by
  have:=I.base.frzs a o u z;rw[Z]at this;cases this
 refine aI (Os B hc (Jn (gK hN hv hd bK)) ht he O pc uq pe hf hs ag s J H ⟨Ih a G D,λ_ _=>False,λ_ _=>False,λ_ _=>False⟩ I ⟨.ref a,ea,a,G,rfl,Z,λo nd hz hk l hl=>?_⟩) λf s' q=>?_
 .obtain⟨W,w0,E⟩:=h o l nd hz hk hl;refine⟨W,w0,λi m ys K w=>?_⟩;rcases E i m ys K w with⟨st,q⟩|z
  .exact .inl ⟨st,o,st.1,q⟩
  .exact .inr ⟨z.1,λv H1 y=>⟨[aa v],rfl,rfl,z.2 v H1 y⟩⟩
 .cases f with
  |next=>obtain⟨L,K,I',o,e',q⟩:=q;exact⟨L,_,I'.thawT e' hn,q⟩
  |brk=>obtain⟨_,_,_,q⟩:=q;exact q.elim
  |cont=>obtain⟨_,_,_,q⟩:=q;exact q.elim
  |ret u=>obtain⟨_,_,_,_,_,q⟩:=q;exact q.elim
def C9(K:ax):R2:=λx y H Q=>∃(p q:af) (n m:Int) (t u:Str),x=.ref p/\y=.ref q/\bR K H p [.int n,.str t]/\bR K H q [.int m,.str u]/\Q (.bl (cX n t m u)) H
theorem J5(E:X.A.units<cLine):bD X (dr .Lt) (C9 X.K):=by
 intro P s M H x y v u Q I o l h;obtain⟨p,q,n,m,t,w,rfl,rfl,G,F,J⟩:=h;cases o;cases l;obtain⟨O,B,j,_⟩:=I.tuple G;obtain⟨N,z,i,_⟩:=I.tuple F;have f:∀{b:List ah}{n:Int}{t:Str}{a:af},bq [.int n,.str t] b->IsTup s.heap a b.toArray->mI s.heap (n,t) (.ref a):=λ{b n t a} r T=>by
  cases r with
  |cons L r=>cases r with
   |cons K r=>
    cases r;obtain⟨D,rfl⟩:=L;obtain⟨C,rfl⟩:=K;exact⟨a,D,C,rfl,T⟩
 show aq _ _ (AN .Lt (.ref p) (.ref q)) _ _ s;exact EJ (A:=X.A) (f B j) (f z i) E ⟨.bl _,H,I,rfl,J⟩
end
end L2
namespace Pu
open L2
section
variable{X:Cx}{K:ax}{E:XK}{pin:List Nat}{e b c:az}{de db f:ak->R PV}{d:Pos}
def kG:PV->PV->Option PV
 |.tup [.int n,.str t],.tup [.int m,.str u]=>aa (.bl (cX n (tS t) m (tS u)))
 |_,_=>ae
theorem Pf:P2 K (C9 K) kG:=λF H x y v u Q pv o n e q=>by
 unfold kG at e;split at e
 .cases e;obtain⟨p,G,rfl,h,m,L,rfl,B,I,J,rfl,A,z⟩:=o;cases z;obtain⟨w,j,rfl,i,a,s,rfl,C,l,r,rfl,D,g⟩:=n;cases g;refine⟨p,w,_,_,_,_,rfl,rfl,?_,?_,q _ F H (Al.refl ..) rfl⟩
  .rw[show m=_ from B,A.1]at h;exact bR.of h
  .rw[show a=_ from C,D.1]at i;exact bR.of i
 .cases e
def kX(i:Nat)(db:ak->R PV):ak->R PV:=λa=>(a6 (fq a i) a).bind λ_ a=>(db a).bind λk ε1=>(a6 (fq ε1 i) ε1).bind λg ε1=>a6 ((kU k).map λk=>(jd g k).getD .non) ε1
theorem DB(i:Nat){y:Str}{j g:Pos}(hu:X.A.units+64<cLine)(hb:DE X E b db)(hN:X.N[i]?=aa y:=by rfl)(fg:fu X.env.scope y:=by eq_refl)(hd:(y==("__debug__":Str))=aj:=by decide) (bK:(y==("__classdict__":Str))=aj:=by decide)(l:ni (.Name y j) "get" X.env (aM (.Name y j) X.env)=aM (.Name y j) X.env:=by rfl) (s:(g.endLine == d.line)=ai:=by rfl) (W:lW b=aj:=by rfl):DE X E (.Call (.Attribute (.Name y j) "get" g) [b] [] d) (kX i db):=λF S B O H Q D h=>by
 have C:aP [b] X.env=[(aj,aM b X.env)]:=by rw[kE W];rfl
 have m:M1 X (.Name y j) "get" g b d:=⟨l,by rw[C];rfl,s,by rw[C];rfl⟩
 unfold kX at h;cases A:fq B i with
 |none=>rw[A]at h;exact h.elim
 |some I=>
  rw[A]at h;simp only[dU,R.bind_ok]at h;obtain⟨a,P,J,r,_⟩:=D.dtAt (p6 A);refine bY (Mj ∅ (gK hN fg hd bK) bA m) ⟨.ref a,J,a,rfl,.inr ⟨_,.inl r⟩,hb F S B O H _ D ((Ok.bind h).imp λk o N L M p g1 q u Y=>?_)⟩;cases z:fq o i with
  |none=>rw[z]at q;exact q.elim
  |some Z=>
   rw[z]at q;simp only[dU,R.bind_ok]at q;obtain⟨a',T,n,ha,hk,_⟩:=p.dtAt (p6 z);rw[J]at n;cases n;cases w:kU k with
   |none=>rw[w]at q;exact q.elim
   |some G=>
    rw[w,xq]at q;obtain⟨bb,rfl,ko⟩:=Bo Y w;refine⟨eM T G,pV.t ha ko,?_⟩;rcases hk.val G with⟨x,v,l,h2,s⟩|⟨l,h2⟩
    .rw[l]at q;rw[h2];exact q N L M p (bv.refl ..) v s
    .rw[l]at q;rw[h2];exact q N L M p (bv.refl ..) .non rfl
theorem zh{a:Type}(x:a)(l:List a):dP (x::l) 0=aa x:=by unfold dP jc;simp
def ju:cC->Option Int
 |.inl n::_=>aa n
 |_=>ae
def qu(a:List (cC×PV))(n:Int):List PV:=(a.filter λp=>decide (ju p.1=aa n)).map (·.2)
def mG(i j:Nat):ak->R PO:=λa=>(a6 (fq a i) a).bind λg a=>match a[j]? with
 |some (.val (.tup h))=>if h.length<=60/\(g.all λp=>(ju p.1).isSome)=ai then .ok (.lst (qu g (1*2^h.length-1))) a else .no
 |_=>.no
def iC(a:List (cC×V))(n:Int):List V:=(a.filter λp=>decide (ju p.1=aa n)).map (·.2)
theorem Ig(l:List (cC×V))(p:cC×V)(n:Int):iC (l++[p]) n=iC l n++(if ju p.1=aa n then [p.2] else []):=by unfold iC;rw[FY,qL];congr 1;by_cases h:ju p.1=aa n <;> simp[h]
theorem gf.with{H:Hp}{F:af->Prop}{a:List (cC×PV)}{ws:List (cC×V)}(h:gf K H F a ws)(n:Int):a_ K H F (qu a n) (iC ws n):=by
 unfold gf at h
 induction h with
 |nil=>rfl
 |@cons p q ps qs r _ ih=>
  unfold qu iC at ih ⊢;by_cases e:ju p.1=aa n
  .rw[List.filter_cons_of_pos (by simpa using e),List.filter_cons_of_pos (by rw[<-r.1];simpa using e)];exact⟨_,_,rfl,r.2,ih⟩
  .rw[List.filter_cons_of_neg (by simpa using e),List.filter_cons_of_neg (by rw[<-r.1];simpa using e)];exact ih
def IV(K:ax):TT:=tB (EM (pR (wt K) (kW 0) (tC (.int 0))) (Bm (pR (rI rY λi j=>.int (i*2^j.toNat)) (tC (.int 1)) (zB (λg H Q=>∃p a,g=[.ref p]/\(bP K H p a\/bR K H p a)/\Q (.int a.length) H) (Cp (kW 2) Cu))) (tC (.int 1))))
theorem JE{F:af->Prop}{S:Nat->af->Prop}{W:ak}{B:St}{H:Hp}{Q:VK}(i j:Nat)(D:aQ X.K F S W B H)(h:Ok X.K E B F S H (mG i j W) (λpo _ F' S' A=>∀a Sa,eJ X.K A F' po a Sa->(∀b,Sa b->H b=ae/\¬F' b/\¬U S' b/\∃o,A b=aa o/\d8 o)->Q (.ref a) A)):Bc i (IV X.K) (Cc (kW 1) (kW 0)) [i,j] B H Q:=by
 unfold mG at h;cases e0:fq W i with
 |none=>rw[e0]at h;exact h.elim
 |some kvs=>
  rw[e0]at h;simp only[dU,R.bind_ok]at h;split at h;rotate_left
  .exact h.elim
  rename_i xs en;split at h;rotate_left
  .exact h.elim
  rename_i PD;obtain⟨hxl,hks⟩:=PD;obtain⟨vn,en1,P,L,rfl,C,rb⟩:=D.val j _ en;have hvl:=rb.len;obtain⟨a,g,ea,O,hk,hS,_⟩:=D.dtAt (p6 e0);have hba:P≠a:=λz=>by rw[z,O]at C;cases C
  have Z:∀p∈g,∃n r,p.1=.inl n::r:=λp I=>by
   obtain⟨t,ht⟩:=FH.mp I;have kB:=hk.keys;have h3:(g.map (·.1))[t]?=aa p.1:=by rw[gx,ht];rfl
   rw[kB,gx]at h3;obtain⟨q,h4,h5⟩:=ma.mp h3;have:=ke.mp hks q (oS h4);rw[h5]at this;unfold ju at this;split at this
   .rename_i n r e;exact⟨n,r,e⟩
   .cases this
  refine⟨a,g,ea,O,λo l nd hz hka M=>?_⟩;have s:l≠a:=by rintro rfl;rw[bW]at M;cases M
  have y:H l=ae:=by rw[bj s]at M;exact M
  have hlb:P≠l:=λz=>by rw[z,y]at C;cases C
  let N:Int:=1*2^xs.length-1
  refine⟨λt m' Y A=>m'=g.length-t/\t<=g.length/\Y=iC (g.take t) N/\A=upd (upd H a (.frz o (.dT g))) l (.lst Y),⟨_,rfl,j9 _,by simp[iC],rfl⟩,?_⟩;rintro t m' Y A ⟨rfl,hj,rfl,rfl⟩;have w:upd (upd H a (.frz o (.dT g))) l (.lst (iC (g.take t) N)) a=aa (.frz o (.dT g)):=by rw[bj (fF s),bW]
  have G:∀{c:af}{u:HO},H c=aa u->c≠a->upd (upd H a (.frz o (.dT g))) l (.lst (iC (g.take t) N)) c=aa u:=λ{c u} e n=>by rw[bj (λz=>by rw[z,y]at e;cases e),bj n];exact e
  by_cases aW:t<g.length
  .refine .inr ⟨⟨w,aW⟩,λv H1 ⟨e1,b,hb,e2⟩=>?_⟩;subst e1 e2;obtain⟨p,I,x⟩:=hka.2 t b hb;obtain⟨n,r,hn⟩:=Z p (oS I);have hbA:b≠a:=λz=>by rw[z,O]at x;cases x
   have Gk:=G x hbA;have J:=G C hba;have T:iC (g.take (t+1)) N=iC (g.take t) N++(if n=N then [p.2] else []):=by
    have:g.take (t+1)=g.take t++[p]:=by rw[List.take_add_one,I];rfl
    rw[this,Ig,hn];simp[ju]
   refine⟨.ref b,rfl,.inr (.inl ⟨b,p.1.map kV,0,.int n,rfl,rfl,bR.of Gk,?_,?_⟩)⟩
   .rw[hn];show dP (V.int n::r.map kV) 0=_;exact zh _ _
   .refine⟨.ref P,?_,P,L,rfl,.inr (bR.of J),1,(L.length:Nat),rfl,rfl,⟨∅,∅,by decide⟩,1*2^((L.length:Nat):Int).toNat,1,rfl,rfl,n,_,rfl,rfl,?_⟩
    .show(eK B [i,j])[1]?=_;unfold eK;simp[en1]
    .have hN2:(1*2^((L.length:Nat):Int).toNat-1:Int)=N:=by rw[gy,hvl]
     have hwl:(iC (g.take t) N).length<=t:=by unfold iC;rw[dD];exact cA (FZ _ _) (by rw[jk];lia)
     refine⟨_,rfl,?_⟩;dsimp only;rw[hN2];by_cases m:n=N
     .rw[if_pos (show decide (n=N)=ai from decide_eq_true m)];rw[if_pos m]at T;refine⟨.ref a,?_,.ref b,rfl,a,p.2,rfl,.inr ⟨g,p.1,b,.inr ⟨o,w⟩,rfl,Gk,?_⟩,bW,∅,_,?_,rfl,aW,T.symm,?_⟩
      .show(eK B [i,j])[0]?=_;unfold eK;simp[ea]
      .exact(EF nd (oS I)).symm
      .lia
      .rw[Ix]
     .rw[if_neg (show ¬decide (n=N)=ai by rw[decide_eq_false m];exact dX)];rw[if_neg m,iP]at T;exact⟨_,(show g.length-(t+1)<g.length-t by lia),rfl,aW,T.symm,rfl⟩
  .have e:t=g.length:=∅
   subst e;refine .inl ⟨⟨w,aZ _⟩,?_⟩;rw[O9 O s,tN];have al:Al F F H (upd H l (.lst (iC g N))):=Al.new0 y;refine h F S _ (D.al al) al.grow l (λb=>b=l) ⟨⟨_,bW,al.reps (hk.with N)⟩,λb=>Iff.rfl⟩ λb z=>?_;subst z;refine⟨y,λz=>?_,λ⟨j,z⟩=>?_,_,bW,trivial⟩
   .obtain⟨o,q⟩:=D.ex b z;rw[y]at q;cases q
   .obtain⟨_,_,o,q,_⟩:=D.foot j b z;rw[y]at q;cases q
theorem Hv(o i j:Nat){l:cU}{x y z u:Str}{py q px J w p3 I q2 Z Y W r T P O v s G:Pos}{c0 c1 c2}(M:X.N.Nodup)(B:iD X l x [x,y,z] [i,j])(hc:X.calm=ai)(hu:X.A.units+64<cLine)(hm:X.mg "len"=ae)(hN:X.N[i]?=aa y:=by rfl)(fg:fu X.env.scope y:=by eq_refl)(hd:(y==("__debug__":Str))=aj:=by decide) (bK:(y==("__classdict__":Str))=aj:=by decide)(L:∀C a g n m,PE (bN X l [x,y,z] C a g n m) (.Name x w) (kW 0):=by intro _ _ _ _ _;exact pv 0) (gE:∀C a g n m,PE (bN X l [x,y,z] C a g n m) (.Name y J) (kW 1):=by intro _ _ _ _ _;exact pv 1)(eY:∀C a g n m,PE (bN X l [x,y,z] C a g n m) (.Name x I) (kW 0):=by intro _ _ _ _ _;exact pv 0)(hg:∀C a g n m,Gl (bN X l [x,y,z] C a g n m) "len":=by intro _ _ _ _ _;rfl) (fZ:∀C a g n m,PE (bN X l [x,y,z] C a g n m) (.Name z r) (kW 2):=by intro _ _ _ _ _;exact pv 2)(kt:∀C a g n m,aP [.Name z r] (bN X l [x,y,z] C a g n m).env=(aj,aM (.Name z r) (bN X l [x,y,z] C a g n m).env)::aP [] (bN X l [x,y,z] C a g n m).env:=by intro _ _ _ _ _;rfl)(hs:∀x,mX (.Name y G) X.env x=pure x:=by intro _;rfl) (fX:sv (.Name x w):=by exact λ_ _=>rfl)(hp:o∉pin:=by decide) (pc:X.N[o]?=aa u:=by rfl) (hx:Loc X.env.scope u:=by first|exact Or.inl rfl|exact Or.inr rfl) (pe:iM (.ListComp (.Subscript (.Name y J) (.Name x w) p3) [⟨.Name x px,.Name y G,[.Compare (.Subscript (.Name x I) (.Constant (.int 0) c0 q2) Z) [.Eq] [.BinOp (.BinOp (.Constant (.int 1) c1 Y) .LShift (.Call (.Name "len" W) [.Name z r] [] T) P) .Sub (.Constant (.int 1) c2 O) v] s],0⟩] l d) (aa (.Name u py)) q.line X.env=pure ai:=by rfl)(hf:X.fn u=ai\/X.env.scope.names.lookup u=aa .local:=by first|exact .inl rfl|exact .inr rfl):DS X E pin (.Assign [.Name u py] (.ListComp (.Subscript (.Name y J) (.Name x w) p3) [⟨.Name x px,.Name y G,[.Compare (.Subscript (.Name x I) (.Constant (.int 0) c0 q2) Z) [.Eq] [.BinOp (.BinOp (.Constant (.int 1) c1 Y) .LShift (.Call (.Name "len" W) [.Name z r] [] T) P) .Sub (.Constant (.int 1) c2 O) v] s],0⟩] l d) q) (bG o (dF (mG i j))):=λF S ε σ H D N h=>ie (IE i B hc hN fg hd bK (λC a g n m=>E9 (En (G6 (CO (show kC (bN X l [x,y,z] C a g n m) (wt X.K)from gM) (eY C a g n m) wB (λ_ _=>rfl)) (L7 (Ba u0 wB (qr (show fk (bN X l [x,y,z] C a g n m) (.builtin "len") (λxs H Q=>∃p A,xs=[.ref p]/\(bP X.K H p A\/bR X.K H p A)/\Q (.int A.length) H)from Jr) (hg C a g n m) (show(bN X l [x,y,z] C a g n m).mg "len"=ae from hm) rfl (iF (fZ C a g n m) jW (kt C a g n m)) (by decide) (by decide) (kt C a g n m) rfl)) wB)))) (λC a g n m=>Gx (show X.A.units+1<cLine by lia) (gE C a g n m) (L C a g n m) fX) M pc hx pe hf hs) (JE i j N (Ht hp N h))
end
def iE:List Int->Int
 |[]=>0
 |x::r=>r.foldl (λb y=>if y<b then y else b) x
theorem G_(l:List Int)(y:Int)(h:l≠[]):iE (l++[y])=if y<iE l then y else iE l:=by
 cases l with
 |nil=>exact absurd rfl h
 |cons x r=>show(r++[y]).foldl _ x=_;rw[At];rfl
theorem El(a:List Int):∀k,k<a.length->a[kg (λi j=>decide (a.getD i 0<a.getD j 0)) k]?=aa (iE (a.take (k+1)))
 |0,h=>by
  cases a with
  |nil=>cases h
  |cons x r=>simp[kg,iE]
 |k+1,h=>by
  have b:=El a k ∅;have e:a.take (k+1+1)=a.take (k+1)++[a[k+1]]:=by rw[FO h]
  have g:=xS (λi j=>decide (a.getD i 0<a.getD j 0)) k;rw[e,G_ _ _ (by intro z;have:=congrArg lm z;rw[jk,gT]at this;lia)];unfold kg;have f:a.getD (k+1) 0=a[k+1]:=by simp[tE,h]
  have d:a.getD (kg (λi j=>decide (a.getD i 0<a.getD j 0)) k) 0=iE (a.take (k+1)):=by rw[xz,b];rfl
  rw[f,d];by_cases c:a[k+1]<iE (a.take (k+1))
  .rw[if_pos (by simpa using c),if_pos c];simp[h]
  .rw[if_neg (by simpa using c),if_neg c];exact b
section
variable{X:Cx}
theorem GK(n:X.calm=ai):fk X (.builtin "min") (λw H Q=>∃(p:af) (a:List Int),w=[.ref p]/\bP X.K H p (a.map V.int)/\a≠[]/\Q (.int (iE a)) H):=by
 intro S s A H w us Q I r h;obtain⟨p,a,rfl,J,P,q⟩:=h;obtain⟨u,rfl,D⟩:=vals1 r;cases D;obtain⟨d,l,m,hz⟩:=I.list J;have y:=l.length;rw[dD]at y;have hn:0<a.length:=by cases a with|nil=>exact absurd rfl P|cons=>simp
 refine call_min_walk (xk m.isList ?_);have W:p≠s.heap.objs.size:=by obtain⟨o,f,_⟩:=m.isList;exact cT (bo f)
 refine⟨s.heap.objs.size,_,_,_,_,_,λi j=>decide (a.getD i 0<a.getD j 0),rfl,xl (uW (I.ok.hd n)) s.heap.objs.size p W d.toArray,⟨⟨_,cf _ rfl,rfl,rfl⟩,?_⟩,?_,by rw[bJ];lia,λi j Z Y s' Q' E' M L O=>?_,λv h' C G k=>?_⟩
 .obtain⟨o,f,n,N⟩:=m.isList;exact⟨o,bh _ f,n,N⟩
 .intro b g;obtain⟨o,f,_⟩:=m.isList;have B:p<s.heap.objs.size:=bo f;have sz:∀o:Obj,(s.heap.push o).objs.size=s.heap.objs.size+1:=λo=>by simp[Heap.push]
  rcases br.mp g with rfl|g
  .show _<(s.heap.push _).objs.size;rw[sz];exact lq _
  .rw[eR.mp g];show _<(s.heap.push _).objs.size;rw[sz];exact jM B
 .obtain⟨t,rfl⟩:=z_ l M;obtain⟨t',rfl⟩:=z_ l L;exact lt_int O
 .obtain⟨t,rfl⟩:=z_ l G;have e:a.getD (kg (λi j=>decide (a.getD i 0<a.getD j 0)) (d.toArray.size-1)) 0=iE a:=by rw[bJ,<-y,xz,El a _ ∅,show a.length-1+1=a.length by lia,tN];rfl
  rw[e];have T:Inv X S A H {s with heap:=s.heap.push {cls:=.type "list_iterator",data:=.fields #[.ref p,.int 0 0]},toks:=s.toks}:=I.kept (t':=s.toks) λb o e=>bh _ e;exact⟨.int (iE a),H,Inv.turned (t':=C) T (it:=s.heap.objs.size) (λb o g e=>k b o (by simpa using g) e) I.fresh (k9 I.lt) (.inr I.sz) (λx c e z=>by obtain⟨v,E⟩:=I.cell x c e;exact absurd E.lt (by rw[z];exact eO _)) (λF K z=>absurd (bo (I.pin F K).1) (by rw[z];exact eO _)),⟨t,rfl⟩,q⟩
def sY:List PV->Option PV
 |[.lst b]=>(gF b).bind λa=>if a≠[] then aa (.int (iE a))else ae
 |_=>ae
theorem GD:PL X.K (λd H Q=>∃(p:af) (b:List Int),d=[.ref p]/\bP X.K H p (b.map V.int)/\b≠[]/\Q (.int (iE b)) H) sY:=λF H d m Q pv g e q=>by
 unfold sY at e;split at e
 .obtain⟨v,rfl,a,n,rfl,j,_,f⟩:=f_ g;obtain⟨h,l,c⟩:=AD.mp e;have:=Bs f l;subst this;split at c
  .rename_i i;cases c;exact⟨a,h,rfl,.inl j,i,q _ F H (Al.refl ..) rfl⟩
  .cases c
 .cases e
end
end Pu
local macro_rules | `(tactic| simp! [$xs,*]) => `(tactic| simp [Pu.ba, Pu.cE, Pu.dB, Pu.d2, Pu.d1, Pu.dV, Pu.dC, Pu.dL, Pu.dF, Pu.au, Pu.aA, Pu.cq, Pu.pP, Pu.bG, Pu.jY, Pu.bn, Pu.gV, Pu.gO, Pu.cb, Pu.jR, Pu.iH, Pu.c9, Pu.gu, Pu.g7, Pu.R.bind, Pu.a6, Pu.bH, Pu.eU, Pu.bL, Pu.back, Pu.ga, Pu.lH, Pu.Eh, Pu.yn, Pu.Ew, Pu.DK, Pu.bB, Pu.vL, Pu.hU, Pu.cu, Pu.c_, Pu.OC, Pu.sZ, Pu.N5, Pu.nN, Pu.zL, Pu.BV, Pu.kF, Pu.nO, Pu.y3, Pu.p7, Pu.hG, Pu.fv, Pu.p_, Pu.jX, Pu.n5, Pu.imm, Pu.wl, Pu.lO, df, lm, $xs,*])
local macro_rules | `(⇑$x) => `(.val (.int $x))
local macro_rules | `(↥$x) => `(.val (.str $x))
namespace Sh
open L2 Pu
set_option genInjectivity false in
structure Ad where
 SlitError:af
 NoText:af
 NoWidth:af
 NoView:af
 NoWindow:af
 Never:af
 Full:af
 Nothing:af
 Unlike:af
 NoPlace:af
 NoLetters:af
 BadText:af
 Seeker:af
 Slit:af
def yaf(a:Ad):ak->R aO:=cq (dL qi (au (dF (cS [1] (cD (dV 0)) (dYes) (d2 (pU aj) (dV 0) (dV 1)))) (aA)))
def wy(a:Ad):ak->R Slot:=bH 2 [] (bL 0 (yaf a))
def yai(a:Ad):ak->R aO:=cq (nO (dL iJ (au (dV 0) (au (dC (.raw (.ty "int"))) (aA)))) (zL (dL iJ (au (dV 0) (au (dC (.raw (.ty "bool"))) (aA))))))
def u7(a:Ad):ak->R Slot:=bH 1 [] (bL 0 (yai a))
def yaj(a:Ad):ak->R aO:=cq (nO (bB (bn (u7 a) (gV (dV 0) (cb)))) (p7 (hG λi j=>decide (i<=j)) (hG λi j=>decide (i<=j)) (dC (.int 1)) (dV 0) (dC (.int 4))))
def qt(a:Ad):ak->R Slot:=bH 1 [] (bL 0 (yaj a))
def yak(a:Ad):ak->R aO:=cq (nO (dL iJ (au (dV 0) (au (dC (.raw (.ty "str"))) (aA)))) (nO (d2 (eqT aj) (dL aG (au (dV 0) (aA))) (dV 1)) (bB (bn (wy a) (gV (dV 0) (gV (dV 2) (cb)))))))
def ql(a:Ad):ak->R Slot:=bH 3 [] (bL 0 (yak a))
def yad(a:Ad):ak->R aO:=ba (cE (kF (nN (dB (dL iJ (au (dV 0) (au (dC (.raw (.ty "tuple"))) (aA)))))) (nN (dB (p7 (hG λi j=>decide (i<=j)) (hG λi j=>decide (i<=j)) (dC (.int 1)) (dL aG (au (dV 0) (aA))) (dC (.int 9)))))) (cq (dC (.bl aj))) (c_))
 (ba (cE (nN (dB (dL qi (au (dF (cS [1,2] (cD (dV 0)) (dYes) (bB (bn (ql a) (gV (dV 0) (gV (dV 1) (gV (dV 2) (cb)))))))) (aA))))) (cq (dC (.bl aj))) (c_))
 (cq (d2 (eqT aj) (dF (dL qg (au (dV 0) (aA)))) (dF (dL lV (au (dV 0) (aA)))))))
def mK(a:Ad):ak->R Slot:=bH 3 [] (bL 0 (yad a))
def yah(a:Ad):ak->R aO:=ba (cE (kF (nN (dB (dL iJ (au (dV 0) (au (dC (.raw (.ty "tuple"))) (aA)))))) (dB (d2 (eqT ai) (dL aG (au (dV 0) (aA))) (dC (.int 2))))) (cq (dC (.bl aj))) (c_))
 (cq (nO (bB (bn (qt a) (gV (d2 bO (dV 0) (dC (.int 0))) (cb)))) (bB (bn (mK a) (gV (d2 bO (dV 0) (dC (.int 1))) (gV (d2 bO (dV 0) (dC (.int 0))) (gV (dV 1) (cb))))))))
def qb(a:Ad):ak->R Slot:=bH 2 [] (bL 0 (yah a))
def yag(a:Ad):ak->R aO:=pP (bn (qb a) (gV (dV 0) (gV (dC (.str [97,98,99])) (cb))))
def v9(a:Ad):ak->R Slot:=bH 1 [] (bL 0 (yag a))
def yae(a:Ad):ak->R aO:=cE (nN (dB (bB (bn (v9 a) (gV (dV 0) (cb)))))) (B8 (.ref a.NoView) (λb=>dQ ((dC (.str [97,32,118,105,101,119,32,105,115,32,97,32,116,117,112,108,101,32,111,102,32,97,32,119,105,100,116,104,32,97,110,100,32,97,32,114,105,115,105,110,103,32,116,117,112,108,101,32,111,102,32,49,32,116,111,32,57,32,119,105,110,100,111,119,115])) b))) (c_)
def rX(a:Ad):ak->R Slot:=bH 1 [] (bL 0 (yae a))
def yac(a:Ad):ak->R aO:=ba (λb=>dR (cR 2 (dL rJ (au (d2 eW (dL aG (au (dV 1) (aA))) (dC (.int 1))) (au (dC (.int 0)) (au (d1 sh (dC (.int 1))) (aA))))) (cE (dB (sd rH (dV 0) (au (dI cQ (dV 1) (eF) (dq (dV 2))) (aA)))) (cq (dI cQ (dV 1) (dq (dV 2)) (eF))) (c_)) b))
 (cq (dV 1))
def rV(a:Ad):ak->R Slot:=bH 2 [] (bL 1 (yac a))
def yaA(a:Ad):ak->R aO:=ba (bG 2 (lM qj (dV 0) (dV 1)))
 (cq (d2 pJ (dI cQ (dV 0) (eF) (dq (dV 2))) (dI cQ (dV 0) (dq (d2 pJ (dV 2) (dC (.int 1)))) (eF))))
def sj(a:Ad):ak->R Slot:=bH 2 [] (bL 1 (yaA a))
def yay(a:Ad)(rc:ak->R Slot):ak->R aO:=ba (cE (dB (d2 (eqT aj) (dL aG (au (dV 1) (aA))) (dC (.int 0)))) (cq (dC (.str []))) (c_))
 (ba (cE (dB (oO ai 2 (dL cu (au (dV 0) (au (dV 1) (aA)))))) (ba (jY 3 (dL hU (aA)))
 (ba (λb=>dR (cR 4 (cD (dF (dL jZ (au (dV 1) (aA))))) (p_ 3 (d2 bp (bB (bn (rV a) (gV (dV 0) (gV (dV 4) (cb))))) (bB (bn (rc) (gV (dV 4) (gV (bB (bn (sj a) (gV (dV 1) (gV (dV 4) (cb))))) (gO 2 (cb)))))))) b))
 (sN 2 (dL cu (au (dV 0) (au (dV 1) (aA)))) (pX 3)))) (c_))
 (cq (sX 2 (dL cu (au (dV 0) (au (dV 1) (aA)))))))
def jS(a:Ad):Nat->ak->R Slot
 |0=>bH 3 [2] (bL 2 CQ)
 |k+1=>bH 3 [2] (bL 2 (yay a (jS a k)))
def yaz(a:Ad):ak->R aO:=ba (sZ (bn (rX a) (gV (dV 0) (cb))))
 (pP (uX (jS a 10) (vK (dC (.str [])) (vK (d2 bO (dV 0) (dC (.int 1))) (gN (zn) (cb))))))
def wa(a:Ad):ak->R Slot:=bH 1 [] (bL 0 (yaz a))
def yan(a:Ad):ak->R aO:=ba (cE (dB (d2 (hG λi j=>decide (i<j)) (dV 1) (dL aG (au (dV 0) (aA))))) (cq (d2 bO (dV 0) (dV 1))) (c_))
 (ba (cE (dB (d2 (eqT aj) (dV 0) (dF (dL hU (aA))))) (cq (dC (.int 0))) (c_))
 (cq (d2 bp (d2 j0 (d2 bO (dV 0) (d2 fL (dV 1) (dL aG (au (dV 0) (aA))))) (dC (.int 31))) (dV 1))))
def p9(a:Ad):ak->R Slot:=bH 2 [] (bL 0 (yan a))
def yaq(a:Ad):ak->R aO:=ba (bG 3 (d2 fL (d2 bp (d2 bp (d2 j0 (bB (bn (p9 a) (gV (dV 0) (gV (dV 1) (cb))))) (dC (.int 1103515245))) (d2 j0 (dC (.int 7919)) (dV 1))) (dC (.int 12345))) (dC (.int 2147483647))))
 (cq (d2 fL (d2 fL (d2 fL (d2 se (dV 3) (dC (.int 5))) (dC (.int 2147483647))) (dC (.int 999983))) (dV 2)))
def ww(a:Ad):ak->R Slot:=bH 3 [] (bL 1 (yaq a))
def yao(a:Ad):ak->R aO:=ba (p_ 1 (dC (.int 0)))
 (pP (bn (ww a) (gV (dV 0) (gV (jX (λb=>n5 (aG b)) 1) (gV (dV 2) (cb))))))
def im(a:Ad):ak->R Slot:=bH 3 [1] (bL 0 (yao a))
def yas(a:Ad):ak->R aO:=cq (d2 bO (dV 2) (bB (bn (im a) (gV (dV 0) (gO 1 (gV (dL aG (au (dV 2) (aA))) (cb)))))))
def vH(a:Ad):ak->R Slot:=bH 3 [1] (bL 0 (yas a))
def yav(a:Ad):ak->R aO:=ba (bG 4 (bB (bn (vH a) (gV (dV 0) (gO 1 (gV (dF (dL hU (au (dC (.int 1)) (au (dC (.int 2)) (au (dC (.int 2)) (au (dC (.int 3)) (au (dC (.int 3)) (au (dC (.int 3)) (aA))))))))) (cb)))))))
 (ba (bG 5 (dC (.str [])))
 (ba (λb=>dR (cR 6 (dL fN (au (d2 bp (dV 2) (bB (bn (im a) (gV (dV 0) (gO 1 (gV (d2 bp (d2 eW (dV 3) (dV 2)) (dC (.int 1))) (cb))))))) (aA))) (bG 5 (d2 bp (dV 5) (d2 bO (dC (.str [97,98,99])) (bB (bn (im a) (gV (dV 0) (gO 1 (gV (dV 4) (cb))))))))) b))
 (cq (dV 5))))
def lL(a:Ad):ak->R Slot:=bH 4 [1] (bL 3 (yav a))
def yat(a:Ad):ak->R aO:=cq (dL lT (au (dF (dL lV (au (dF (cS [0,1] (dL fN (au (dL aG (au (dV 0) (aA))) (aA))) (dB (d2 (hG λi j=>decide (i<=j)) (d2 bp (dV 0) (dV 2)) (dL aG (au (dV 1) (aA))))) (dI cQ (dV 1) (dq (dV 0)) (dq (d2 bp (dV 0) (dV 2)))))) (aA)))) (aA)))
def mJ(a:Ad):ak->R Slot:=bH 2 [] (bL 0 (yat a))
def yax(a:Ad):ak->R aO:=ba (bG 4 (cE (dB (d2 (eqT ai) (dV 2) (dC (.int 2)))) (d2 bp (dC (.int 2)) (bB (bn (im a) (gV (dV 0) (gO 1 (gV (dC (.int 3)) (cb))))))) (d2 bp (dC (.int 1)) (bB (bn (im a) (gV (dV 0) (gO 1 (gV (dC (.int 4)) (cb)))))))))
 (ba (jY 5 (dL qg (au (bB (bn (mJ a) (gV (bB (bn (lL a) (gV (dV 0) (gO 1 (gV (dV 4) (gV (d2 eW (d2 bp (dV 4) (dV 3)) (dC (.int 1))) (cb))))))) (gV (dV 4) (cb))))) (aA))))
 (ba (λc=>dR (cR 6 (dL fN (au (d2 fL (dV 2) (dC (.int 3))) (aA))) (wz 5 (bB (bn (im a) (gV (dV 0) (gO 1 (gV (jX (λb=>n5 (aG b)) 5) (cb)))))) (bB (bn (lL a) (gV (dV 0) (gO 1 (gV (dV 4) (gV (dV 4) (cb)))))))) c))
 (cq (dL cu (au (dV 4) (au (dL lT (au (dF (jX (λb=>wl (lV b)) 5)) (aA))) (aA)))))))
def rj(a:Ad):ak->R Slot:=bH 4 [1] (bL 3 (yax a))
def yaw(a:Ad):ak->R aO:=ba (bG 3 (bB (bn (mJ a) (gV (dV 0) (gV (dV 1) (cb))))))
 (cq (dL qi (au (dF (cS [3,2] (cD (dV 3)) (dYes) (d2 (hG λi j=>decide (i<=j)) (lM oj (dV 1) (dV 0)) (lM oj (dV 2) (dV 0))))) (aA))))
def mP(a:Ad):ak->R Slot:=bH 3 [] (bL 1 (yaw a))
def yam(a:Ad):ak->R aO:=ba (vY 1 2 (dV 0))
 (ba (bG 3 (dF (dL hU (au (dC (.str [])) (aA)))))
 (ba (λε=>dR (cR 4 (dL fN (au (d2 eW (d2 bp (dL aG (au (dV 2) (aA))) (dV 1)) (dC (.int 1))) (aA))) (ba (jY 5 (dL hU (aA)))
 (ba (cR 6 (cD (dV 3)) (oD 5 (dF (cS [6,1,2] (cD (dC (.str [97,98,99]))) (dB (bB (bn (mP a) (gV (d2 bp (dV 1) (dV 0)) (gV (dV 2) (gV (dV 3) (cb))))))) (d2 bp (dV 1) (dV 0))))))
 (bG 3 (dM 5)))) ε))
 (uV (cS [1,2] (cD (dV 3)) (dB (d2 (eqT aj) (bB (bn (mJ a) (gV (dV 0) (gV (dV 1) (cb))))) (dV 2))) (dV 0)))))
def vz(a:Ad):ak->R Slot:=bH 1 [] (bL 6 (yam a))
def yar(a:Ad):ak->R aO:=cq (d2 bO (dF (cS [0,1] (dL oq (au (dC (.int 1)) (au (d2 bp (dL aG (au (dV 0) (aA))) (dC (.int 1))) (aA)))) (dB (d2 (eqT aj) (dI cQ (dV 1) (dq (dV 0)) (eF)) (dI cQ (dV 2) (eF) (dq (d2 eW (dL aG (au (dV 1) (aA))) (dV 0)))))) (dV 0))) (dC (.int 0)))
def n6(a:Ad):ak->R Slot:=bH 2 [] (bL 0 (yar a))
def yap(a:Ad):ak->R aO:=λb=>dR (cR 5 (dL fN (au (dL aG (au (dV 1) (aA))) (aA))) (cE (dB (d2 (eqT aj) (d2 l6 (d2 lI (dV 2) (dV 5)) (dC (.int 1))) (dC (.int 0)))) (ba (bG 6 (d2 bO (dV 1) (dV 5))) (ba (bG 7 (d2 bp (dV 3) (dI cQ (dV 6) (dq (d2 eW (dL aG (au (dV 6) (aA))) (bB (bn (n6 a) (gV (dV 4) (gV (dV 6) (cb))))))) (eF)))) (ba (bG 8 (dL cu (au (d2 nZ (dV 2) (d2 kQ (dC (.int 1)) (dV 5))) (au (dV 6) (aA))))) (ba (bG 9 (kX 0 (dV 8))) (cE (kF (dB (d2 (gH aj) (dV 9) (dC .non))) (dB (d2 kG (dL cu (au (dL aG (au (dV 7) (aA))) (au (dV 7) (aA)))) (dL cu (au (dL aG (au (dV 9) (aA))) (au (dV 9) (aA))))))) (jb 0 (dV 8) (dV 7)) (c_)))))) (c_)) b)
def rE(a:Ad):ak->R Slot:=bH 5 [0] (bL 5 (yap a))
def yau(a:Ad):ak->R aO:=ba (vY 1 2 (dV 0))
 (ba (jY 3 Ed)
 (ba (λb=>dR (cR 4 (dL fN (au (dL aG (au (dV 2) (aA))) (aA))) (jb 3 (dL cu (au (d2 kQ (dC (.int 1)) (dV 4)) (au (d2 bO (dV 2) (dV 4)) (aA)))) (d2 bO (dV 2) (dV 4))) b))
 (ba (λb=>dR (cR 5 (dL oq (au (dC (.int 1)) (au (d2 kQ (dC (.int 1)) (dL aG (au (dV 2) (aA)))) (aA)))) (cR 6 (cD (dF (dL jZ (au (dV 2) (aA))))) (ba (bG 7 (kX 3 (dL cu (au (dV 5) (au (dV 6) (aA))))))
 (cE (dB (d2 (gH ai) (dV 7) (dC .non))) (sZ (bn (rE a) (gO 3 (gV (dV 2) (gV (dV 5) (gV (dV 7) (gV (dV 6) (cb)))))))) (c_)))) b))
 (ba (bG 8 (dF (mG 3 2)))
 (ba (bG 9 (dL sY (au (dF (cS [] (cD (dV 8)) (dYes) (dL aG (au (dV 0) (aA))))) (aA))))
 (cq (dL rT (au (dF (cS [9] (cD (dV 8)) (dB (d2 (eqT aj) (dL aG (au (dV 0) (aA))) (dV 1))) (dV 0))) (aA)))))))))
def vQ(a:Ad):ak->R Slot:=bH 1 [] (bL 9 (yau a))
end Sh
local macro_rules | `(tactic| and_intros) => `(tactic| (refine' Pu.PH ?a ?l ?c ?k; (case a => k_is); (case l => k_is); (case c => k_is); (case k => k_is)))
namespace K12
open L2 Pu Sh
def dS(i:Nat):bi:=PySem.Challenge.pw_slitview_k12_whole_shortest.main.body.getD i (.Pass ⟨0,0,0,0⟩)
abbrev x_:bi:=dS 21
abbrev xR:bi:=dS 22
abbrev yT:bi:=dS 23
abbrev uY:bi:=dS 26
abbrev zT:bi:=dS 24
abbrev yJ:bi:=dS 25
abbrev yt:bi:=dS 27
abbrev yw:bi:=dS 8
abbrev z7:bi:=dS 9
abbrev vp:bi:=dS 7
abbrev zD:bi:=dS 10
abbrev vt:bi:=dS 11
abbrev zu:bi:=dS 12
abbrev y8:bi:=dS 13
abbrev z8:bi:=dS 14
abbrev yG:bi:=dS 16
abbrev zR:bi:=dS 17
abbrev yF:bi:=dS 18
abbrev zr:bi:=dS 19
abbrev vT:bi:=dS 28
abbrev yv:bi:=dS 30
abbrev pQ:bi:=dS 29
abbrev wC:bi:=dS 31
abbrev rA:bi:=dS 32
abbrev rk:bi:=dS 33
def sH(a:Ad):List af:=[a.NoView]
structure dJ(K:ax)(mg:Str->Option ah)(base:aB)(a:Ad):Prop where
 yan:c7 K mg "_law_cell_at" x_
 yaq:c7 K mg "_law_mixed" xR
 yao:c7 K mg "_law_draw" yT
 yat:c7 K mg "_law_seen" uY
 yas:c7 K mg "_law_pick" zT
 yav:c7 K mg "_law_text" yJ
 yax:c7 K mg "_law_view" yt
 yai:c7 K mg "is_whole_number" yw
 yaj:c7 K mg "is_width" z7
 yaf:c7 K mg "has_only" vp
 yak:c7 K mg "is_window" zD
 yad:c7 K mg "are_windows" vt
 yah:c7 K mg "is_view_with" zu
 yag:c7 K mg "is_view" y8
 yae:c7 K mg "check_view" z8
 yac:c7 K mg "added_letters" yG
 yaA:c7 K mg "without" zR
 yay:c7 K mg "least_ending" yF
 yaz:c7 K mg "shortest" zr
 yar:c7 K mg "_law_over" vT
 yap:c7 K mg "_law_go_on" yv
 yau:c7 K mg "_law_short" pQ
 yaw:c7 K mg "_law_under" wC
 yam:c7 K mg "_law_all" rA
 yal:c7 K mg "law" rk
 yaC:mg "all"=ae
 yaD:mg "bool"=ae
 yaE:mg "int"=ae
 yaF:mg "isinstance"=ae
 yaG:mg "len"=ae
 yaH:mg "list"=ae
 yaI:mg "min"=ae
 yaJ:mg "range"=ae
 yaK:mg "set"=ae
 yaL:mg "sorted"=ae
 yaM:mg "str"=ae
 yaN:mg "tuple"=ae
 yaP:∃t,mg "LETTERS"=aa (.str (tS [97,98,99]) t)
 yaQ:∃t,mg "MOST_WINDOWS"=aa (.int 9 t)
 yaR:∃t,mg "WIDEST"=aa (.int 4 t)
 yab:mg "SlitError"=aa (.ref a.SlitError)
 yaa:mg "NoView"=aa (.ref a.NoView)
 yaO:OwnCls "NoView" a.NoView [.type "ValueError",.type "Exception",.type "BaseException",.type "object"] "ValueError.__new__" mg base
 yaB:∃c T,zK K mg "least_ending" c T
section
variable{P:aL}{w:aE}{K:ax}{d:Str->Option ah}{b:aB}{a:Ad}
theorem MB:cJ ["_law_script","_law_k"] ["_law_script","_law_k"] (bd x_):=by ac_nf
theorem MP(G:dJ K d b a):c8 (cH P w) P w K d b "_law_cell_at" 1 ["_law_script","_law_k"] (ce K (p9 a)) :=
 d4 (k:=0) (pin:=[]) G.yan MB rfl (λ_ _ _ _ _ _ g i=>Pu.PJ (λ_ _=>rfl) g i) (λf j A c s H E h=>by exact
  (bM (iG (g9 Ny oF (ar 1) (cO d9 d_ G.yaG d7 (aK (ar 0) a9)) rfl) (bE (dw (g8 gM il (ar 0) (ar 1)))) iB)
  (bM (iG (g9 (j3 h.units) jT (ar 0) (we a9) rfl) (bE (dw bz)) iB)
  (bE (dw (bV gb f8 (bV yQ yB (g8 gM il (ar 0) (bV pO qv (ar 1) (cO d9 d_ G.yaG d7 (aK (ar 0) a9)))) bz) (ar 1)))))))
theorem LP:cJ ["_law_script","_law_k","_law_many","_law_drawn"] ["_law_script","_law_k","_law_many"] (bd xR):=by ac_nf
theorem Gs(G:dJ K d b a):c8 (cH P w) P w K d b "_law_mixed" 2 ["_law_script","_law_k","_law_many"] (ce K (ww a)) :=
 d4 (k:=1) (pin:=[]) G.yaq LP rfl (λ_ _ _ _ _ _ g i=>Pu.PZ (λ_ _ _=>rfl) g i) (λf j A c s H E h=>by exact
  (bM (eT 3 LP.nd (bV pO qv (bV gb f8 (bV gb f8 (bV yQ yB ((cB (MP G) (h.mono (by decide)) eC (aY (ar 0) (aY (ar 1) cr)))).de bz) (bV yQ yB bz (ar 1))) bz) bz))
  (bE (dw (bV pO qv (bV pO qv (bV pO qv (bV Np O_ (ar 3) bz) bz) bz) (ar 2))))))
theorem Of:cJ ["_law_script","_law_town","_law_many"] ["_law_script","_law_town","_law_many"] (bd yT):=by ac_nf
theorem mD(G:dJ K d b a):c8 (cH P w) P w K d b "_law_draw" 3 ["_law_script","_law_town","_law_many"] (ce K (im a)) :=
 d4 (k:=2) (pin:=[1]) G.yao Of rfl (λ_ _ _ _ _ _ g i=>Pu.PZ (λ_ _ _=>rfl) g i) (λf j A c s H E h=>by exact
  (bM (Dj 1 bz)
  (bE (xU (cB (Gs G) (h.mono (by decide)) eC (aY (ar 0) (aY (D0 1 d9 d_ G.yaG d7) (aY (ar 2) cr))))))))
theorem NJ:cJ ["_law_text_here","_law_width"] ["_law_text_here","_law_width"] (bd uY):=by ac_nf
theorem xW(G:dJ K d b a):c8 (cH P w) P w K d b "_law_seen" 1 ["_law_text_here","_law_width"] (ce K (mJ a)) :=
 d4 (k:=0) (pin:=[]) G.yat NJ rfl (λ_ _ _ _ _ _ i l=>Pu.PJ (λ_ _=>rfl) i l) (λf o A h s H E n=>by exact
  (bE (dw (z5 zG zJ G.yaN rW (aK (yk ve wA G.yaL su (aK (kD (cap:=[0,1]) (N':=["_law_at","_law_text_here","_law_width"]) (iD.of ["_law_text_here","_law_width"] (bd uY) rfl rfl (by decide +kernel)) rfl (nR G.yaJ (aK (cO d9 d_ G.yaG d7 (aK (ar 0) a9)) a9)) (λC c g m j=>by exact sx (g9 pG oF (bV gb f8 (ar 0) (ar 2)) (cO d9 d_ G.yaG d7 (aK (ar 1) a9)) rfl)) (λC c g m j=>by exact(mO mT mQ (ar 1) (lK (ar 0)) (lK (bV gb f8 (ar 0) (ar 2)))))).de a9)).de a9)))))
theorem LU:cJ ["_law_script","_law_town","_law_some"] ["_law_script","_law_town","_law_some"] (bd zT):=by ac_nf
theorem OR(G:dJ K d b a):c8 (cH P w) P w K d b "_law_pick" 4 ["_law_script","_law_town","_law_some"] (ce K (vH a)) :=
 d4 (k:=3) (pin:=[1]) G.yas LU rfl (λ_ _ _ _ _ _ g i=>Pu.PZ (λ_ _ _=>rfl) g i) (λf j A c s H E h=>by exact
  (bE (dw (g8 gM il (ar 2) ((cB (mD G) (h.mono (by decide)) eC (aY (ar 0) (g_ 1 (aY (cO d9 d_ G.yaG d7 (aK (ar 2) a9)) cr))))).de))))
theorem OY:cJ ["_law_script","_law_town","_law_low","_law_most","_law_few","_law_made","_law_k"] ["_law_script","_law_town","_law_low","_law_most"] (bd yJ):=by ac_nf
theorem ye(G:dJ K d b a):c8 (cH P w) P w K d b "_law_text" 5 ["_law_script","_law_town","_law_low","_law_most"] (ce K (lL a)) :=
 d4 (k:=4) (pin:=[1]) G.yav OY rfl (λ_ _ _ _ _ _ h i=>Pu.Qd (λ_ _ _ _=>rfl) h i) (λf j A c s H E g=>by exact
  (bM (eT 4 OY.nd ((cB (OR G) (g.mono (by decide)) eC (aY (ar 0) (g_ 1 (aY (we (aK bz (aK bz (aK bz (aK bz (aK bz (aK bz a9))))))) cr))))).de)
  (bM (eT 5 OY.nd (oM []))
  (bM (mH (kN 6 mn rfl OY.nd (nR G.yaJ (aK (bV gb f8 (ar 2) ((cB (mD G) (g.mono (by decide)) ji (aY (ar 0) (g_ 1 (aY (bV gb f8 (bV pL pN (ar 3) (ar 2)) bz) cr))))).de) a9)) (bE (eT 5 OY.nd (bV gb f8 (ar 5) (g8 gM il (oM [97,98,99]) ((cB (mD G) (g.mono (by decide)) ji (aY (ar 0) (g_ 1 (aY (ar 4) cr))))).de))))))
  (bE (dw (ar 5)))))))
theorem N4:cJ ["_law_script","_law_town","_law_spoil","_law_most","_law_width","_law_windows","_law_k"] ["_law_script","_law_town","_law_spoil","_law_most"] (bd yt):=by ac_nf
theorem Nh(G:dJ K d b a):c8 (cH P w) P w K d b "_law_view" 6 ["_law_script","_law_town","_law_spoil","_law_most"] (ce K (rj a)) :=
 d4 (k:=5) (pin:=[1]) G.yax N4 rfl (λ_ _ _ _ _ _ h i=>Pu.Qd (λ_ _ _ _=>rfl) h i) (λf j A g s H E c=>by exact
  (bM (eT 4 N4.nd (LM (g9 (yf c.units) zb (ar 2) bz rfl) (bV gb f8 bz ((cB (mD G) (c.mono (by decide)) eC (aY (ar 0) (g_ 1 (aY bz cr))))).de) (bV gb f8 bz ((cB (mD G) (c.mono (by decide)) eC (aY (ar 0) (g_ 1 (aY bz cr))))).de)))
  (bM (sG 5 N4.nd (CZ E2 Dr G.yaH Cd (aK ((cB (xW G) (c.mono (by decide)) eC (aY ((cB (ye G) (c.mono (by decide)) eC (aY (ar 0) (g_ 1 (aY (ar 4) (aY (bV pL pN (bV gb f8 (ar 4) (ar 3)) bz) cr)))))).de (aY (ar 4) cr)))).de a9)))
  (bM (mH (kN 6 mn rfl N4.nd (nR G.yaJ (aK (bV pO qv (ar 2) bz) a9)) (bE (Mc 5 ((cB (mD G) (c.mono (by decide)) ji (aY (ar 0) (g_ 1 (aY (D0 5 d9 d_ G.yaG d7) cr))))).de ((cB (ye G) (c.mono (by decide)) ji (aY (ar 0) (g_ 1 (aY (ar 4) (aY (ar 4) cr)))))).de))))
  (bE (dw (kJ (aK (ar 4) (aK (z5 zG zJ G.yaN rW (aK (Mm 5 ve wA G.yaL su).de a9)) a9)))))))))
theorem JM:cJ ["thing"] ["thing"] (bd yw):=by ac_nf
theorem Hr(G:dJ K d b a):c8 (cH P w) P w K d b "is_whole_number" 1 ["thing"] (ce K (u7 a)) :=
 d4 (k:=0) (pin:=[]) G.yai JM rfl (λ_ _ _ _ _ _ g h=>Pu.P5 (λ_=>rfl) g h) (λf j A c s H E i=>by exact
  (bE (dw (sI (cO rF sr G.yaF sB (aK (ar 0) (aK (rM G.yaE Ma) a9))) (rn (M9 (cO rF sr G.yaF sB (aK (ar 0) (aK (rM G.yaD LZ) a9)))))))))
theorem N3:cJ ["thing"] ["thing"] (bd z7):=by ac_nf
theorem JF(G:dJ K d b a):c8 (cH P w) P w K d b "is_width" 2 ["thing"] (ce K (qt a)) :=
 d4 (k:=1) (pin:=[]) G.yaj N3 rfl (λ_ _ _ _ _ _ g i=>Pu.P5 (λ_=>rfl) g i) (λf j A c s H E h=>by exact
  (bE (dw (sI ((cB (Hr G) (h.mono (by decide)) eC (aY (ar 0) cr))).de (rn (OE pG pG oF oF bz (ar 0) (Ep G.yaR)))))))
theorem HN:cJ ["text","signs"] ["text","signs"] (bd vp):=by ac_nf
theorem LW(G:dJ K d b a):c8 (cH P w) P w K d b "has_only" 1 ["text","signs"] (ce K (wy a)) :=
 d4 (k:=0) (pin:=[]) G.yaf HN rfl (λ_ _ _ _ _ _ i l=>Pu.PJ (λ_ _=>rfl) i l) (λf o A h s H E n=>by exact
  (bE (dw (cO (zO rfl) Aa G.yaC zY (aK (kD (cap:=[1]) (N':=["sign","signs"]) (iD.of ["text","signs"] (bd vp) rfl rfl (by decide +kernel)) rfl (kZ (ar 0)) (λC c g m j=>by exact rN) (λC c g m j=>by exact(qm NA GL (ar 0) (ar 1) rfl))).de a9)))))
theorem HV:cJ ["thing","width","signs"] ["thing","width","signs"] (bd zD):=by ac_nf
theorem Jp(G:dJ K d b a):c8 (cH P w) P w K d b "is_window" 2 ["thing","width","signs"] (ce K (ql a)) :=
 d4 (k:=1) (pin:=[]) G.yak HV rfl (λ_ _ _ _ _ _ h i=>Pu.PZ (λ_ _ _=>rfl) h i) (λf j A c s H E g=>by exact
  (bE (dw (sI (cO rF sr G.yaF sB (aK (ar 0) (aK (rM G.yaM Kl) a9))) (sI (qm (j3 g.units) jT (cO d9 d_ G.yaG d7 (aK (ar 0) a9)) (ar 1) rfl) (rn ((cB (LW G) (g.mono (by decide)) eC (aY (ar 0) (aY (ar 2) cr)))).de))))))
theorem Nc:cJ ["thing","width","signs"] ["thing","width","signs"] (bd vt):=by ac_nf
theorem Kd(G:dJ K d b a):c8 (cH P w) P w K d b "are_windows" 3 ["thing","width","signs"] (ce K (mK a)) :=
 d4 (k:=2) (pin:=[]) G.yad Nc rfl (λ_ _ _ _ _ _ j m=>Pu.PZ (λ_ _ _=>rfl) j m) (λf o A h s H E i=>by exact
  (bM (iG ((yh (rP (qw (cO rF sr G.yaF sB (aK (ar 0) (aK (rM G.yaN rW) a9))))) (yb (rP (HQ pG pG oF oF bz (cO d9 d_ G.yaG d7 (aK (ar 0) a9)) (Ep G.yaQ)))))).dt (bE (dw vO)) iB)
  (bM (iG (rP (qw (cO (zO rfl) Aa G.yaC zY (aK (kD (cap:=[1,2]) (N':=["window","width","signs"]) (iD.of ["thing","width","signs"] (bd vt) rfl rfl (by decide +kernel)) rfl (kZ (ar 0)) (λC c g n l=>by exact rN) (λC c g n l=>by exact((cB (Jp G) (i.mono (by decide)) ji (aY (ar 0) (aY (ar 1) (aY (ar 2) cr))))).de)).de a9)))) (bE (dw vO)) iB)
  (bE (dw (qm (j3 i.units) jT (CZ E2 Dr G.yaH Cd (aK (ar 0) a9)).de (yk ve wA G.yaL su (aK (ar 0) a9)).de rfl))))))
theorem Gz:cJ ["thing","signs"] ["thing","signs"] (bd zu):=by ac_nf
theorem HW(G:dJ K d b a):c8 (cH P w) P w K d b "is_view_with" 4 ["thing","signs"] (ce K (qb a)) :=
 d4 (k:=3) (pin:=[]) G.yah Gz rfl (λ_ _ _ _ _ _ h i=>Pu.PJ (λ_ _=>rfl) h i) (λf j A c s H E g=>by exact
  (bM (iG ((yh (rP (qw (cO rF sr G.yaF sB (aK (ar 0) (aK (rM G.yaN rW) a9))))) (yb (g9 (yf g.units) zb (cO d9 d_ G.yaG d7 (aK (ar 0) a9)) bz rfl)))).dt (bE (dw vO)) iB)
  (bE (dw (sI ((cB (JF G) (g.mono (by decide)) eC (aY (g8 gM il (ar 0) bz) cr))).de (rn ((cB (Kd G) (g.mono (by decide)) eC (aY (g8 gM il (ar 0) bz) (aY (g8 gM il (ar 0) bz) (aY (ar 1) cr))))).de))))))
theorem Hf:cJ ["thing"] ["thing"] (bd y8):=by ac_nf
theorem M_(G:dJ K d b a):c8 (cH P w) P w K d b "is_view" 5 ["thing"] (ce K (v9 a)) :=
 d4 (k:=4) (pin:=[]) G.yag Hf rfl (λ_ _ _ _ _ _ g i=>Pu.P5 (λ_=>rfl) g i) (λf j A c s H E h=>by exact
  (bE (xU (cB (HW G) (h.mono (by decide)) eC (aY (ar 0) (aY (NZ G.yaP) cr))))))
theorem O3:cJ ["thing"] ["thing"] (bd z8):=by ac_nf
theorem Nv(G:dJ K d b a):c8 (cH P w) P w K d b "check_view" 6 ["thing"] (ce K (rX a)) :=
 d4 (k:=5) (pin:=[]) G.yae O3 rfl (λ_ _ _ _ _ _ g i=>Pu.P5 (λ_=>rfl) g i) (λf j A c s H E h=>by exact
  (bE (iG (rP (qw ((cB (M_ G) (h.mono (by decide)) eC (aY (ar 0) cr))).de)) (bE (LC Hn rfl G.yaO PySem.F.excBase_ValueError (oM [97,32,118,105,101,119,32,105,115,32,97,32,116,117,112,108,101,32,111,102,32,97,32,119,105,100,116,104,32,97,110,100,32,97,32,114,105,115,105,110,103,32,116,117,112,108,101,32,111,102,32,49,32,116,111,32,57,32,119,105,110,100,111,119,115]))) iB)))
theorem MU:cJ ["ahead","window","shared"] ["ahead","window"] (bd yG):=by ac_nf
theorem M6(G:dJ K d b a):c8 (cH P w) P w K d b "added_letters" 1 ["ahead","window"] (ce K (rV a)) :=
 d4 (k:=0) (pin:=[]) G.yac MU rfl (λ_ _ _ _ _ _ g h=>Pu.PJ (λ_ _=>rfl) g h) (λf j A c s H E i=>by exact
  (bM (mH (kN 2 mn rfl MU.nd (Hl G.yaJ (aK (bV pL pN (cO d9 d_ G.yaG d7 (aK (ar 1) a9)) bz) (aK bz (aK (Lm Jk Oh bz) a9)))) (bE (iG (qw (J9 PySem.F.slot_str_endswith PySem.F.type_str_endswith GY On (ar 0) (aK (mO mT mQ (ar 1) oy (lK (ar 2))) a9))) (bE (dw (mO mT mQ (ar 1) (lK (ar 2)) oy))) iB))))
  (bE (dw (ar 1)))))
theorem L3:cJ ["windows","window","place"] ["windows","window"] (bd zR):=by ac_nf
theorem Lb(G:dJ K d b a):c8 (cH P w) P w K d b "without" 1 ["windows","window"] (ce K (sj a)) :=
 d4 (k:=0) (pin:=[]) G.yaA L3 rfl (λ_ _ _ _ _ _ g h=>Pu.PJ (λ_ _=>rfl) g h) (λf j A c s H E i=>by exact
  (bM (eT 2 L3.nd (J8 (ar 0) (ar 1)))
  (bE (dw (bV BU BG (mO mT mQ (ar 0) oy (lK (ar 2))) (mO mT mQ (ar 0) (lK (bV BU BG (ar 2) bz)) oy))))))
theorem CB:cJ ["ahead","left","known","endings","window"] ["ahead","left","known"] (bd yF):=by ac_nf
theorem G3(G:dJ K d b a)(m:Nat):c8 (cH P w) P w K d b "least_ending" (2+m) ["ahead","left","known"] (ce K (jS a m)):=by
 induction m with
 |zero=>exact d4 (k:=1) (pin:=[2]) G.yay CB rfl (λ_ _ _ _ _ _ i j=>Pu.PZ (λ_ _ _=>rfl) i j) (λf o A h s H E g=>Oj)
 |succ m n=>exact Nw (k:=2+m) (pin:=[2]) G.yaB (by decide) G.yay CB rfl (λ_ _ _ _ _ _ i j=>Pu.PZ (λ_ _ _=>rfl) i j) (λf o c T A h s H E g l=>by exact
  (bM (iG (g9 (j3 g.units) jT (cO d9 d_ G.yaG d7 (aK (ar 1) a9)) bz rfl) (bE (dw (oM []))) iB)
  (bM (iG (GT 2 g.units (kJ (aK (ar 0) (aK (ar 1) a9)))) (bM (sG 3 CB.nd (vk a9))
  (bM (mH (kN 4 mn rfl CB.nd (kZ (BS rfl (aK (ar 1) a9) G.yaL G.yaK).de) (bE (Dj 3 (bV gb f8 ((cB (M6 G) (g.mono ∅) ji (aY (ar 0) (aY (ar 4) cr)))).de ((cB n (g.mono ∅) ji (aY (ar 4) (aY ((cB (Lb G) (g.mono ∅) ji (aY (ar 1) (aY (ar 4) cr)))).de (g_ 2 cr))))).de)))))
  (bE (MY 2 g.units (kJ (aK (ar 0) (aK (ar 1) a9))) (Ik 3 rfl g.d1 g.units (by first|exact l|exact vB.nox l) G.yaI G.yaG))))) iB)
  (bE (dw (Ox 2 g.units (kJ (aK (ar 0) (aK (ar 1) a9)))))))))
theorem Kq:cJ ["view"] ["view"] (bd zr):=by ac_nf
theorem N8(G:dJ K d b a):c8 (cH P w) P w K d b "shortest" 13 ["view"] (ce K (wa a)) :=
 d4 (k:=12) (pin:=[]) G.yaz Kq rfl (λ_ _ _ _ _ _ h i=>Pu.P5 (λ_=>rfl) h i) (λf j A c s H E g=>by exact
  (bM (Bn (cB (Nv G) (g.mono (by decide)) eC (aY (ar 0) cr)))
  (bE (xU (Ng (G3 G 10) (g.mono (by decide)) eC (BD (oM []) (BD (g8 gM il (ar 0) bz) (IW (Pa) cr))))))))
theorem Mf:cJ ["_law_one","_law_other"] ["_law_one","_law_other"] (bd vT):=by ac_nf
theorem K6(G:dJ K d b a):c8 (cH P w) P w K d b "_law_over" 1 ["_law_one","_law_other"] (ce K (n6 a)) :=
 d4 (k:=0) (pin:=[]) G.yar Mf rfl (λ_ _ _ _ _ _ i m=>Pu.PJ (λ_ _=>rfl) i m) (λf o A h s H E l=>by exact
  (bE (dw (g8 gM il (kD (cap:=[0,1]) (N':=["_law_many","_law_one","_law_other"]) (iD.of ["_law_one","_law_other"] (bd vT) rfl rfl (by decide +kernel)) rfl (C6 G.yaJ (aK bz (aK (bV gb f8 (cO d9 d_ G.yaG d7 (aK (ar 0) a9)) bz) a9))) (λC c g n j=>by exact sx (g9 (j3 l.units) jT (mO mT mQ (ar 1) (lK (ar 0)) oy) (mO mT mQ (ar 2) oy (lK (bV pL pN (cO d9 d_ G.yaG d7 (aK (ar 1) a9)) (ar 0)))) rfl)) (λC c g n j=>by exact(ar 0))).de bz))))
theorem HE:cJ ["_law_best","_law_windows","_law_mask","_law_text_here","_law_last","_law_at","_law_window","_law_longer","_law_key","_law_old"] ["_law_best","_law_windows","_law_mask","_law_text_here","_law_last"] (bd yv):=by ac_nf
theorem HZ(G:dJ K d b a):c8 (cH P w) P w K d b "_law_go_on" 2 ["_law_best","_law_windows","_law_mask","_law_text_here","_law_last"] (ce K (rE a)) :=
 d4 (k:=1) (pin:=[0]) G.yap HE rfl (λ_ _ _ _ _ _ h i=>Pu.PX (λ_ _ _ _ _=>rfl) h i) (λf j A g s H E c=>by exact
  (bE (mH (kN 5 mn rfl HE.nd (nR G.yaJ (aK (cO d9 d_ G.yaG d7 (aK (ar 1) a9)) a9)) (bE (iG (g9 (j3 c.units) jT (bV HD Ip (bV IU Oq (ar 2) (ar 5)) bz) bz rfl) (bM (eT 6 HE.nd (g8 gM il (ar 1) (ar 5)))
  (bM (eT 7 HE.nd (bV gb f8 (ar 3) (mO mT mQ (ar 6) (lK (bV pL pN (cO d9 d_ G.yaG d7 (aK (ar 6) a9)) ((cB (K6 G) (c.mono (by decide)) ji (aY (ar 4) (aY (ar 6) cr)))).de)) oy)))
  (bM (eT 8 HE.nd (kJ (aK (bV K5 HF (ar 2) (bV u0 yc bz (ar 5))) (aK (ar 6) a9))))
  (bM (eT 9 HE.nd (DB 0 c.units (ar 8)))
  (bE (iG ((yh (g9 Gv NG (ar 9) Bl rfl) (yb (g9 (J5 (w_ (Nat.le_add_right _ 64) c.units)) Pf (kJ (aK (cO d9 d_ G.yaG d7 (aK (ar 7) a9)) (aK (ar 7) a9))) (kJ (aK (cO d9 d_ G.yaG d7 (aK (ar 9) a9)) (aK (ar 9) a9))) rfl)))).dt (bE (E4 0 c.units (ar 8) (ar 7))) iB)))))) iB))))))
theorem OT:cJ ["_law_asked","_law_width","_law_windows","_law_best","_law_at","_law_mask","_law_last","_law_text_here","_law_ends","_law_long"] ["_law_asked"] (bd pQ):=by ac_nf
theorem Og(G:dJ K d b a):c8 (cH P w) P w K d b "_law_short" 3 ["_law_asked"] (ce K (vQ a)) :=
 d4 (k:=2) (pin:=[]) G.yau OT rfl (λ_ _ _ _ _ _ m n=>Pu.P5 (λ_=>rfl) m n) (λf o A j s H E h=>by exact
  (bM (EO 1 2 rfl OT.nd (ar 0))
  (bM (sG 3 OT.nd IQ)
  (bM (mH (kN 4 mn rfl OT.nd (nR G.yaJ (aK (cO d9 d_ G.yaG d7 (aK (ar 2) a9)) a9)) (bE (E4 3 h.units (kJ (aK (bV u0 yc bz (ar 4)) (aK (g8 gM il (ar 2) (ar 4)) a9))) (g8 gM il (ar 2) (ar 4))))))
  (bM (mH (kN 5 mn rfl OT.nd (C6 G.yaJ (aK bz (aK (bV u0 yc bz (cO d9 d_ G.yaG d7 (aK (ar 2) a9))) a9))) (bE (kN 6 mn rfl OT.nd (kZ (BS rfl (aK (ar 2) a9) G.yaL G.yaK).de) (bM (eT 7 OT.nd (DB 3 h.units (kJ (aK (ar 5) (aK (ar 6) a9)))))
  (bE (iG (g9 Jw NK (ar 7) Bl rfl) (bE (Bn (cB (HZ G) (h.mono (by decide)) ji (g_ 3 (aY (ar 2) (aY (ar 5) (aY (ar 7) (aY (ar 6) cr)))))))) iB)))))))
  (bM (Hv 8 3 2 OT.nd (iD.of ["_law_asked","_law_width","_law_windows","_law_best","_law_at","_law_mask","_law_last","_law_text_here","_law_ends","_law_long"] (bd pQ) rfl rfl (by decide +kernel)) rfl h.units G.yaG)
  (bM (eT 9 OT.nd (cO (GK rfl) GD G.yaI A9 (aK (kD (cap:=[]) (N':=["_law_text_here"]) (iD.of ["_law_asked","_law_width","_law_windows","_law_best","_law_at","_law_mask","_law_last","_law_text_here","_law_ends","_law_long"] (bd pQ) rfl rfl (by decide +kernel)) rfl (kZ (ar 8)) (λC c g l i=>by exact rN) (λC c g l i=>by exact(cO d9 d_ G.yaG d7 (aK (ar 0) a9)))).de a9)))
  (bE (dw (cO (Hq rfl) Lh G.yaI A9 (aK (kD (cap:=[9]) (N':=["_law_text_here","_law_long"]) (iD.of ["_law_asked","_law_width","_law_windows","_law_best","_law_at","_law_mask","_law_last","_law_text_here","_law_ends","_law_long"] (bd pQ) rfl rfl (by decide +kernel)) rfl (kZ (ar 8)) (λC c g l i=>by exact sx (g9 (j3 h.units) jT (cO d9 d_ G.yaG d7 (aK (ar 0) a9)) (ar 1) rfl)) (λC c g l i=>by exact(ar 0))).de a9)))))))))))
theorem GZ:cJ ["_law_text_here","_law_width","_law_windows","_law_made"] ["_law_text_here","_law_width","_law_windows"] (bd wC):=by ac_nf
theorem K_(G:dJ K d b a):c8 (cH P w) P w K d b "_law_under" 2 ["_law_text_here","_law_width","_law_windows"] (ce K (mP a)) :=
 d4 (k:=1) (pin:=[]) G.yaw GZ rfl (λ_ _ _ _ _ _ i m=>Pu.PZ (λ_ _ _=>rfl) i m) (λf o A h s H E l=>by exact
  (bM (eT 3 GZ.nd ((cB (xW G) (l.mono (by decide)) eC (aY (ar 0) (aY (ar 1) cr)))).de)
  (bE (dw (cO (zO rfl) Aa G.yaC zY (aK (kD (cap:=[3,2]) (N':=["_law_window","_law_made","_law_windows"]) (iD.of ["_law_text_here","_law_width","_law_windows","_law_made"] (bd wC) rfl rfl (by decide +kernel)) rfl (kZ (ar 3)) (λC c g n j=>by exact rN) (λC c g n j=>by exact(qm pG oF (Dm (ar 1) (ar 0)) (Dm (ar 2) (ar 0)) rfl))).de a9))))))
theorem ID:cJ ["_law_asked","_law_width","_law_windows","_law_rows","_law_k","_law_longer","_law_line"] ["_law_asked"] (bd rA):=by ac_nf
theorem Ij(G:dJ K d b a):c8 (cH P w) P w K d b "_law_all" 3 ["_law_asked"] (ce K (vz a)) :=
 d4 (k:=2) (pin:=[]) G.yam ID rfl (λ_ _ _ _ _ _ m n=>Pu.P5 (λ_=>rfl) m n) (λf o A i s H E j=>by exact
  (bM (EO 1 2 rfl ID.nd (ar 0))
  (bM (eT 3 ID.nd (we (aK (oM []) a9)))
  (bM (mH (kN 4 mn rfl ID.nd (nR G.yaJ (aK (bV pL pN (bV gb f8 (cO d9 d_ G.yaG d7 (aK (ar 2) a9)) (ar 1)) bz) a9)) (bM (sG 5 ID.nd (vk a9))
  (bM (kN 6 mn rfl ID.nd (kZ (ar 3)) (bE (J3 5 (kD (cap:=[6,1,2]) (N':=["_law_letter","_law_line","_law_width","_law_windows"]) (iD.of ["_law_asked","_law_width","_law_windows","_law_rows","_law_k","_law_longer","_law_line"] (bd rA) rfl rfl (by decide +kernel)) rfl (kZ (oM [97,98,99])) (λC c g l h=>by exact sx (qw ((cB (K_ G) (j.mono (by decide)) ji (aY (bV gb f8 (ar 1) (ar 0)) (aY (ar 2) (aY (ar 3) cr))))).de)) (λC c g l h=>by exact(bV gb f8 (ar 1) (ar 0)))).de)))
  (bE (eT 3 ID.nd (OO 5)))))))
  (bE (Kh (kD (cap:=[1,2]) (N':=["_law_line","_law_width","_law_windows"]) (iD.of ["_law_asked","_law_width","_law_windows","_law_rows","_law_k","_law_longer","_law_line"] (bd rA) rfl rfl (by decide +kernel)) rfl (kZ (ar 3)) (λC c g l h=>by exact sx (g9 (j3 j.units) jT ((cB (xW G) (j.mono (by decide)) ji (aY (ar 0) (aY (ar 1) cr)))).de (ar 2) rfl)) (λC c g l h=>by exact(ar 0)))))))))
def yal(a:Ad):ak->R aO:=ba (jY 1 (dL hU (aA)))
 (ba (bG 2 (bB (bn (im a) (gV (dV 0) (gO 1 (gV (dC (.int 4)) (cb)))))))
 (ba (bG 3 (bB (bn (im a) (gV (dV 0) (gO 1 (gV (dC (.int 3)) (cb)))))))
 (ba (bG 4 (bB (bn (rj a) (gV (dV 0) (gO 1 (gV (dV 3) (gV (dC (.int 7)) (cb))))))))
 (ba (cE (dB (d2 (eqT aj) (dV 2) (dC (.int 0)))) (ba (bG 5 (d2 bO (dV 4) (dC (.int 0))))
 (bG 4 (dL cu (au (dV 5) (au (dL lT (au (dF (dL lV (au (dF (cS [0,1,5] (dL fN (au (dL aG (au (d2 bO (dV 4) (dC (.int 1))) (aA))) (aA))) (dYes) (bB (bn (lL a) (gV (dV 1) (gO 2 (gV (dV 3) (gV (dV 3) (cb))))))))) (aA)))) (aA))) (aA)))))) (c_))
 (ba (bG 6 (bB (bn (wa a) (gV (dV 4) (cb)))))
 (ba (cE (dB (d2 (eqT ai) (dV 6) (bB (bn (vQ a) (gV (dV 4) (cb)))))) (cq (dC (.bl aj))) (c_))
 (ba (bG 7 (bB (bn (vz a) (gV (dV 4) (cb)))))
 (cq (y3 (d2 (eqT aj) (dV 7) (dF (dL hU (aA)))) (d2 (eqT aj) (dV 6) (d2 bO (dV 7) (dC (.int 0)))))))))))))
def rO(a:Ad):ak->R Slot:=bH 1 [] (bL 7 (yal a))
theorem Ll:cJ ["_law_script","_law_town","_law_way","_law_spoil","_law_asked","_law_width","_law_made","_law_exact"] ["_law_script"] (bd rk):=by ac_nf
theorem K4(G:dJ K d b a){f:af}{j:gw}(p:n_ K "law" "law" rk f j):jU P w K d b (cH P w) 14 f j ["_law_script"] (ce K (rO a)) :=
 JT (k:=13) (pin:=[]) p Ll rfl (λ_ _ _ _ _ _ l n=>Pu.P5 (λ_=>rfl) l n) (λf q A i s H E c=>by exact
  (bM (sG 1 Ll.nd (vk a9))
  (bM (eT 2 Ll.nd ((cB (mD G) (c.mono (by decide)) eC (aY (ar 0) (g_ 1 (aY bz cr))))).de)
  (bM (eT 3 Ll.nd ((cB (mD G) (c.mono (by decide)) eC (aY (ar 0) (g_ 1 (aY bz cr))))).de)
  (bM (eT 4 Ll.nd ((cB (Nh G) (c.mono (by decide)) eC (aY (ar 0) (g_ 1 (aY (ar 3) (aY bz cr)))))).de)
  (bM (iG (g9 (j3 c.units) jT (ar 2) bz rfl) (bM (eT 5 Ll.nd (g8 gM il (ar 4) bz))
  (bE (eT 4 Ll.nd (kJ (aK (ar 5) (aK (z5 zG zJ G.yaN rW (aK (yk ve wA G.yaL su (aK (kD (cap:=[0,1,5]) (N':=["_law_k","_law_script","_law_town","_law_width"]) (iD.of ["_law_script","_law_town","_law_way","_law_spoil","_law_asked","_law_width","_law_made","_law_exact"] (bd rk) rfl rfl (by decide +kernel)) rfl (nR G.yaJ (aK (cO d9 d_ G.yaG d7 (aK (g8 gM il (ar 4) bz) a9)) a9)) (λC g h o m=>by exact rN) (λC g h o m=>by exact((cB (ye G) (c.mono (by decide)) ji (aY (ar 1) (g_ 2 (aY (ar 3) (aY (ar 3) cr)))))).de)).de a9)).de a9)) a9)))))) iB)
  (bM (eT 6 Ll.nd ((cB (N8 G) (c.mono (by decide)) eC (aY (ar 4) cr))).de)
  (bM (iG (g9 (yf c.units) zb (ar 6) ((cB (Og G) (c.mono (by decide)) eC (aY (ar 4) cr))).de rfl) (bE (dw vO)) iB)
  (bM (eT 7 Ll.nd ((cB (Ij G) (c.mono (by decide)) eC (aY (ar 4) cr))).de)
  (bE (dw (Lg (qm (j3 c.units) jT (ar 7) (we a9) rfl) (rn (qm (j3 c.units) jT (ar 6) (g8 gM il (ar 7) bz) rfl))))))))))))))
end
end K12
namespace Mx
open L2 Pu
def cm:Tx:=[97,98,99]
def cW:Nat->List Tx
 |0=>[[]]
 |k+1=>cm.flatMap λc=>(cW k).map (c::·)
theorem lU:∀(k:Nat) (x:Tx),x∈cW k↔x.length=k/\∀c∈x,c∈cm
 |0,x=>by
  simp only[cW,eR];constructor
  .rintro rfl;simp
  .rintro⟨h,_⟩;exact List.length_eq_zero_iff.mp h
 |k+1,x=>by
  simp only[cW,List.mem_flatMap,cp];constructor
  .rintro⟨c,i,y,g,rfl⟩;obtain⟨f,b⟩:=(lU k y).mp g;refine⟨by simp[f],λd a=>?_⟩;rcases br.mp a with rfl|a
   .exact i
   .exact b d a
  .rintro⟨f,b⟩;cases x with
   |nil=>cases f
   |cons c y=>exact⟨c,b c (by simp),y,(lU k y).mpr ⟨xy f,λd a=>b d (by simp[a])⟩,rfl⟩
theorem ED:∀k:Nat,(cW k).length=3^k
 |0=>rfl
 |k+1=>by simp only[cW,cm,xC,List.flatMap_nil,cK,dD,ED k,gT,Nat.pow_succ];lia
theorem Dc(i j:Nat):cW (i+j)=(cW i).flatMap λh=>(cW j).map (h++·):=by
 induction i with
 |zero=>simp[cW]
 |succ i a=>rw[show i+1+j=(i+j)+1 by lia];simp only[cW,a,List.flatMap_assoc,List.map_flatMap,List.flatMap_map,eu,Function.comp_def,iu]
theorem G9(k:Nat):cW (k+1)=(cW k).flatMap λh=>cm.map λc=>h++[c]:=by rw[Dc k 1];congr 1
theorem zF:∀k:Nat,(cW k).Pairwise (λa b=>a<b)
 |0=>by simp[cW]
 |k+1=>by
  simp only[cW];rw[List.pairwise_flatMap];refine⟨λc _=>?_,?_⟩
  .rw[List.pairwise_map];exact(zF k).imp λh=>AS.mpr (.inr ⟨rfl,h⟩)
  .have:cm.Pairwise (λa b=>a<b):=by decide
   refine this.imp λh=>?_;intro x f y d;obtain⟨i,_,rfl⟩:=cp.mp f;obtain⟨g,_,rfl⟩:=cp.mp d;exact AS.mpr (.inl h)
theorem Gy{a b:Tx}(h:a<b):cF a b=ai:=by simp only[cF,decide_eq_true_eq];exact List.le_of_lt h
theorem By(k:Nat):(cW k).Pairwise (λa b=>cF a b=ai):=(zF k).imp Gy
theorem KL(k:Nat):(cW k).Nodup:=(zF k).imp λh z=>by subst z;exact qU _ h
def be(z:Tx)(w:Nat):List Tx:=((bI z.length).filter λi=>decide (i+w<=z.length)).map λi=>(z.drop i).take w
theorem Do(w L:Nat):∀m:Nat,(bI m).filter (λi=>decide (i+w<=L))=bI (min m (L+1-w))
 |0=>by simp
 |m+1=>by
  rw[qK,FY,Do w L m];by_cases h:m+w<=L
  .rw[show min m (L+1-w)=m by lia,show min (m+1) (L+1-w)=m+1 by lia,qK];simp[h]
  .rw[show min (m+1) (L+1-w)=min m (L+1-w) by lia];simp[h]
theorem lX(z:Tx)(w:Nat)(a:1<=w):be z w=(bI (z.length+1-w)).map λi=>(z.drop i).take w:=by unfold be;rw[Do,show min z.length (z.length+1-w)=z.length+1-w by lia]
def nw(w:Nat)(t:Tx):Tx->List Tx
 |[]=>[]
 |c::s=>(t.drop (t.length+1-w)++[c])::nw w (t++[c]) s
theorem Eu(w:Nat)(b:1<=w):∀(s t:Tx),w<=t.length+1->nw w t s=(bI s.length).map λi=>((t++s).drop (t.length+1-w+i)).take w
 |[],t,_=>by simp[nw]
 |c::s,t,h=>by
  rw[nw,Eu w b s (t++[c]) (by simp;lia),dE,xi,dO,eu];congr 1
  .show _=((t++c::s).drop (t.length+1-w)).take w;rw[xh ∅,List.take_append];have a:(t.drop (t.length+1-w)).length=w-1:=by rw[m8];lia
   rw[a,lp (by rw[a];lia),show w-(w-1)=1 by lia];rfl
  .refine nk λi _=>?_;simp only[xD];rw[cK,qG,show t.length+1+1-w+i=t.length+1-w+Nat.succ i by lia];simp
theorem BY{w:Nat}(a:1<=w){h s:Tx}(b:h.length=w-1):be (h++s) w=nw w h s:=by rw[lX _ _ a,Eu w a s h ∅,cK,show h.length+s.length+1-w=s.length by lia];refine nk λi _=>?_;rw[show h.length+1-w+i=i by lia]
theorem Nq{w:Nat}(a:1<=w)(t:Tx)(c:Nat):be (t++[c]) w=be t w++(if w<=t.length+1 then [((t++[c]).drop (t.length+1-w)).take w] else []):=by
 rw[lX _ _ a,lX _ _ a,cK,qG];by_cases h:w<=t.length+1
 .rw[if_pos h,show t.length+1+1-w=(t.length+1-w)+1 by lia,qK,qL];congr 1;refine nk λi b=>?_;have b:i<t.length+1-w:=by simpa using b
  rw[xh ∅,AT (by rw[m8];lia)]
 .rw[if_neg h,show t.length+1+1-w=0 by lia,show t.length+1-w=0 by lia];simp
def qe(w:Nat):Nat->Tx->List Tx->List Tx
 |0,t,_=>[t]
 |r+1,t,q=>cm.flatMap λc=>if t.drop (t.length+1-w)++[c]∈q then qe w r (t++[c]) (q.erase (t.drop (t.length+1-w)++[c]))else []
theorem Bu(w:Nat):∀(r:Nat) (t:Tx) (q:List Tx),q.length=r->qe w r t q=((cW r).filter λs=>(nw w t s).isPerm q).map (t++·)
 |0,t,q,hq=>by have:q=[]:=List.length_eq_zero_iff.mp hq;subst this;simp[qe,cW,nw,List.isPerm]
 |r+1,t,q,hq=>by
  simp only[qe,cW,F6,List.map_flatMap];congr 1;funext c;rw[nt,eu];by_cases h:t.drop (t.length+1-w)++[c]∈q
  .rw[if_pos h,Bu w r (t++[c]) _ (by rw[qW h,hq];rfl)];have e:((λs=>(nw w t s).isPerm q) ∘ λx=>c::x)=λs=>(nw w (t++[c]) s).isPerm (q.erase (t.drop (t.length+1-w)++[c])):=by funext s;show(q.contains (t.drop (t.length+1-w)++[c])&&(nw w (t++[c]) s).isPerm (q.erase (t.drop (t.length+1-w)++[c])))=_;rw[List.contains_iff_mem.mpr h,Bool.true_and]
   rw[e];refine nk λs _=>?_;simp
  .rw[if_neg h];have e:((λs=>(nw w t s).isPerm q) ∘ λx=>c::x)=λ_=>aj:=by
    funext s;show(q.contains (t.drop (t.length+1-w)++[c])&&(nw w (t++[c]) s).isPerm (q.erase (t.drop (t.length+1-w)++[c])))=_;have:q.contains (t.drop (t.length+1-w)++[c])=aj:=by rw[Bool.eq_false_iff];intro z;exact h (List.contains_iff_mem.mp z)
    rw[this,Bool.false_and]
   rw[e];simp
def fM(w:Nat)(ls:List Tx):List Tx:=(aV (bU (ls.map AU))).flatMap λh=>qe w ls.length h ls
theorem Dk{a b:Type}{l:List a}{f:a->List b}(p:a->Bool)(h:∀x∈l,p x=aj->f x=[]):l.flatMap f=(l.filter p).flatMap f:=by
 induction l with
 |nil=>rfl
 |cons x l c=>
  rw[xC,c λy d=>h y (by simp[d]),F7];cases e:p x with
  |true=>simp
  |false=>rw[h x (by simp) e];simp
theorem wp{w:Nat}{a:List Tx}(i:1<=w)(D:1<=a.length)(m:∀x∈a,x.length=w/\∀c∈x,c∈cm):fM w a=(cW (w-1+a.length)).filter λz=>(be z w).isPerm a:=by
 rw[Dc,F6];have B:(λh=>((cW a.length).map (h++·)).filter λz=>(be z w).isPerm a)=λh=>((cW a.length).filter λs=>(be (h++s) w).isPerm a).map (h++·):=by funext h;rw[nt];rfl
 rw[B,Dk (λh=>decide (h∈a.map AU))]
 .have A:(cW (w-1)).filter (λh=>decide (h∈a.map AU))=aV (bU (a.map AU)):=by
   refine wm ?_ ((By (w-1)).filter _);refine(List.perm_ext_iff_of_nodup ((KL (w-1)).filter _) (OH _)).mpr λx=>?_;rw[iL,decide_eq_true_eq,lQ,lU];refine⟨λh=>h.2,λh=>⟨?_,h⟩⟩;obtain⟨y,d,rfl⟩:=cp.mp h;obtain⟨u,r⟩:=m y d;exact⟨by rw[FM,u],λc q=>r c ((List.dropLast_sublist _).mem q)⟩
  rw[A];unfold fM;have:∀l:List Tx,(∀h∈l,h.length=w-1)->l.flatMap (λh=>qe w a.length h a)=l.flatMap λh=>((cW a.length).filter λs=>(be (h++s) w).isPerm a).map (h++·):=by
   intro l
   induction l with
   |nil=>intro _;rfl
   |cons h l n=>
    intro b;rw[xC,xC,n λy d=>b y (by simp[d]),Bu w _ h a rfl];have v:(λs=>(nw w h s).isPerm a)=λs=>(be (h++s) w).isPerm a:=by funext s;rw[BY i (b h (by simp))]
    rw[v]
  refine this _ λh b=>?_;have p:=(lQ _ _).mp ((eE _).mem_iff.mp b);obtain⟨y,d,rfl⟩:=cp.mp p;rw[FM,(m y d).1]
 .intro h b j;have C:=((lU _ h).mp b).1;rw[FW,List.filter_eq_nil_iff];intro s o g;have f:=((lU _ s).mp o).1;rw[BY i C,List.isPerm_iff]at g;cases s with
  |nil=>rw[gT]at f;lia
  |cons c s=>rw[nw,show h.length+1-w=0 by lia,xm]at g;have:h++[c]∈a:=g.mem_iff.mp (by simp);rw[decide_eq_false_iff_not]at j;exact j (cp.mpr ⟨_,this,by simp⟩)
def unD(w:Nat)(a:List Tx)(t:Tx):Bool:=(be t w).all λx=>decide ((be t w).count x<=a.count x)
theorem CJ{w:Nat}{a:List Tx}{t:Tx}:unD w a t=ai↔∀x,(be t w).count x<=a.count x:=by
 unfold unD;rw[ke];constructor
 .intro h x;by_cases b:x∈be t w
  .simpa using h x b
  .rw[List.count_eq_zero_of_not_mem b];lia
 .intro h x _;simpa using h x
theorem H_{w:Nat}(b:1<=w){a:List Tx}{t:Tx}{c:Nat}(h:unD w a (t++[c])=ai):unD w a t=ai:=by rw[CJ]at h ⊢;intro x;have:=h x;rw[Nq b,List.count_append]at this;lia
def rowsOf(w:Nat)(a:List Tx)(k:Nat):List Tx:=(cW k).filter (unD w a)
theorem GN{w:Nat}(b:1<=w)(a:List Tx):rowsOf w a 0=[[]]:=by simp[rowsOf,cW,unD,be]
theorem MZ{w:Nat}(f:1<=w)(a:List Tx)(k:Nat):rowsOf w a (k+1)=(rowsOf w a k).flatMap λt=>(cm.map λc=>t++[c]).filter (unD w a):=by
 unfold rowsOf;rw[G9,F6];refine Dk _ λt _ b=>?_;rw[List.filter_eq_nil_iff];intro z d g;obtain⟨c,_,rfl⟩:=cp.mp d;rw[H_ f g]at b;cases b
theorem OI(w:Nat)(a:List Tx)(k:Nat):(rowsOf w a k).length<=3^k:=by rw[<-ED k];exact FZ _ _
theorem HL{w:Nat}{c:List Tx}(d:c.Pairwise (λa b=>cF a b=ai))(L:Nat):(rowsOf w c L).filter (λz=>decide (aV (be z w)=c))=(cW L).filter λz=>(be z w).isPerm c:=by
 unfold rowsOf;rw[List.filter_filter];refine List.filter_congr λz _=>?_;rw[lg,fU,decide_eq_true_eq,List.isPerm_iff];constructor
 .rintro⟨h,_⟩;rw[<-h];exact(eE _).symm
 .intro h;refine⟨by rw[u_ h,qk d],?_⟩;rw[CJ];intro x;rw[h.count_eq];exact aZ _
end Mx
namespace Sh
open L2 Pu Mx
section
theorem yL{ls:List Tx}(h:ls.length<=1000000):lV [.lst (am ls)]=aa (.lst (am (aV ls))):=by show(fE (am ls)).bind _=_;rw[pT,jn,if_pos h]
end
section
variable{a:Ad}
abbrev bQ(b:List Int):Slot:=.val (.lst (b.map .int))
theorem EK(b:List Int)(k:Int)(d:0<=k)(h:k<b.length):∃v,dP (b.map PV.int) k=aa (.int v):=by
 have c:k.toNat<b.length:=∅
 refine⟨b[k.toNat],?_⟩;rw[DP d (by rw[dD];exact c)];simp
theorem Jf(b:List Int):Pu.eqT aj (.lst (b.map .int)) (.lst [])=aa (.bl b.isEmpty):=by
 cases b with
 |nil=>rfl
 |cons x c=>
  have f:∀l:List Int,gv (l.map .int)=0:=λl=>by induction l with|nil=>rfl|cons y l d=>simp[gv,ii,d]
  have:gv ((x::c).map .int)=0:=f _;simp only[dO]at this;simp[Pu.eqT,cV,cN,fO,ii,this]
theorem mM(b:Bool)(i j:Int):Pu.eqT b (.int i) (.int j)=aa (.bl (b^^decide (i=j))):=by show(if oE (V.int i) (V.int j)then aa (PV.bl (b^^decide (V.int i=V.int j)))else ae)=_;have:oE (V.int i) (V.int j)=ai:=rfl;rw[if_pos this];simp
theorem yK(b:Bool)(x y:Tx):Pu.eqT b (.str x) (.str y)=aa (.bl (b^^decide (x=y))):=by show(if oE (tV x) (tV y)then aa (PV.bl (b^^decide (tV x=tV y)))else ae)=_;have:oE (tV x) (tV y)=ai:=rfl;rw[if_pos this];have e:(tV x=tV y)=(x=y):=propext ⟨JB,λh=>by rw[h]⟩;simp only[e]
theorem Ha(b:List Int)(k:Int)(i:0<=k):∃v,p9 a [bQ b,⇑k]=.ok (⇑v) [bQ b,⇑k]:=by
 by_cases h:k<b.length
 .obtain⟨v,c⟩:=EK b k i h;refine⟨v,?_⟩;simp![p9,yan,aG,bO,c,h]
 .have e:=Jf b;by_cases d:b=[]
  .subst d;refine⟨0,?_⟩;simp only[wZ,List.isEmpty_nil]at e;have j:¬k<0:=∅
   simp![p9,yan,aG,bO,e,j]
  .have m:0<b.length:=by cases b with|nil=>exact absurd rfl d|cons=>simp
   obtain⟨v,c⟩:=EK b (k % b.length) (Int.emod_nonneg _ ∅) (F8 _ ∅);refine⟨v*31+k,?_⟩;have l:b.isEmpty=aj:=by cases b with|nil=>exact absurd rfl d|cons=>rfl
   rw[l]at e;have g:fL (.int k) (.int (b.length:Int))=aa (.int (k % b.length)):=by simp[fL];lia
   have f:j0 (.int v) (.int 31)=aa (.int (v*31)):=by simp[j0,sR]
   simp![p9,yan,aG,bO,h,e,g,c,f,bp]
theorem K8(b:List Int)(k m:Int)(q:0<=k)(i:0<m):∃v,0<=v/\v<m/\ww a [bQ b,⇑k,⇑m]=.ok (⇑v) [bQ b,⇑k,⇑m]:=by
 obtain⟨c,p⟩:=Ha (a:=a) b k q;have r:0<=(c*1103515245+7919*k+12345) % 2147483647:=Int.emod_nonneg _ (by decide);have d1:(c*1103515245+7919*k+12345) % 2147483647<2147483647:=F8 _ (by decide);have o:j0 (.int c) (.int 1103515245)=aa (.int (c*1103515245)):=by simp[j0,sR]
 have n:j0 (.int 7919) (.int k)=aa (.int (7919*k)):=by simp[j0,sR]
 have h:fL (.int (c*1103515245+7919*k+12345)) (.int 2147483647)=aa (.int ((c*1103515245+7919*k+12345) % 2147483647)):=by simp[fL]
 generalize (c*1103515245+7919*k+12345) % 2147483647=d at r d1 h;have l:se (.int d) (.int 5)=aa (.int (d^5)):=by
  have:d.natAbs<2^64:=∅
  simp[se,this]
 have g:fL (.int (d^5)) (.int 2147483647)=aa (.int (d^5 % 2147483647)):=by simp[fL]
 generalize d^5 % 2147483647=d5 at g;have f:fL (.int d5) (.int 999983)=aa (.int (d5 % 999983)):=by simp[fL]
 generalize d5 % 999983=d6 at f;have j:fL (.int d6) (.int m)=aa (.int (d6 % m)):=by simp[fL,i]
 refine⟨d6 % m,Int.emod_nonneg _ ∅,F8 _ i,?_⟩;simp![ww,yaq,p,o,n,h,l,g,f,j,bp]
theorem mS(c:List Int)(b:List PV)(m:Int)(i:0<m)(j:b.length<=1000):∃v,0<=v/\v<m/\im a [bQ c,.own (.lst b),⇑m]=.ok (⇑v) [bQ c,.own (.lst (b++[.int 0])),⇑m]:=by
 obtain⟨v,f,d,h⟩:=K8 (a:=a) c ((b.length:Int)+1) m ∅ i;refine⟨v,f,d,?_⟩;have g:b.length<cx:=by unfold cx;lia
 simp![im,yao,aG,g,h]
theorem Cw{c:Type}(b:List c)(v:Int)(f:0<=v)(g:v<b.length):∃x∈b,dP b v=aa x:=by
 have d:v.toNat<b.length:=∅
 exact⟨b[v.toNat],As _,DP f d⟩
theorem Nf(d:List Int)(c b:List PV)(i:c.length<=1000)(m:0<b.length):∃x∈b,vH a [bQ d,.own (.lst c),.val (.lst b)]=.ok (.val x) [bQ d,.own (.lst (c++[.int 0])),.val (.lst b)]:=by obtain⟨v,g,f,j⟩:=mS (a:=a) d c (b.length:Nat) ∅ i;obtain⟨x,l,h⟩:=Cw b v g f;refine⟨x,l,?_⟩;simp![vH,yas,aG,bO,j,h]
theorem oK{n:Nat}(h:n<=1000000):fN [.int n]=aa (cL 0 n):=by show(if(n:Int)<=1000000/\-1000000<=(n:Int)then aa (cL 0 (n:Int).toNat)else ae)=_;rw[if_pos ⟨∅,∅⟩];simp
theorem vI{x y:Tx}(h:x.length+y.length<=cx):bp (.str x) (.str y)=aa (.str (x++y)):=by show(if(x++y).length<=cx then aa (PV.str (x++y))else ae)=_;rw[if_pos (by rw[cK];exact h)]
theorem dm{d1 d2:ak->R aO}{ε ε1:ak}(h:d1 ε=.ok .next ε1):ba d1 d2 ε=d2 ε1:=by unfold ba;rw[h]
theorem Nu{i:Nat}{d:ak->R PV}{c b:ak}{x:PV}(h:d c=.ok x b):bG i d c=.ok .next (b.set i (.val x)):=by unfold bG;rw[h];rfl
theorem vm{i:Nat}{db:ak->R aO}{I:Nat->ak->Prop}{N:Nat}(step:∀k ε x,k<N->I k ε->∃b,db (ε.set i (.val x))=.ok .next b/\I (k+1) b):∀(c:List PV) (k:Nat) (ε:ak),k+c.length<=N->I k ε->∃b,cz i db c ε=.ok .next b/\I (k+c.length) b
 |[],k,ε,_,h=>⟨ε,rfl,h⟩
 |x::c,k,ε,f,h=>by simp only[dE]at f;obtain⟨ε1,m,j⟩:=step k ε x ∅ h;obtain⟨d,l,g⟩:=vm step c (k+1) ε1 ∅ j;refine⟨d,by unfold cz;rw[m];exact l,?_⟩;rw[dE,show k+(c.length+1)=k+1+c.length by lia];exact g
theorem EI{i:Nat}{db:ak->R aO}{I:List PV->ak->Prop}(step:∀(x:PV) (r:List PV) ε,I (x::r) ε->∃b,db (ε.set i (.val x))=.ok .next b/\I r b):∀(c:List PV) (ε:ak),I c ε->∃b,cz i db c ε=.ok .next b/\I [] b
 |[],ε,h=>⟨ε,rfl,h⟩
 |x::c,ε,h=>by obtain⟨f,m,j⟩:=step x c ε h;obtain⟨d,l,g⟩:=EI step c f j;exact⟨d,by unfold cz;rw[m];exact l,g⟩
theorem y_(o:List Int)(l:List PV)(g b:Nat)(O:g<=b)(Z:b<=100)(Y:l.length<=500):∃(z:Tx) (j:List PV),g<=z.length/\z.length<=b/\(∀c∈z,c∈cm)/\j.length<=l.length+2+b /\ lL a [bQ o,.own (.lst l),⇑g,⇑b]=.ok (↥z) [bQ o,.own (.lst j),⇑g,⇑b]:=by
 obtain⟨f,B,L⟩:=Nf (a:=a) o l [.int 1,.int 2,.int 2,.int 3,.int 3,.int 3] ∅ (by decide);obtain⟨h,rfl,S,f1⟩:∃h:Int,f=.int h/\0<h/\h<=3:=by simp only[br,jN,or_false]at B;rcases B with rfl|rfl|rfl|rfl|rfl|rfl <;> exact⟨_,rfl,by decide,by decide⟩
 obtain⟨m,X,W,p⟩:=mS (a:=a) o (l++[.int 0]) ((b:Int)-g+1) ∅ (by simp;lia);obtain⟨n,M⟩:∃n:Nat,(g:Int)+m=n:=⟨(g+m).toNat,∅⟩
 have K:fN [.int ((g:Int)+m)]=aa (cL 0 n):=by rw[M];exact oK ∅
 have aH:(cL 0 n).length=n:=by simp[cL]
 obtain⟨D,C,j,z,q,rfl,A,H,w⟩:=vm (i:=6) (db:=bG 5 (d2 bp (dV 5) (d2 bO (dC (.str [97,98,99])) (bB (bn (im a) (gV (dV 0) (gO 1 (gV (dV 4) (Pu.cb)))))))))
  (I:=λk y=>∃j z q,y=[bQ o,.own (.lst j),⇑g,⇑b,⇑h,↥z,q]/\z.length=k/\j.length<=l.length+2+k/\∀c∈z,c∈cm) (N:=n)
  (by
   rintro k y x hk ⟨j,z,q,rfl,A,H,w⟩;obtain⟨v,E,T,J⟩:=mS (a:=a) o j h S ∅;obtain⟨c,P,F⟩:=Cw cm v E (by simp[cm];lia);refine⟨[bQ o,.own (.lst (j++[.int 0])),⇑g,⇑b,⇑h,↥(z++[c]),.val x],?_,j++[.int 0],z++[c],.val x,rfl,by simp[A],by simp;lia,λd p=>?_⟩
   .have r:bO (.str [97,98,99]) (.int v)=aa (.str [c]):=by
     show(dP cm v).map _=_;rw[F];rfl
    have G:bp (.str z) (.str [c])=aa (.str (z++[c])):=vI (by simp[cx];lia);simp![J,r,G]
   .simp only[iq,eR]at p;rcases p with p|rfl
    .exact w d p
    .exact P)
  (cL 0 n) 0 [bQ o,.own (.lst (l++[.int 0]++[.int 0])),⇑g,⇑b,⇑h,.val (.str []),.none] ∅ ⟨l++[.int 0]++[.int 0],[],.none,rfl,rfl,by simp,by simp⟩
 refine⟨z,j,∅,∅,w,∅,?_⟩;have Q:eW (.int b) (.int g)=aa (.int ((b:Int)-g)):=rfl;have u:bp (.int ((b:Int)-g)) (.int 1)=aa (.int ((b:Int)-g+1)):=rfl;have s:bp (.int g) (.int m)=aa (.int ((g:Int)+m)):=rfl;simp only[kc,iu,fH]at C;simp![lL,yav,L,Q,u,s,p,cR,K,dR,C]
theorem kI{cap:List Nat}{dt:ak->R Bool}{de:ak->R PV}{ε:ak}(p:PV->Bool)(f:PV->PV):∀(c:List PV),(∀x∈c,dQ (eN cap dt x ε)=.ok (p x) ε/\(p x=ai->dQ (eN cap de x ε)=.ok (f x) ε))->∀b,jf cap dt de c b ε=.ok (b++(c.filter p).map f) ε
 |[],_,b=>by simp[jf]
 |x::c,h,b=>by
  have i:=h x (by simp);have g:=kI p f c (λy j=>h y (by simp[j]));unfold jf;rw[i.1];simp only[R.bind_ok];cases d:p x with
  |false=>simp only[g b,F7,d];simp
  |true=>simp only[i.2 d,R.bind_ok,g (b++[f x]),F7,d];simp
theorem KG{z:Tx}{i w:Nat}(h:i+w<=z.length):eV z (aa (i:Int)) (aa ((i:Int)+w))=(z.drop i).take w:=by
 unfold eV;have c:HT.sIx z.length 0 (aa (i:Int))=i:=by rw[HT.sIx_nat];lia
 have b:HT.sIx z.length z.length (aa ((i:Int)+w))=i+w:=by rw[show(i:Int)+w=((i+w:Nat):Int) by lia,HT.sIx_nat];lia
 rw[c,b,Nat.add_sub_cancel_left]
theorem zw(z:Tx)(w:Nat)(o:z.length<=60):mJ a [↥z,⇑w]=.ok (.val (.tup (am (aV (be z w))))) [↥z,⇑w]:=by
 have g:fN [.int (z.length:Nat)]=aa (cL 0 z.length):=oK ∅;have b:=kI (cap:=[0,1]) (dt:=(dB (d2 (hG λi j=>decide (i<=j)) (d2 bp (dV 0) (dV 2)) (dL aG (au (dV 1) (aA)))))) (de:=(dI cQ (dV 1) (dq (dV 0)) (dq (d2 bp (dV 0) (dV 2)))))
  (ε:=[↥z,⇑w]) (λx=>match x with|.int i=>decide (i+w<=z.length)|_=>aj) (λx=>match x with|.int i=>.str (eV z (aa i) (aa (i+w)))|_=>.non) (cL 0 z.length)
  (by
   intro x d;simp only[cL,cp]at d;obtain⟨i,f,rfl⟩:=d;refine⟨?_,λh=>?_⟩
   .simp![eN,eD,dQ,aG,bp]
   .simp![eN,eD,dQ,aG,bp,dI,dq,cQ]) []
 have l:(be z w).length<=1000000:=by unfold be;rw[dD];have:=FZ (λi=>decide (i+w<=z.length)) (bI z.length);rw[qM]at this;lia
 have m:(((cL 0 z.length).filter (λx=>match x with|.int i=>decide (i+w<=z.length)|_=>aj)).map (λx=>match x with|.int i=>PV.str (eV z (aa i) (aa (i+w)))|_=>.non))=am (be z w):=by
  unfold cL be am;rw[nt,eu,eu];have n:((λx=>match x with|PV.int i=>decide (i+(w:Int)<=(z.length:Nat))|_=>aj) ∘ λ(i:Nat)=>PV.int (0+(i:Nat)))=λi=>decide (i+w<=z.length):=by funext i;simp only[xD];congr 1;simp;lia
  rw[n];refine nk λi f=>?_;have:=(iL.mp f).2;simp only[decide_eq_true_eq]at this;simp only[xD,Int.zero_add];rw[KG this]
 simp only[fH]at b;rw[m]at b;have c:=yL l;generalize am (aV (be z w))=T at c;generalize am (be z w)=B at b c;simp![mJ,yat,aG,g,cS,b,c,lT]
theorem Bd{z:Tx}{w:Nat}:∀x∈be z w,x.length=w/\∀c∈x,c∈z:=by intro x b;simp only[be,cp,iL,j6,decide_eq_true_eq]at b;obtain⟨i,⟨_,h⟩,rfl⟩:=b;exact⟨by rw[jk,m8];lia,λc d=>List.mem_of_mem_drop (List.mem_of_mem_take d)⟩
theorem Nt{z:Tx}{w m:Nat}(c:1<=w)(f:w<=z.length)(d:z.length<=w+m):1<=(be z w).length/\(be z w).length<=m+1:=by
 unfold be;rw[dD];have:∀n,((bI n).filter λi=>decide (i+w<=z.length)).length=min n (z.length+1-w):=by
  intro n
  induction n with
  |zero=>simp
  |succ n b=>
   rw[qK,FY,cK,b];by_cases h:n+w<=z.length
   .simp[List.filter,h];lia
   .simp[List.filter,h];lia
 rw[this];lia
structure Good(l:Tx)(w:Nat)(ls:List Tx):Prop where
 len:∀x∈ls,x.length=w
 abc:∀x∈ls,∀c∈x,c∈l
 some:1<=ls.length
 few:ls.length<=9
theorem Good.perm{l:Tx}{w:Nat}{ls b:List Tx}(g:Good l w ls)(p:b.Perm ls):Good l w b:=⟨λx h=>g.len x (p.mem_iff.mp h),λx h=>g.abc x (p.mem_iff.mp h),by rw[p.length_eq];exact g.some,by rw[p.length_eq];exact g.few⟩
theorem Good.put{l:Tx}{w:Nat}{ls:List Tx}{z:Tx}{j:Nat}(g:Good l w ls)(b:z.length=w)(d:∀c∈z,c∈l):Good l w (ls.set j z):=by
 refine⟨λx h=>?_,λx h=>?_,by rw[gQ];exact g.some,by rw[gQ];exact g.few⟩
 .rcases List.mem_or_eq_of_mem_set h with h|rfl
  .exact g.len x h
  .exact b
 .rcases List.mem_or_eq_of_mem_set h with h|rfl
  .exact g.abc x h
  .exact d
theorem Jc(ls:List Tx)(j:Nat)(z:Tx):(am ls).set j (.str z)=am (ls.set j z):=by simp[am,List.map_set]
theorem fD(ls:List Tx):(am ls).length=ls.length:=by simp[am]
theorem Ez{n:Nat}{v:Int}(c:0<=v)(b:v<n):jc n v=aa v.toNat:=by unfold jc;rw[if_pos c,if_pos b]
theorem JX(ls:List Tx):lO (am ls)=ai:=by
 induction ls with
 |nil=>rfl
 |cons x ls b=>show(imm (.str x)&&lO (am ls))=ai;rw[b];rfl
theorem Lp(j:List Int)(l:List PV)(d f:Nat)(hs:d<3)(m1:1<=f)(m9:f<=9)(hx:l.length<=300):∃(w:Nat) (ls:List Tx) (n:List PV),1<=w/\w<=4/\(d≠2->2<=w)/\Good cm w ls/\ls.Pairwise (λa b=>cF a b=ai)/\ls.length<=f/\(d=0->∃z:Tx,ls=aV (be z w)/\w<=z.length/\z.length+1<=w+f/\∀c∈z,c∈cm)/\n.length<=l.length+60 /\ rj a [bQ j,.own (.lst l),⇑d,⇑f]=.ok (.val (.tup [.int w,.tup (am ls)])) [bQ j,.own (.lst n),⇑d,⇑f]:=by
 obtain⟨w,M,S,W,hw⟩:∃w:Nat,1<=w/\w<=4/\(d≠2->2<=w)/\(cE (dB (d2 (Pu.eqT ai) (dV 2) (dC (.int 2)))) (d2 bp (dC (.int 2)) (bB (bn (im a) (gV (dV 0) (gO 1 (gV (dC (.int 3)) (Pu.cb))))))) (d2 bp (dC (.int 1)) (bB (bn (im a) (gV (dV 0) (gO 1 (gV (dC (.int 4)) (Pu.cb)))))))) [bQ j,.own (.lst l),⇑d,⇑f,.none,.none,.none] =
   .ok (.int w) [bQ j,.own (.lst (l++[.int 0])),⇑d,⇑f,.none,.none,.none]:=by
  by_cases h2:d=2
  .subst h2;obtain⟨v,E,D,o⟩:=mS (a:=a) j l 4 (by decide) ∅;refine⟨(1+v).toNat,∅,∅,λz=>absurd rfl z,?_⟩;have e:Pu.eqT ai (.int 2) (.int 2)=aa (.bl aj):=by rw[mM];rfl
   have:((1+v).toNat:Int)=1+v:=∅
   simp![e,o,bp,this]
  .obtain⟨v,E,D,o⟩:=mS (a:=a) j l 3 (by decide) ∅;refine⟨(2+v).toNat,∅,∅,λ_=>∅,?_⟩;have e:Pu.eqT ai (.int ((d:Nat):Int)) (.int 2)=aa (.bl ai):=by
    have:d=0\/d=1:=∅
    rcases this with rfl|rfl <;> (rw[mM];rfl)
   have:((2+v).toNat:Int)=2+v:=∅
   simp![e,o,bp,this]
 obtain⟨z,C,B,K,g,G,A⟩:=y_ (a:=a) j (l++[.int 0]) w (w+(f-1)) ∅ ∅ (by simp;lia);simp only[cK,qG]at G;have X:=zw (a:=a) z w ∅;have PF:=Nt (z:=z) (w:=w) (m:=f-1) M B K;have g0:Good cm w (aV (be z w)):=by exact Good.perm ⟨λx h=>(Bd x h).1,λx h c hc=>g c ((Bd x h).2 c hc),PF.1,∅⟩ (eE _)
 have p:fL (.int d) (.int 3)=aa (.int d):=by
  have:d=0\/d=1\/d=2:=∅
  rcases this with rfl|rfl|rfl <;> rfl
 have hr:fN [.int d]=aa (cL 0 d):=oK ∅;have aH:(cL 0 d).length=d:=by simp[cL]
 obtain⟨Q,e1,n,ls,y,rfl,s,F,h0,Z⟩:=vm (i:=6) (db:=(wz 5 (bB (bn (im a) (gV (dV 0) (gO 1 (gV (jX (λl=>n5 (aG l)) 5) (Pu.cb)))))) (bB (bn (lL a) (gV (dV 0) (gO 1 (gV (dV 4) (gV (dV 4) (Pu.cb)))))))))
  (I:=λk J=>∃n ls y,J=[bQ j,.own (.lst n),⇑d,⇑f,⇑w,.own (.lst (am ls)),y]/\Good cm w ls/\ls.length<=f/\(k=0->ls=aV (be z w))/\n.length<=C.length+10*k) (N:=d)
  (by
   rintro k J x hk ⟨n,ls,y,rfl,s,F,_,Z⟩;obtain⟨z,L,B,K,g,mz,A⟩:=y_ (a:=a) j n w w ∅ ∅ ∅;obtain⟨v,E,D,o⟩:=mS (a:=a) j L (ls.length:Nat) (by have:=s.some;lia) ∅;refine⟨[bQ j,.own (.lst (L++[.int 0])),⇑d,⇑f,⇑w,.own (.lst (am (ls.set v.toNat z))),.val x],?_,_,_,_,rfl,s.put ∅ g,by rw[gQ];exact F,λz=>∅,by simp;lia⟩;have Y:jc (am ls).length v=aa v.toNat:=Ez E (by rw[fD];exact D);have hl:aG [.lst (am ls)]=aa (.int (ls.length:Nat)):=by simp[aG,fD]
   simp![wz,A,hl,o,Y,Jc])
  (cL 0 d) 0 [bQ j,.own (.lst C),⇑d,⇑f,⇑w,.own (.lst (am (aV (be z w)))),.none] ∅ ⟨C,_,.none,rfl,g0,by rw[zq];lia,λ_=>rfl,∅⟩
 refine⟨w,aV ls,n,M,S,W,s.perm (eE _),sL _,by rw[zq];exact F,λz0=>⟨z,by rw[h0 ∅,qk (sL _)],B,∅,g⟩,∅,?_⟩;have O:bp (.int w) (.int f)=aa (.int ((w:Int)+f)):=rfl;have H:eW (.int ((w:Int)+f)) (.int 1)=aa (.int (((w+(f-1):Nat)):Int)):=by show aa (PV.int ((w:Int)+f-1))=_;congr 2;lia
 have P:=yL (ls:=ls) (by have:=s.few;lia);have u:yax a [bQ j,.own (.lst l),⇑d,⇑f,.none,.none,.none]=.ok (.ret (.val (.tup [.int w,.tup (am (aV ls))]))) [bQ j,.own (.lst n),⇑d,⇑f,⇑w,.own (.lst (am ls)),y]:=by unfold yax;refine(dm (Nu hw)).trans ?_;have r:=JX (aV ls);generalize am (aV ls)=T at P r;generalize ((w+(f-1):Nat):Int)=q at H A;generalize (w:Int)+f=q2 at O H;simp[ba,cE,dB,d2,d1,dV,dC,dL,dF,au,aA,cq,pP,bG,jY,bn,gV,gO,Pu.cb,jR,iH,c9,gu,g7,R.bind,a6,bH,eU,bL,back,ga,lH,Eh,yn,Ew,DK,bB,vL,hU,cu,c_,OC,sZ,N5,nN,zL,BV,kF,nO,y3,p7,hG,fv,p_,jX,wl,df,lm,O,H,A,X,qg,p,cR,hr,dR,e1,P,Ec,r,lT]
 simp[rj,bH,eU,bL,u,back,ga]
theorem map_set{b c:Type}(f:b->c)(l:List b)(j:Nat)(x:b):(l.map f).set j (f x)=(l.set j x).map f:=by simp[List.map_set]
theorem OD(c b:List Tx):am c++am b=am (c++b):=by simp[am]
theorem yE{c:Type}(b:List c)(n:Nat):eV b ae (aa (n:Int))=b.take n:=by
 unfold eV;have d:HT.sIx b.length 0 ae=0:=rfl;rw[d,HT.sIx_nat,xm,Nat.sub_zero];by_cases h:n<=b.length
 .rw[Nat.min_eq_left h]
 .rw[Nat.min_eq_right ∅,lp (aZ _),lp ∅]
theorem yV{c:Type}(b:List c)(n:Nat):eV b (aa (n:Int)) ae=b.drop n:=by
 unfold eV;have d:HT.sIx b.length b.length ae=b.length:=rfl;rw[d,HT.sIx_nat];by_cases h:n<=b.length
 .rw[Nat.min_eq_left h,lp (by rw[m8];lia)]
 .rw[Nat.min_eq_right ∅,AV ∅,AV ∅];simp
theorem qd{t T:String}{b:Bool}{x:PV}(h:sV x=aa t)(e:iO [] (.type t) (.type T)=aa b):iJ [x,.raw (.ty T)]=aa (.bl b):=by show((sV x).bind λt=>(iO [] (.type t) (.type T)).map λb=>PV.bl b)=_;rw[h,jn,e];rfl
theorem LY:iO [] (.type "int") (.type "int")=aa ai:=by decide +kernel
theorem ND:iO [] (.type "int") (.type "bool")=aa aj:=by decide +kernel
theorem K7:iO [] (.type "str") (.type "str")=aa ai:=by decide +kernel
theorem yj:iO [] (.type "tuple") (.type "tuple")=aa ai:=by decide +kernel
theorem Hz(bs:List Bool):lG (bs.map .bl)=aa bs:=by
 induction bs with
 |nil=>rfl
 |cons b bs c=>show(lG (bs.map .bl)).map (b::·)=_;rw[c];rfl
theorem yD(bs:List Bool):qi [.lst (bs.map .bl)]=aa (.bl (bs.all id)):=by show(lG (bs.map .bl)).map _=_;rw[Hz];rfl
theorem Kt(z s:Tx):wy a [↥z,↥s]=.ok (.val (.bl (z.all s.contains))) [↥z,↥s]:=by
 have b:=kI (cap:=[1]) (dt:=dYes) (de:=(d2 (pU aj) (dV 0) (dV 1))) (ε:=[↥z,↥s]) (λ_=>ai) (λx=>match x with|.str [c]=>.bl (s.contains c)|_=>.non) (z.map λc=>.str [c])
  (by
   intro x h;obtain⟨c,_,rfl⟩:=cp.mp h;refine⟨by simp![eN,eD,dQ,dYes],λ_=>?_⟩;have g:pU aj (.str [c]) (.str s)=aa (.bl (s.contains c)):=by rw[<-Hk];simp[pU]
   simp![eN,eD,dQ,g]) []
 have i:((z.map λc=>PV.str [c]).filter (λ_=>ai)).map (λx=>match x with|.str [c]=>PV.bl (s.contains c)|_=>.non)=(z.map s.contains).map .bl:=by rw[AW.mpr (by simp),eu,eu];rfl
 rw[fH,i]at b;have f:(z.map s.contains).all id=z.all s.contains:=by rw[xj];rfl
 generalize z.map s.contains=bs at b f;have d:=yD bs;rw[f]at d;simp![wy,yaf,cS,cD,jA,b,d]
def i6(w:Int)(s z:Tx):Bool:=decide ((z.length:Int)=w)&&z.all s.contains
theorem HU(z s:Tx)(w:Int):ql a [↥z,⇑w,↥s]=.ok (.val (.bl (i6 w s z))) [↥z,⇑w,↥s]:=by
 have d:iJ [.str z,.raw (.ty "str")]=aa (.bl ai):=qd rfl K7;have f:=Kt (a:=a) z s;have c:aG [.str z]=aa (.int (z.length:Nat)):=rfl;have b:=mM aj (z.length:Nat) w;unfold i6;by_cases h:((z.length:Nat):Int)=w
 .simp only[h,decide_true,Bool.xor_true,Bool.not_false]at b;simp![ql,yak,d,c,b,f,h]
 .simp only[h,decide_false,Bool.xor_false]at b;simp![ql,yak,d,c,b,h]
theorem x0(d c:List Tx):fO (am d) (am c)=aa (decide (d=c)):=by
 induction d generalizing c with
 |nil=>cases c <;> simp[am,fO]
 |cons x d f=>
  cases c with
  |nil=>simp[am,fO]
  |cons y c=>
   show(cN (.str x) (.str y)).bind (λa=>(fO (am d) (am c)).map λb=>a&&b)=_;rw[f];have:cN (.str x) (.str y)=aa (decide (x=y)):=by
    show aa (tS x == tS y)=_;by_cases h:x=y
    .subst h;simp
    .have:tS x≠tS y:=λz=>h (og z);simp[h,this]
   rw[this];simp[List.cons.injEq]
theorem yd(b:List Tx):gv (am b)=0:=by
 induction b with
 |nil=>rfl
 |cons x b c=>show max (ii (.str x)) (gv (am b))=0;rw[c];rfl
theorem Oe(b:Bool)(c d:List Tx):Pu.eqT b (.lst (am c)) (.lst (am d))=aa (.bl (b^^decide (c=d))):=by show(if ii (.lst (am c))<=8 then(fO (am c) (am d)).map (λk=>PV.bl (b^^k))else ae)=_;rw[if_pos (by show gv (am c)+1<=8;rw[yd];decide),x0];rfl
theorem Im(b:List Tx)(w:Int)(s:Tx)(u:1<=b.length)(r:b.length<=9):mK a [.val (.tup (am b)),⇑w,↥s]=.ok (.val (.bl (b.all (i6 w s)&&decide (b=aV b)))) [.val (.tup (am b)),⇑w,↥s]:=by
 have h:iJ [.tup (am b),.raw (.ty "tuple")]=aa (.bl ai):=qd rfl yj;have i:aG [.tup (am b)]=aa (.int (b.length:Nat)):=by simp[aG,fD]
 have m:(1:Int)<=(b.length:Nat):=∅
 have l:((b.length:Nat):Int)<=9:=∅
 have d:=kI (cap:=[1,2]) (dt:=dYes) (de:=(bB (bn (ql a) (gV (dV 0) (gV (dV 1) (gV (dV 2) (Pu.cb))))))) (ε:=[.val (.tup (am b)),⇑w,↥s]) (λ_=>ai) (λx=>match x with|.str z=>.bl (i6 w s z)|_=>.non) (am b)
  (by intro x o;obtain⟨z,_,rfl⟩:=cp.mp o;refine⟨by simp![eN,eD,dQ,dYes],λ_=>?_⟩;have p:=HU (a:=a) z s w;simp![eN,eD,dQ,p]) []
 have q:((am b).filter (λ_=>ai)).map (λx=>match x with|.str z=>PV.bl (i6 w s z)|_=>.non)=(b.map (i6 w s)).map .bl:=by rw[AW.mpr (by simp)];unfold am;rw[eu,eu];rfl
 rw[fH,q]at d;have g:(b.map (i6 w s)).all id=b.all (i6 w s):=by rw[xj];rfl
 generalize b.map (i6 w s)=bs at d g;have f:=yD bs;have n:b.length<=1000000:=∅
 have c:=Oe aj b (aV b);cases j:b.all (i6 w s)with
 |false=>rw[g,j]at f;simp![mK,yad,h,i,m,l,cS,cD,jA,d,f]
 |true=>rw[g,j]at f;simp only[Bool.false_xor]at c;simp![mK,yad,h,i,m,l,cS,cD,jA,d,f,qg,lV,pT,n,c]
theorem O0(b:List Tx)(w:Int)(s:Tx)(h:b.length=0\/9<b.length):mK a [.val (.tup (am b)),⇑w,↥s]=.ok (.val (.bl aj)) [.val (.tup (am b)),⇑w,↥s]:=by
 have c:iJ [.tup (am b),.raw (.ty "tuple")]=aa (.bl ai):=qd rfl yj;have d:aG [.tup (am b)]=aa (.int (b.length:Nat)):=by simp[aG,fD]
 by_cases f:(1:Int)<=(b.length:Nat)
 .have g:¬((b.length:Nat):Int)<=9:=∅
  simp![mK,yad,c,d,f,g]
 .simp![mK,yad,c,d,f]
theorem Nx(i:Int):u7 a [⇑i]=.ok (.val (.bl ai)) [⇑i]:=by have c:iJ [.int i,.raw (.ty "int")]=aa (.bl ai):=qd rfl LY;have b:iJ [.int i,.raw (.ty "bool")]=aa (.bl aj):=qd rfl ND;simp![u7,yai,c,b]
theorem IR(i:Int):qt a [⇑i]=.ok (.val (.bl (decide (1<=i/\i<=4)))) [⇑i]:=by
 have h:=Nx (a:=a) i;by_cases b:1<=i
 .by_cases c:i<=4
  .simp![qt,yaj,h,b,c]
  .simp![qt,yaj,h,b,c]
 .simp![qt,yaj,h,b]
def rK(s:Tx)(w:Int)(b:List Tx):Bool:=decide (1<=w/\w<=4)&&(decide (1<=b.length/\b.length<=9)&&(b.all (i6 w s)&&decide (b=aV b)))
theorem O5(s:Tx)(w:Int)(b:List Tx):qb a [.val (.tup [.int w,.tup (am b)]),↥s]=.ok (.val (.bl (rK s w b))) [.val (.tup [.int w,.tup (am b)]),↥s]:=by
 have h:iJ [.tup [.int w,.tup (am b)],.raw (.ty "tuple")]=aa (.bl ai):=qd rfl yj;have l:aG [.tup [.int w,.tup (am b)]]=aa (.int 2):=rfl;have f:=mM ai 2 2;simp only[decide_true,Bool.true_xor,Bool.not_true]at f;have j:bO (.tup [.int w,.tup (am b)]) (.int 0)=aa (.int w):=rfl;have i:bO (.tup [.int w,.tup (am b)]) (.int 1)=aa (.tup (am b)):=rfl;have d:=IR (a:=a) w;unfold rK;by_cases c:1<=w/\w<=4
 .rw[decide_eq_true c]at d ⊢;by_cases g:1<=b.length/\b.length<=9
  .have m:=Im (a:=a) b w s g.1 g.2;rw[decide_eq_true g];simp![qb,yah,h,l,f,j,i,d,m]
  .have m:=O0 (a:=a) b w s ∅;rw[decide_eq_false g];simp![qb,yah,h,l,f,j,i,d,m]
 .rw[decide_eq_false c]at d ⊢;simp![qb,yah,h,l,f,j,i,d]
abbrev vw(w:Int)(b:List Tx):Bool:=rK cm w b
theorem Jm(w:Int)(b:List Tx):v9 a [.val (.tup [.int w,.tup (am b)])]=.ok (.val (.bl (vw w b))) [.val (.tup [.int w,.tup (am b)])]:=by have c:=O5 (a:=a) cm w b;simp only[cm]at c;simp![v9,yag,c];rfl
theorem Ni{w:Int}{b:List Tx}(h:vw w b=ai):rX a [.val (.tup [.int w,.tup (am b)])]=.ok (.val .non) [.val (.tup [.int w,.tup (am b)])]:=by have c:=Jm (a:=a) w b;rw[h]at c;simp![rX,yae,c]
theorem Good.vw{w:Nat}{d:List Tx}(g:Good cm w d)(n:1<=w)(m:w<=4)(h:d.Pairwise (λa b=>cF a b=ai)):vw w d=ai:=by
 have l:d.all (i6 w cm)=ai:=by rw[ke];intro x f;unfold i6;rw[g.len x f,decide_eq_true rfl,Bool.true_and,ke];intro c i;simpa using g.abc x f c i
 have j:decide (d=aV d)=ai:=decide_eq_true (qk h).symm;show rK cm w d=ai;unfold rK;rw[l,j,decide_eq_true (show 1<=(w:Int)/\(w:Int)<=4 by lia),decide_eq_true (show 1<=d.length/\d.length<=9 from⟨g.some,g.few⟩)];rfl
end
section
variable{a:Ad}
def sq(c:Nat):PV:=.str [c]
abbrev b7(w:Nat)(ls:List Tx):PV:=.tup [.int w,.tup (am ls)]
theorem CP(b:List Tx):ig (am b)=aa (cy b):=by
 induction b with
 |nil=>rfl
 |cons x b c=>show(cV (.str x)).bind (λv=>(ig (am b)).map (v::·))=_;rw[c];rfl
theorem Ea(b:List Tx)(x:Tx):oj (am b) (.str x)=aa (.int (b.count x:Nat)):=by show(cV (.str x)).bind (λv=>(ig (am b)).map λc=>PV.int (c.countP λz=>cZ z v))=_;rw[CP,<-Ib];rfl
theorem NL(w:Nat)(b:List Tx)(t:Tx)(p:t.length<=60):mP a [↥t,⇑w,.val (.tup (am b))]=.ok (.val (.bl (unD w b t))) [↥t,⇑w,.val (.tup (am b))]:=by
 have g:=zw (a:=a) t w p
 let M:=aV (be t w)
 have f:=kI (cap:=[3,2]) (dt:=dYes) (de:=(d2 (hG λi j=>decide (i<=j)) (lM oj (dV 1) (dV 0)) (lM oj (dV 2) (dV 0)))) (ε:=[↥t,⇑w,.val (.tup (am b)),.val (.tup (am M))]) (λ_=>ai) (λx=>match x with|.str z=>.bl (decide (M.count z<=b.count z))|_=>.non) (am M)
  (by intro x c;obtain⟨z,_,rfl⟩:=cp.mp c;refine⟨by simp![eN,eD,dQ,dYes],λ_=>?_⟩;have n:=Ea M z;have m:=Ea b z;generalize am M=A at n;generalize am b=B at m;simp![eN,eD,dQ,lM,n,m]) []
 have q:((am M).filter (λ_=>ai)).map (λx=>match x with|.str z=>PV.bl (decide (M.count z<=b.count z))|_=>.non)=(M.map λz=>decide (M.count z<=b.count z)).map .bl:=by rw[AW.mpr (by simp)];unfold am;rw[eu,eu];rfl
 rw[fH,q]at f;have o:(M.map λz=>decide (M.count z<=b.count z)).all id=unD w b t:=by
  rw[xj];unfold unD;have d:=eE (be t w);rw[lg,ke,ke];constructor
  .intro h x c;have:=h x (d.mem_iff.mpr c);simp only[xD,id,M,d.count_eq]at this;exact this
  .intro h x c;have:=h x (d.mem_iff.mp c);simp only[xD,id,M,d.count_eq];exact this
 generalize (M.map λz=>decide (M.count z<=b.count z))=bs at f o;have l:=yD bs;rw[o]at l;change mJ a _=R.ok (Slot.val (.tup (am M))) _ at g;generalize am M=MM at g f;clear_value M;simp![mP,yaw,g,cS,cD,jA,f,l]
end
end Sh
namespace Mx
open L2 Pu
theorem wo{z:Tx}{w:Nat}(a:1<=w):(be z w).length=z.length+1-w:=by rw[lX z w a];simp
def M4(t:Tx)(w:Nat):List Tx:=(cW t.length).filter λz=>(be z w).isPerm (be t w)
def ovD(a w:Tx):Nat->Nat
 |0=>0
 |k+1=>if w.take (k+1) <:+ a then k+1 else ovD a w k
def ov(a w:Tx):Nat:=ovD a w (w.length-1)
def adW(a w:Tx):Tx:=w.drop (ov a w)
theorem ovD_le(a w:Tx):∀k,ovD a w k<=k
 |0=>aZ _
 |k+1=>by unfold ovD;split;exact aZ _;exact FN (ovD_le a w k)
theorem ovD_suf(a w:Tx):∀k,w.take (ovD a w k) <:+ a
 |0=>by simp[ovD]
 |k+1=>by unfold ovD;split;assumption;exact ovD_suf a w k
theorem ovD_max(a w:Tx):∀k j,j<=k->w.take j <:+ a->j<=ovD a w k
 |0,j,h,_=>h
 |k+1,j,h,hs=>by
  unfold ovD;split
  .exact h
  .rename_i b;refine ovD_max a w k j ?_ hs;rcases F9 h with h|h
   .lia
   .subst h;exact absurd hs b
theorem ov_lt{a w:Tx}(h:1<=w.length):ov a w<w.length:=by have:=ovD_le a w (w.length-1);unfold ov;lia
theorem ov_nil(w:Tx):ov [] w=0:=by have h:=ovD_suf [] w (w.length-1);have b:=ovD_le [] w (w.length-1);unfold ov;have:=List.suffix_nil.mp h;have a:=congrArg lm this;rw[jk,gT]at a;lia
theorem adW_nil(w:Tx):adW [] w=w:=by unfold adW;rw[ov_nil];rfl
theorem adW_len(a w:Tx):(adW a w).length=w.length-ov a w:=by simp[adW]
theorem lay{a w:Tx}{n:Nat}(d:w.length=n)(c:1<=n)(g:a.length=n):∃p:Tx,1<=p.length/\a++adW a w=p++w:=by
 obtain⟨p,b⟩:=ovD_suf a w (w.length-1);have f:=ov_lt (a:=a) (w:=w) ∅;refine⟨p,?_,?_⟩
 .have:=congrArg lm b;rw[cK,jk]at this;have h:ov a w=ovD a w (w.length-1):=rfl;lia
 .show a++w.drop (ovD a w (w.length-1))=p++w;generalize ovD a w (w.length-1)=k at b;rw[<-b,kc,qJ]
def chain:Tx->List Tx->Tx
 |_,[]=>[]
 |a,w::b=>adW a w++chain w b
theorem chain_len(n:Nat):∀(b:List Tx) (a:Tx),(∀x∈b,x.length=n)->(chain a b).length<=b.length*n
 |[],_,_=>by simp[chain]
 |w::b,a,h=>by have d:=h w (by simp);have f:=chain_len n b w λx c=>h x (by simp[c]);rw[chain,cK,adW_len,d,dE,oX];lia
theorem chain_abc(l:Tx):∀(d:List Tx) (a:Tx),(∀x∈d,∀c∈x,c∈l)->∀c∈chain a d,c∈l
 |[],_,_,c,b=>by cases b
 |w::d,a,h,c,b=>by
  rcases iq.mp b with b|b
  .exact h w (by simp) c (List.mem_of_mem_drop b)
  .exact chain_abc l d w (λx f=>h x (by simp[f])) c b
theorem wins_cons{n:Nat}(a:1<=n)(c:Nat)(t:Tx)(h:n<=t.length+1):be (c::t) n=(c::t).take n::be t n:=by rw[lX _ _ a,lX _ _ a,dE,show t.length+1+1-n=(t.length+1-n)+1 by lia,xi,dO,eu];rfl
theorem wins_pre{n:Nat}(a:1<=n)(t:Tx)(h:n<=t.length):∀p:Tx,∃l:List Tx,be (p++t) n=l++be t n/\(1<=p.length->(p++t).take n∈l)/\l.length=p.length
 |[]=>⟨[],rfl,λz=>by simp at z,rfl⟩
 |c::p=>by obtain⟨l,d,_,b⟩:=wins_pre a t h p;refine⟨(c::(p++t)).take n::l,?_,λ_=>by simp,by simp[b]⟩;rw[iu,wins_cons a c (p++t) (by simp;lia),d];rfl
theorem wins_pre1{n:Nat}(a:1<=n)(t:Tx)(h:n<=t.length)(p:Tx)(b:1<=p.length):∃l:List Tx,be (p++t) n=(p++t).take n::(l++be t n):=by
 cases p with
 |nil=>simp at b
 |cons c p=>obtain⟨l,d,_,f⟩:=wins_pre a t h p;refine⟨l,?_⟩;rw[iu,wins_cons a c (p++t) (by simp;lia),d]
theorem chain_has{n:Nat}(c:1<=n):∀(b:List Tx) (a:Tx),a.length=n->(∀x∈b,x.length=n)->(a::b).Sublist (be (a++chain a b) n)
 |[],a,d,_=>by rw[chain,iP,lX _ _ c,d,show n+1-n=1 by lia];show [a].Sublist [(a.drop 0).take n];rw[xm,lp ∅];exact List.Sublist.refl _
 |w::b,a,d,h=>by
  have f:=h w (by simp);have i:=chain_has c b w f λx j=>h x (by simp[j]);obtain⟨p,m,e⟩:=lay (a:=a) f c d;have g:a++chain a (w::b)=p++(w++chain w b):=by rw[chain,<-kc,e,kc]
  obtain⟨l,o⟩:=wins_pre1 c (w++chain w b) (by simp;lia) p m;rw[g,o,<-g,AT ∅,lp ∅];exact List.Sublist.cons_cons _ (i.trans (List.sublist_append_right _ _))
def Has(n:Nat)(t:Tx)(a:List Tx):Prop:=∀x,a.count x<=(be t n).count x
theorem chain_has0{n:Nat}(c:1<=n){a b:List Tx}(h:∀x∈a,x.length=n)(p:a.Perm b):Has n (chain [] a) b:=λx=>by
 rw[<-p.count_eq];cases a with
 |nil=>simp
 |cons w a=>have:=chain_has c a w (h w (by simp)) λx d=>h x (by simp[d]);rw[chain,adW_nil];exact this.count_le x
theorem ltX_app(q x y:Tx):bf (q++x) (q++y)=bf x y:=by
 unfold bf;have e:(q++x<q++y)=(x<y):=by
  induction q with
  |nil=>rfl
  |cons c q a=>rw[iu,iu,List.cons_lt_cons_self];exact a
 simp only[cK,Nat.add_left_cancel_iff,Nat.add_lt_add_iff_left,e]
theorem ltX_len{x y:Tx}(h:x.length<y.length):bf x y=ai:=by unfold bf;rw[if_neg ∅];exact decide_eq_true h
theorem ltX_lenF{x y:Tx}(h:y.length<x.length):bf x y=aj:=by unfold bf;rw[if_neg ∅];exact decide_eq_false ∅
theorem ltX_le{x y:Tx}(h:bf x y=aj):y.length<=x.length:=by
 cases Nat.lt_or_ge x.length y.length with
 |inl z=>rw[ltX_len z]at h;cases h
 |inr z=>exact z
theorem ltX_asymm{x y:Tx}(h:bf x y=ai):bf y x=aj:=by
 cases q:bf y x with
 |false=>rfl
 |true=>have:=wb h q;rw[sm]at this;cases this
theorem ltX_le_trans{x y z:Tx}(b:bf y x=aj)(a:bf z y=aj):bf z x=aj:=by
 cases q:bf z x with
 |false=>rfl
 |true=>
  cases r:bf x y with
  |true=>have:=wb q r;rw[a]at this;cases this
  |false=>have:=vJ b r;subst this;rw[a]at q;cases q
theorem pick_sub:∀(m l:List Tx),(∀x,l.count x<=m.count x)->∃a:List Tx,a.Sublist m/\a.Perm l
 |[],l,h=>by
  have:l=[]:=by
   cases l with
   |nil=>rfl
   |cons x l=>have:=h x;simp at this
  subst this;exact⟨[],.slnil,.nil⟩
 |y::m,l,h=>by
  by_cases d:y∈l
  .obtain⟨a,c,b⟩:=pick_sub m (l.erase y) λx=>by
    have:=h x;by_cases e:y=x
    .subst e;rw[List.count_erase_self];rw[F_]at this;lia
    .rw[List.count_erase_of_ne (λz=>e z.symm)];rw[Ga e]at this;exact this
   exact⟨y::a,c.cons_cons y,(b.cons y).trans (Gb d).symm⟩
  .obtain⟨a,c,b⟩:=pick_sub m l λx=>by
    have:=h x;by_cases e:y=x
    .subst e;rw[List.count_eq_zero.mpr d];lia
    .rw[Ga e]at this;exact this
   exact⟨a,c.cons y,b⟩
theorem sub_at{n:Nat}(b:1<=n):∀(t:Tx) {w:Tx}{a:List Tx},(w::a).Sublist (be t n)->∃(q r:Tx),t=q++(w++r)/\w.length=n/\a.Sublist ((be (w++r) n).tail)
 |[],w,a,h=>by
  have:be [] n=[]:=rfl;rw[this]at h;cases h
 |c::t,w,a,h=>by
  by_cases d:n<=t.length+1
  .rw[wins_cons b c t d]at h;cases h with
   |cons _ h=>obtain⟨q,r,e,g,f⟩:=sub_at b t h;exact⟨c::q,r,by rw[e];rfl,g,f⟩
   |cons_cons _ h=>refine⟨[],(c::t).drop n,by simp,by simp;lia,?_⟩;rw[qJ,wins_cons b c t d];exact h
  .have:be (c::t) n=[]:=by rw[lX _ _ b,dE,show t.length+1+1-n=0 by lia];rfl
   rw[this]at h;cases h
theorem tail_wins{n:Nat}(b:1<=n){a r:Tx}(f:a.length=n):(be (a++r) n).tail=be ((a++r).drop 1) n:=by
 cases h:a++r with
 |nil=>have:=congrArg lm h;rw[cK,gT]at this;lia
 |cons c t=>have d:=congrArg lm h;rw[cK,dE]at d;rw[wins_cons b c t ∅];rfl
theorem chain_least{n:Nat}(f:1<=n):∀(b:List Tx) (a r:Tx),a.length=n->b.Sublist ((be (a++r) n).tail)->bf r (chain a b)=aj
 |[],a,r,_,_=>by
  unfold chain bf;split
  .rename_i e;rw[gT]at e;rw[jK e];rfl
  .exact decide_eq_false (by simp)
 |w::b,a,r,j,h=>by
  rw[tail_wins f j]at h;obtain⟨q,d,e,m,o⟩:=sub_at f _ h;have i:=chain_least f b w d m o;rw[chain];have A:∃p:Tx,1<=p.length/\a++r=p++(w++d):=by
   cases a with
   |nil=>simp at j;lia
   |cons c a=>rw[iu,Fx,xm]at e;exact⟨c::q,by simp,by rw[iu,e];rfl⟩
  obtain⟨p,D,g⟩:=A;have z:=congrArg lm g;simp only[cK]at z;have B:=ov_lt (a:=a) (w:=w) ∅;have C:n<=p.length+ov a w:=by
   by_cases u:n<=p.length
   .lia
   .have y:w.take (n-p.length) <:+ a:=by
     have x:a=p++w.take (n-p.length):=by have:=congrArg (List.take n) g;rw[AT ∅,lp ∅,List.take_append,lp (show p.length<=n by lia),AT ∅]at this;exact this
     exact⟨p,x.symm⟩
    have:=ovD_max a w (w.length-1) (n-p.length) ∅ y;have E:ov a w=ovD a w (w.length-1):=rfl;lia
  have l:=ltX_le i;by_cases v:p.length+ov a w=n
  .have s:r=adW a w++d:=by
    have:=congrArg (List.drop n) g;rw[xh ∅,AV ∅,fH,List.drop_append,AV (show p.length<=n by lia),fH,xh ∅]at this;rw[this];unfold adW;congr 2;lia
   rw[s,ltX_app];exact i
  .refine ltX_lenF ?_;rw[cK,adW_len];lia
theorem chain_least0{n:Nat}(b:1<=n){a:List Tx}{t:Tx}(h:a.Sublist (be t n)):bf t (chain [] a)=aj:=by
 cases a with
 |nil=>
  unfold chain bf;split
  .rename_i e;rw[gT]at e;rw[jK e];rfl
  .exact decide_eq_false (by simp)
 |cons w a=>
  obtain⟨q,r,e,d,f⟩:=sub_at b t h;have:=chain_least b a w r d f;rw[chain,adW_nil,e];have g:=ltX_le this;cases q with
  |nil=>rw[fH,ltX_app];exact this
  |cons c q=>exact ltX_lenF (by simp;lia)
def leN:Nat->Tx->List Tx->Tx
 |0,_,_=>[]
 |n+1,a,l=>(mL ((aV (bU l)).map λw=>adW a w++leN n w (l.erase w))).getD []
def LE(a:Tx)(l:List Tx):Tx:=leN l.length a l
theorem minX_some{l:List Tx}(h:l≠[]):∃x,mL l=aa x/\x∈l/\∀y∈l,bf y x=aj:=by
 cases l with
 |nil=>exact absurd rfl h
 |cons b r=>obtain⟨c,a⟩:=Da r b;exact⟨_,rfl,c,a⟩
theorem LE_step{a:Tx}{l:List Tx}(h:l≠[]):∃w∈l,LE a l=adW a w++LE w (l.erase w)/\∀y∈l,bf (adW a y++LE y (l.erase y)) (LE a l)=aj:=by
 have d:∀w,w∈aV (bU l)↔w∈l:=λw=>by rw[(eE _).mem_iff,lQ]
 obtain⟨n,g⟩:∃n,l.length=n+1:=⟨l.length-1,by have:=List.length_pos_iff.mpr h;lia⟩
 have p:((aV (bU l)).map λw=>adW a w++leN n w (l.erase w))≠[]:=by
  intro z;rw[FW]at z;obtain⟨w,c⟩:=List.exists_mem_of_ne_nil l h;have:=(d w).mpr c;rw[z]at this;cases this
 have i:∀w∈l,leN n w (l.erase w)=LE w (l.erase w):=λw c=>by unfold LE;rw[qW c,g];rfl
 obtain⟨x,o,m,j⟩:=minX_some p;have e:LE a l=x:=by unfold LE;rw[g];show(mL _).getD []=x;rw[o];rfl
 obtain⟨w,c,rfl⟩:=cp.mp m;have b:=(d w).mp c;refine⟨w,b,by rw[e,i w b],λy f=>?_⟩;rw[e,<-i y f];exact j _ (cp.mpr ⟨y,(d y).mpr f,rfl⟩)
theorem LE_chain:∀(m:Nat) (a:Tx) (l:List Tx),l.length=m->∃b:List Tx,b.Perm l/\LE a l=chain a b
 |0,a,l,h=>⟨[],by rw[jK h],by rw[jK h];rfl⟩
 |m+1,a,l,h=>by obtain⟨w,c,e,_⟩:=LE_step (a:=a) (l:=l) (by rintro rfl;simp at h);obtain⟨b,p,d⟩:=LE_chain m w (l.erase w) (by rw[qW c,h];rfl);exact⟨w::b,(p.cons w).trans (Gb c).symm,by rw[e,d];rfl⟩
theorem LE_least:∀(m:Nat) (a:Tx) (l b:List Tx),l.length=m->b.Perm l->bf (chain a b) (LE a l)=aj
 |0,a,l,b,h,p=>by have:=jK h;subst this;rw[List.perm_nil.mp p];rfl
 |m+1,a,l,b,h,p=>by
  cases b with
  |nil=>have:=p.length_eq;simp at this;lia
  |cons w b=>
   have c:w∈l:=p.mem_iff.mp (by simp);obtain⟨_,_,_,f⟩:=LE_step (a:=a) (l:=l) (by rintro rfl;simp at h);have d:b.Perm (l.erase w):=by have:=p.erase w;rwa[List.erase_cons_head]at this
   have g:=LE_least m w (l.erase w) b (by rw[qW c,h];rfl) d;rw[chain];refine ltX_le_trans (f w c) ?_;rw[ltX_app];exact g
def short(ls:List Tx):Tx:=LE [] ls
theorem short_has{n:Nat}(b:1<=n){a:List Tx}(h:∀x∈a,x.length=n):Has n (short a) a:=by obtain⟨d,p,e⟩:=LE_chain _ [] a rfl;unfold short;rw[e];exact chain_has0 b (λx c=>h x (p.mem_iff.mp c)) p
theorem short_least{n:Nat}(b:1<=n){ls:List Tx}{t:Tx}(h:Has n t ls):bf t (short ls)=aj:=by obtain⟨a,c,p⟩:=pick_sub _ _ h;exact ltX_le_trans (LE_least _ [] ls a rfl p) (chain_least0 b c)
theorem LE_len{n:Nat}{a:Tx}{ls:List Tx}(h:∀x∈ls,x.length=n):(LE a ls).length<=ls.length*n:=by obtain⟨b,p,e⟩:=LE_chain _ a ls rfl;rw[e,<-p.length_eq];exact chain_len n b a λx c=>h x (p.mem_iff.mp c)
theorem short_abc{l:Tx}{ls:List Tx}(h:∀x∈ls,∀c∈x,c∈l):∀c∈short ls,c∈l:=by obtain⟨a,p,e⟩:=LE_chain _ [] ls rfl;unfold short;rw[e];exact chain_abc l a [] λx b=>h x (p.mem_iff.mp b)
end Mx
namespace Sh
open L2 Pu Mx
section
variable{a:Ad}
def alB:ak->R aO:=(cE (dB (sd rH (dV 0) (au (dI cQ (dV 1) (eF) (dq (dV 2))) (aA)))) (cq (dI cQ (dV 1) (dq (dV 2)) (eF))) (c_))
theorem al_one(t w:Tx)(k:Nat)(f:Slot):alB ([↥t,↥w,f].set 2 (⇑k))=.ok (if w.take k <:+ t then .ret (↥(w.drop k))else .next) [↥t,↥w,⇑k]:=by
 have c:cQ (.str w) ae (aa ((k:Nat):Int))=aa (.str (w.take k)):=by show aa (PV.str (eV w ae _))=_;rw[yE]
 have d:cQ (.str w) (aa ((k:Nat):Int)) ae=aa (.str (w.drop k)):=by show aa (PV.str (eV w _ ae))=_;rw[yV]
 have b:rH t [.str (w.take k)]=aa (.bl (decide (w.take k <:+ t))):=rfl;by_cases h:w.take k <:+ t
 .rw[if_pos h];rw[decide_eq_true h]at b;generalize w.take k=T at c b;generalize w.drop k=D at d;generalize ((k:Nat):Int)=KI at c d;simp![alB,sd,ze,dI,dq,eF,c,d,b]
 .rw[if_neg h];rw[decide_eq_false h]at b;generalize w.take k=T at c b;generalize ((k:Nat):Int)=KI at c;simp![alB,sd,ze,dI,dq,eF,c,b]
theorem al_loop(t w:Tx):∀(k:Nat) (b:Slot),∃c,cz 2 alB (kY ((k:Nat):Int) k) [↥t,↥w,b]=.ok (if ovD t w k=0 then .next else .ret (↥(w.drop (ovD t w k)))) [↥t,↥w,c]
 |0,b=>⟨b,rfl⟩
 |k+1,b=>by
  have e:kY (((k+1:Nat)):Int) (k+1)=.int ((k+1:Nat):Int)::kY ((k:Nat):Int) k:=by unfold kY;rw[xi,dO,eu];refine congr (congrArg List.cons (by simp)) (nk λi _=>?_);show PV.int _=PV.int _;congr 1;lia
  have d:=al_one t w (k+1) b;rw[e,cz,d];unfold ovD;by_cases h:w.take (k+1) <:+ t
  .rw[if_pos h,if_pos h];exact⟨_,rfl⟩
  .rw[if_neg h,if_neg h];exact al_loop t w k _
theorem added_eq(t w:Tx)(o:1<=w.length)(p:w.length<=100):rV a [↥t,↥w]=.ok (↥(adW t w)) [↥t,↥w]:=by
 obtain⟨i,f⟩:=al_loop t w (w.length-1) .none;have j:aG [.str w]=aa (.int (w.length:Nat)):=by simp[aG]
 have g:eW (.int (w.length:Nat)) (.int 1)=aa (.int ((w.length-1:Nat):Int)):=by show aa (PV.int ((w.length:Int)-1))=_;congr 2;lia
 have d:rJ [.int ((w.length-1:Nat):Int),.int 0,.int (-1)]=aa (kY ((w.length-1:Nat):Int) (w.length-1)):=by show(if(-1:Int)=-1/\(0:Int)<=1000000/\(-1000000:Int)<=0/\((w.length-1:Nat):Int)<=1000000/\-1000000<=((w.length-1:Nat):Int)then aa (kY ((w.length-1:Nat):Int) (((w.length-1:Nat):Int)-0).toNat)else ae)=_;rw[if_pos ⟨rfl,by decide,by decide,∅,∅⟩];congr 2
 have m:sh (.int 1)=aa (.int (-1)):=rfl;have l:ov t w=ovD t w (w.length-1):=rfl;have b:(λc=>dR (cR 2 (dL rJ (au (d2 eW (dL aG (au (dV 1) (aA))) (dC (.int 1))) (au (dC (.int 0)) (au (d1 sh (dC (.int 1))) (aA))))) alB c)) [↥t,↥w,.none]=.ok (if ovD t w (w.length-1)=0 then .next else .ret (↥(w.drop (ovD t w (w.length-1))))) [↥t,↥w,i]:=by generalize (if ovD t w (w.length-1)=0 then aO.next else aO.ret (↥(w.drop (ovD t w (w.length-1)))))=FL at f;generalize kY ((w.length-1:Nat):Int) (w.length-1)=DW at f d;generalize ((w.length-1:Nat):Int)=W1 at g d;generalize ((w.length:Nat):Int)=W0 at j g;simp![dR,cR,j,g,m,d,f]
 have n:yac a [↥t,↥w,.none]=.ok (.ret (↥(adW t w))) [↥t,↥w,i]:=by
  show ba (λc=>dR (cR 2 _ alB c)) (cq (dV 1)) _=_;unfold adW;rw[l];by_cases h:ovD t w (w.length-1)=0
  .rw[if_pos h]at b;rw[h];exact(dm b).trans rfl
  .rw[if_neg h]at b;unfold ba;rw[b]
 simp[rV,bH,eU,bL,df,n,back,ga,a6,R.bind]
theorem idx_txP{l:List Tx}{x:Tx}(h:x∈l):∃k,k<l.length/\qj (am l) (.str x)=aa (.int k)/\l.take k++l.drop (k+1)=l.erase x:=by
 induction l with
 |nil=>cases h
 |cons y l i=>
  have g:∀b:List Tx,qj (am b) (.str x)=((cy b).findIdx? λz=>cZ z (tV x)).map λj=>PV.int (j:Nat):=λb=>by
   unfold qj;rw[CP];show Option.map (λj=>PV.int j) ((List.findIdx? (λz=>cZ z (tV x)) (cy b)).bind λa=>aa (a:Int))=_;cases List.findIdx? (λz=>cZ z (tV x)) (cy b) <;> rfl
  rw[g];show ∃k,k<(y::l).length/\((tV y::cy l).findIdx? λz=>cZ z (tV x)).map (λj=>PV.int (j:Nat))=_/\_;rw[List.findIdx?_cons,EQ];by_cases c:y=x
  .subst c;exact⟨0,by simp,by simp,by simp⟩
  .obtain⟨k,o,f,n⟩:=i ((br.mp h).resolve_left λz=>c z.symm);rw[g]at f;refine⟨k+1,by simp;lia,?_,?_⟩
   .rw[decide_eq_false c];obtain⟨j,m,d⟩:=ma.mp f;have:j=k:=by injection d with d;exact Int.ofNat.inj d
    subst this;rw[m];rfl
   .rw[List.take_succ_cons,Fx,iu,n,List.erase_cons_tail (by simpa using c)]
theorem add1_tx(b c:List Tx)(h:b.length+c.length<=1000):pJ (.tup (am b)) (.tup (am c))=aa (.tup (am (b++c))):=by
 cases b with
 |nil=>rfl
 |cons x b=>
  cases c with
  |nil=>show(if(am b).length<1000 then aa (PV.tup (.str x::am b))else ae)=_;rw[fD,if_pos (by simp at h;lia),iP];rfl
  |cons y c=>show(if(am (x::b)≠[]/\am (y::c)≠[]/\(am (x::b)).length+(am (y::c)).length<=1000)then aa (PV.tup (am (x::b)++am (y::c)))else ae)=_;rw[if_pos ⟨by simp[am],by simp[am],by rw[fD,fD];exact h⟩,OD]
theorem without_eq{l:List Tx}{x:Tx}(h:x∈l)(m:l.length<=100):sj a [.val (.tup (am l)),↥x]=.ok (.val (.tup (am (l.erase x)))) [.val (.tup (am l)),↥x]:=by
 obtain⟨k,j,g,i⟩:=idx_txP h;have d:cQ (.tup (am l)) ae (aa ((k:Nat):Int))=aa (.tup (am (l.take k))):=by show(if HT.sIx (am l).length 0 ae=0/\HT.sIx (am l).length (am l).length (aa ((k:Nat):Int))=(am l).length then ae else aa (PV.tup (eV (am l) ae (aa ((k:Nat):Int)))))=_;rw[if_neg (by rintro⟨_,z⟩;rw[HT.sIx_nat,fD]at z;lia),yE];simp[am]
 have c:cQ (.tup (am l)) (aa ((k+1:Nat):Int)) ae=aa (.tup (am (l.drop (k+1)))):=by show(if HT.sIx (am l).length 0 (aa ((k+1:Nat):Int))=0/\HT.sIx (am l).length (am l).length ae=(am l).length then ae else aa (PV.tup (eV (am l) (aa ((k+1:Nat):Int)) ae)))=_;rw[if_neg (by rintro⟨z,_⟩;rw[HT.sIx_nat,fD]at z;lia),yV];simp[am]
 have f:pJ (.int k) (.int 1)=aa (.int ((k+1:Nat):Int)):=rfl;have b:=add1_tx (l.take k) (l.drop (k+1)) (by simp;lia);rw[i]at b;generalize ((k+1:Nat):Int)=K1 at c f;generalize ((k:Nat):Int)=K0 at d f g;generalize am (l.take k)=P1 at d b;generalize am (l.drop (k+1))=P2 at c b;generalize am (l.erase x)=P3 at b;generalize am l=PL at d c g;simp![sj,yaA,lM,dI,dq,eF,g,d,c,f,b]
theorem NM(b:Bool)(c d:List Tx):Pu.eqT b (.tup (am c)) (.tup (am d))=aa (.bl (b^^decide (c=d))):=by show(if ii (.tup (am c))<=8 then(fO (am c) (am d)).map (λk=>PV.bl (b^^k))else ae)=_;rw[if_pos (by show gv (am c)+1<=8;rw[yd];decide),x0];rfl
def nextT(w:Nat)(b:List Tx)(t:Tx):List Tx:=(cm.map λc=>t++[c]).filter (unD w b)
theorem Od(w:Nat)(g:List Tx)(V j h u:Slot)(d:List Tx)(H:∀t∈d,t.length<=50)(M:(d.flatMap (nextT w g)).length<=999999):∃n,cz 6 (oD 5 (dF (cS [6,1,2] (cD (dC (.str [97,98,99]))) (dB (bB (bn (mP a) (gV (d2 bp (dV 1) (dV 0)) (gV (dV 2) (gV (dV 3) (Pu.cb))))))) (d2 bp (dV 1) (dV 0))))) (am d) [V,⇑w,.val (.tup (am g)),j,h,.own (.lst []),u]=.ok .next [V,⇑w,.val (.tup (am g)),j,h,.own (.lst (am (d.flatMap (nextT w g)))),n]:=by
 let f:=nextT w g
 obtain⟨D,C,n,p,rest,l,v,rfl⟩:=EI (i:=6) (db:=(oD 5 (dF (cS [6,1,2] (cD (dC (.str [97,98,99]))) (dB (bB (bn (mP a) (gV (d2 bp (dV 1) (dV 0)) (gV (dV 2) (gV (dV 3) (Pu.cb))))))) (d2 bp (dV 1) (dV 0))))))
  (I:=λr ε=>∃(n:Slot) (p rest:List Tx),d=p++rest/\r=am rest/\ε=[V,⇑w,.val (.tup (am g)),j,h,.own (.lst (am (p.flatMap f))),n])
  (by
   rintro x r ε ⟨n,p,rest,l,A,rfl⟩;cases rest with
   |nil=>cases A
   |cons t rest=>
    have o:x::r=.str t::am rest:=A;simp only[List.cons.injEq]at o;obtain⟨rfl,rfl⟩:=o;have G:=H t (by rw[l];simp);have m:=kI (cap:=[6,1,2]) (dt:=(dB (bB (bn (mP a) (gV (d2 bp (dV 1) (dV 0)) (gV (dV 2) (gV (dV 3) (Pu.cb)))))))) (de:=(d2 bp (dV 1) (dV 0))) (ε:=[V,⇑w,.val (.tup (am g)),j,h,.own (.lst (am (p.flatMap f))),↥t])
     (λx=>match x with|.str [c]=>unD w g (t++[c])|_=>aj) (λx=>match x with|.str [c]=>.str (t++[c])|_=>.non) (cm.map sq)
     (by
      intro x F;obtain⟨c,_,rfl⟩:=cp.mp F;have q:=NL (a:=a) w g (t++[c]) (by simp;lia);have y:bp (.str t) (.str [c])=aa (.str (t++[c])):=vI (by simp[cx];lia);simp only[sq];generalize am (p.flatMap f)=L;generalize unD w g (t++[c])=b at q;generalize t++[c]=tc at q y;generalize am g=B at q;refine⟨?_,λ_=>?_⟩
      .simp![eN,eD,dQ,y,q]
      .simp![eN,eD,dQ,y]) []
    have J:((cm.map sq).filter (λx=>match x with|.str [c]=>unD w g (t++[c])|_=>aj)).map (λx=>match x with|.str [c]=>PV.str (t++[c])|_=>.non)=am (f t):=by simp only[f,nextT];rw[nt,eu,nt];unfold am;rw[eu];rfl
    rw[fH,J]at m;have z:jA (.str [97,98,99])=aa (cm.map sq):=rfl;have s:(am (p.flatMap f)).length+(am (f t)).length<=cx:=by
     rw[fD,fD];have N:(p.flatMap f).length+(f t).length<=(d.flatMap (nextT w g)).length:=by rw[l,List.flatMap_append,xC,cK,cK];simp only[f];lia
     unfold cx;lia
    refine⟨[V,⇑w,.val (.tup (am g)),j,h,.own (.lst (am ((p++[t]).flatMap f))),↥t],?_,↥t,p++[t],rest,by rw[l];simp,rfl,rfl⟩;have K:am ((p++[t]).flatMap f)=am (p.flatMap f)++am (f t):=by simp[am]
    rw[K];generalize am (f t)=Y at m s;generalize am (p.flatMap f)=L at m s;generalize am g=B at m;generalize cm.map sq=A3 at m z;clear_value f;simp![oD,cS,cD,z,m,s])
  (am d) [V,⇑w,.val (.tup (am g)),j,h,.own (.lst (am (([]:List Tx).flatMap f))),u] ⟨u,[],d,by simp,rfl,rfl⟩
 have E:rest=[]:=by cases rest with|nil=>rfl|cons=>cases v
 subst E;rw[iP]at l;rw[<-l]at C;exact⟨n,C⟩
theorem NW{k:Nat}(h:k<=12):3^k<=531441:=cA (Nat.pow_le_pow_right (by decide) h) (by decide)
theorem Me{w:Nat}{c:List Tx}(g:Good cm w c)(u:1<=w)(w4:w<=4)(W:c.Pairwise (λa b=>cF a b=ai)):vz a [.val (b7 w c)]=.ok (.own (.lst (am (fM w c)))) [.val (b7 w c)]:=by
 have H:fM w c=(rowsOf w c (c.length+w-1)).filter (λz=>decide (aV (be z w)=c)):=by rw[HL W,wp u g.some λx r=>⟨g.len x r,g.abc x r⟩];congr 2;lia
 obtain⟨L,E⟩:∃L:Nat,c.length+w-1=L:=⟨_,rfl⟩
 rw[E]at H;have G:L<=12:=by have:=g.few;lia
 have J:aG [.tup (am c)]=aa (.int (c.length:Nat)):=by simp[aG,fD]
 have C:bp (.int (c.length:Nat)) (.int w)=aa (.int ((c.length:Int)+w)):=rfl;have A:eW (.int ((c.length:Int)+w)) (.int 1)=aa (.int L):=by show aa (PV.int ((c.length:Int)+w-1))=_;congr 2;lia
 have X:fN [.int L]=aa (cL 0 L):=oK ∅;have y:(cL 0 L).length=L:=by simp[cL]
 obtain⟨K,n,q,p,j,rfl⟩:=vm (i:=4) (db:=(ba (jY 5 (dL hU (aA)))
 (ba (cR 6 (cD (dV 3)) (oD 5 (dF (cS [6,1,2] (cD (dC (.str [97,98,99]))) (dB (bB (bn (mP a) (gV (d2 bp (dV 1) (dV 0)) (gV (dV 2) (gV (dV 3) (Pu.cb))))))) (d2 bp (dV 1) (dV 0))))))
 (bG 3 (dM 5)))))
  (I:=λk ε=>∃(q p j:Slot),ε=[.val (b7 w c),⇑w,.val (.tup (am c)),.val (.lst (am (rowsOf w c k))),q,p,j]) (N:=L)
  (by
   rintro k ε x hk ⟨q,p,j,rfl⟩;have o:∀t∈rowsOf w c k,t.length<=50:=λt S=>by have:=((lU k t).mp (iL.mp S).1).1;lia
   have e:(rowsOf w c k).flatMap (nextT w c)=rowsOf w c (k+1):=(MZ u c k).symm;have O:((rowsOf w c k).flatMap (nextT w c)).length<=999999:=by rw[e];have m:=OI w c (k+1);have h2:=NW (show k+1<=12 by lia);lia
   obtain⟨gZ,m⟩:=Od (a:=a) w c (.val (b7 w c)) (.val (.lst (am (rowsOf w c k)))) (.val x) j (rowsOf w c k) o O;rw[e]at m;refine⟨_,?_,.val x,.val (.lst (am (rowsOf w c (k+1)))),gZ,rfl⟩;generalize am (rowsOf w c (k+1))=R1 at m;generalize Y:am (rowsOf w c k)=R0 at m;simp only[b7]at m ⊢;have P:∀(d:ak->R aO) (s:List PV) (ε:ak),ε[3]?=aa (.val (.lst s))->cR 6 (cD (dV 3)) d ε=cz 6 d s ε:=λd s ε h=>by unfold cR cD dV;rw[h];rfl
   refine(dm (ε1:=[.val (.tup [.int w,.tup (am c)]),⇑w,.val (.tup (am c)),.val (.lst R0),.val x,.own (.lst []),j]) (by simp![])).trans ?_;refine(dm ((P _ R0 _ rfl).trans m)).trans ?_;simp[bG,dM,R.bind])
  (cL 0 L) 0 [.val (b7 w c),⇑w,.val (.tup (am c)),.val (.lst (am (rowsOf w c 0))),.none,.none,.none] ∅ ⟨.none,.none,.none,rfl⟩
 rw[y,tL,GN u]at n;have l:=kI (cap:=[1,2]) (dt:=(dB (d2 (Pu.eqT aj) (bB (bn (mJ a) (gV (dV 0) (gV (dV 1) (Pu.cb))))) (dV 2)))) (de:=dV 0) (ε:=[.val (b7 w c),⇑w,.val (.tup (am c)),.val (.lst (am (rowsOf w c L))),q,p,j])
  (λx=>match x with|.str z=>decide (aV (be z w)=c)|_=>aj) (λx=>x) (am (rowsOf w c L))
  (by
   intro x r;obtain⟨z,Q,rfl⟩:=cp.mp r;have v:z.length<=60:=by have:=((lU L z).mp (iL.mp Q).1).1;lia
   have F:=zw (a:=a) z w v;have f:=NM aj (aV (be z w)) c;simp only[Bool.false_xor]at f;generalize am (aV (be z w))=M at F f;generalize Z:decide (aV (be z w)=c)=D at f;generalize am (rowsOf w c L)=RR;simp only[b7];refine⟨?_,λ_=>?_⟩
   .simp only[Z];generalize am c=B at f;simp![eN,eD,dQ,F,f]
   .generalize am c=B;simp![eN,eD,dQ]) []
 have f:((am (rowsOf w c L)).filter (λx=>match x with|.str z=>decide (aV (be z w)=c)|_=>aj)).map (λx=>x)=am (fM w c):=by rw[List.map_id',H];unfold am;rw[nt];rfl
 rw[fH,f]at l;have e0:am [[]]=[.str []]:=rfl;rw[e0]at n;generalize am (fM w c)=T at l;generalize am (rowsOf w c L)=RR at l n;simp only[b7]at l n ⊢;generalize am c=B at l n J;simp![vz,yam,vY,J,C,A,dR,cR,X,n,uV,cS,cD,jA,l]
end
end Sh
namespace Mx
open L2 Pu
def lZ(z:Tx)(i:Nat):Nat:=z.getD (i % z.length) 0
def Jy(z:Tx)(w:Nat):Tx:=((df w z).flatten).take (z.length+w-1)
theorem Jt:∀{l:List Tx}{y:Tx},y∈l->¬y<gG l:=by
 have d:∀(r:List Tx) (x y:Tx),y∈x::r->¬y<r.foldl (λb y=>if y<b then y else b) x:=by
  intro r
  induction r with
  |nil=>intro x y h;rw[eR]at h;subst h;exact qU _
  |cons z r a=>
   intro x y h;rw[j_];rcases br.mp h with rfl|h
   .by_cases c:z<y
    .rw[if_pos c];have:=a z z (by simp);intro q;exact this (List.lt_trans c q)
    .rw[if_neg c];exact a y y (by simp)
   .rcases br.mp h with rfl|h
    .by_cases c:y<x
     .rw[if_pos c];exact a y y (by simp)
     .rw[if_neg c];intro q;have f:=a x x (by simp);have:x<=y:=c;exact f (List.lt_of_le_of_lt this q)
    .exact a _ y (by simp[h])
 intro l y h;cases l with
 |nil=>cases h
 |cons x r=>exact d r x y h
end Mx
namespace Sh
open L2 Pu Mx
section
variable{a:Ad}
def BR(t:Tx)(v:Nat):List Tx:=(bI (t.length+1-v)).map λi=>(t.drop i).take v
def hZ(lo hi:Nat):List Nat:=iS lo (hi-lo)
theorem Qb{b c x:Nat}:x∈hZ b c↔b<=x/\x<c:=by unfold hZ;rw[List.mem_range'_1];lia
theorem OB(b n:Nat):cL (b:Nat) n=(iS b n).map λx=>PV.int (x:Nat):=by unfold cL;rw[List.range'_eq_map_range,eu];refine nk λx _=>?_;simp
theorem ET{lo hi:Nat}(c:lo<=1000)(b:hi<=1000):oq [.int lo,.int hi]=aa ((hZ lo hi).map λx=>.int (x:Nat)):=by show(if _ then _ else _)=_;rw[if_pos ⟨∅,∅,∅,∅⟩];congr 1;rw[show(((hi:Nat):Int)-((lo:Nat):Int)).toNat=hi-lo by lia];exact OB lo (hi-lo)
def part(t:Tx)(i j:Nat):Tx:=(t.drop i).take (j-i)
theorem Lw(t:Tx)(j:Nat):cQ (.str t) ae (aa (j:Nat))=aa (.str (t.take j)):=by show aa (PV.str (eV t ae (aa (j:Nat))))=_;rw[yE]
theorem A_(t:Tx)(i:Nat):cQ (.str t) (aa (i:Nat)) ae=aa (.str (t.drop i)):=by show aa (PV.str (eV t (aa (i:Nat)) ae))=_;rw[yV]
def lZ(b:List Tx)(i:Nat):Tx:=b.getD i []
def MV(t:Tx)(s e g l:Nat):Tx:=t.take s++part t g l++part t e g++part t s e++t.drop l
def M7(t:Tx)(b:List Tx)(s g e:Nat):List Tx:=(hZ (g+1) b.length).flatMap λl=>if lZ b e=lZ b l then [MV t s e g l] else []
def JO(t:Tx)(b:List Tx)(s g:Nat):List Tx:=(hZ (s+1) (g+1)).flatMap λe=>M7 t b s g e
theorem Du{i:Nat}{g:ak->R (List PV)}{j:ak->R aO}{d c b:ak}{f:List PV}(h:g d=.ok f c)(l:cz i j f c=.ok .next b):cR i g j d=.ok .next b:=by unfold cR;rw[h];exact l
theorem Ot{i:Nat}{g:ak->R (List PV)}{j:ak->R aO}{d c b:ak}{f:List PV}(h:g d=.ok f c)(l:cz i j f c=.ok .next b):(λd=>dR (cR i g j d)) d=.ok .next b:=by show dR _=_;rw[Du h l];rfl
theorem BX{i:Nat}{d:ak->R (List PV)}{f d2:ak->R aO}{b ε1 c:ak}{xs:List PV}(h:d b=.ok xs ε1)(g:cz i f xs ε1=.ok .next c):ba (λb=>dR (cR i d f b)) d2 b=d2 c :=dm (d1:=λb=>dR (cR i d f b)) (Ot h g)
end
section
variable{a:Ad}
def Hb(t:Tx)(b:List Tx)(s:Nat):List Tx:=(hZ (s+1) b.length).flatMap λg=>if lZ b s=lZ b g then JO t b s g else []
def L6(t:Tx)(b:List Tx):List Tx:=(hZ 0 b.length).flatMap λs=>Hb t b s
def Gw(t:Tx)(m w:Nat):List Tx:=(hZ 1 m).map λp=>Jy ((t.take m).drop p++(t.take m).take p) w
def Ko(t:Tx)(b:List Tx)(w:Nat):List Tx:=if lZ b 0=lZ b (b.length-1)then Gw t (b.length-1) w else []
def stepL(t:Tx)(w:Nat):List Tx:=L6 t (BR t (w-1))++Ko t (BR t (w-1)) w
def HM(t:Tx)(m:Nat):List Tx:=(hZ 1 m).map λp=>part (df 3 (t.take m)).flatten p (p+t.length)
def jv(t:Tx)(b:List Tx):List Tx:=if lZ b 0=lZ b (b.length-1)then HM t (b.length-1)else []
end
section
variable{v:Nat}
def oc(v:Nat)(M:List Tx)(y:Tx):Nat:=(M.map λx=>if x.take v=y then 1 else 0).sum
abbrev en(v:Nat)(t:Tx):Tx:=t.drop (t.length-v)
abbrev b2(p:Prop)[Decidable p]:Nat:=if p then 1 else 0
end
inductive WN(w:Nat):Nat->Tx->Tx->Prop
 |here (n:Nat) (t:Tx):WN w n t t
 |on {n:Nat}{t u z:Tx}:WN w n t u->z∈stepL u w->WN w (n+1) t z
def Full(w:Nat)(t:Tx)(k:Nat):Prop:=∀z∈M4 t w,WN w k t z
abbrev ks(m:List (Tx×Int)):List Tx:=m.map (·.1)
def b1(p:Prop)[Decidable p]:Int:=if p then 1 else 0
def exc(a:List Tx)(y:Tx):Int:=(a.map λx=>b1 (x.dropLast=y)-b1 (x.tail=y)).sum
section
variable{a:Ad}
def f2(a:Ad):ak->R aO:=bG 2 (dF (cS [1] (cD (dF (OK 1))) (dB (d2 (hG λi j=>decide (j<i)) (Ek 1 (dV 0)) (dC (.int 0)))) (dV 0)))
def f3:ak->R aO:=cE (dB (d2 (hG λi j=>decide (j<i)) (dL aG (au (dV 2) (aA))) (dC (.int 1)))) (cq (dL cu (au (dC (.str [116,119,111])) (au (d2 bO (dV 2) (dC (.int 0))) (au (d2 bO (dV 2) (dC (.int 1))) (aA)))))) (c_)
def f4:ak->R aO:=cE (BV (dB (d2 (eqT aj) (dL aG (au (dV 2) (aA))) (dC (.int 1)))) (dB (d2 (hG λi j=>decide (j<i)) (Ek 1 (d2 bO (dV 2) (dC (.int 0)))) (dC (.int 1))))) (cq (dL cu (au (dC (.str [109,111,114,101])) (au (d2 bO (dV 2) (dC (.int 0))) (aA))))) (c_)
end
end Sh
namespace Mx
open L2 Pu
theorem La{w:Nat}{ls:List Tx}(d:1<=w)(f:1<=ls.length)(g:∀x∈ls,x.length=w/\∀c∈x,c∈cm):(fM w ls).Pairwise (λa b=>cF a b=ai):=by rw[wp d f g];exact(By _).filter _
theorem uT{w:Nat}{ls:List Tx}(d:1<=w)(h:1<=ls.length)(i:∀x∈ls,x.length=w/\∀c∈x,c∈cm)(g:ls.Pairwise (λa b=>cF a b=ai)){z:Tx}(f:∀c∈z,c∈cm):z∈fM w ls↔aV (be z w)=ls:=by
 rw[wp d h i,iL,lU,List.isPerm_iff];constructor
 .rintro⟨_,p⟩;rw[u_ p,qk g]
 .intro e;have p:(be z w).Perm ls:=by rw[<-e];exact(eE _).symm
  have j:=p.length_eq;rw[wo d]at j;exact⟨⟨∅,f⟩,p⟩
theorem Bi{w:Nat}{ls:List Tx}(a:1<=w)(b:1<=ls.length)(d:∀x∈ls,x.length=w/\∀c∈x,c∈cm){z:Tx}(h:z∈fM w ls):z.length=w-1+ls.length/\∀c∈z,c∈cm:=by rw[wp a b d,iL,lU]at h;exact h.1
end Mx
namespace Sh
open L2 Pu Mx
theorem abc_of{t:Tx}{w:Nat}(a:1<=w)(f:w<=t.length)(h:∀x∈be t w,∀c∈x,c∈cm):∀c∈t,c∈cm:=by
 intro c d;obtain⟨i,g,rfl⟩:=List.mem_iff_getElem.mp d;have b:min i (t.length-w)<t.length+1-w:=∅
 refine h ((t.drop (min i (t.length-w))).take w) ?_ _ ?_
 .rw[lX t w a];exact cp.mpr ⟨_,j6.mpr b,rfl⟩
 .refine List.mem_iff_getElem.mpr ⟨i-min i (t.length-w),by simp;lia,?_⟩;rw[AF,AE];congr 1;lia
def hasT(w:Nat)(k:List Tx):Bool:=decide (fM w k≠[])
theorem has_iff{w:Nat}{d:List Tx}(g:Good cm w d)(f:1<=w)(m:d.Pairwise (λa b=>cF a b=ai)):(∃t,(be t w).Perm d)↔hasT w d=ai:=by
 have j:∀x∈d,x.length=w/\∀c∈x,c∈cm:=λx i=>⟨g.len x i,g.abc x i⟩
 unfold hasT;rw[decide_eq_true_iff];constructor
 .rintro⟨t,l⟩ e;have p:=l.length_eq;rw[wo f]at p;have q:=g.some;have n:=abc_of (t:=t) f ∅ (λx i=>g.abc x (l.mem_iff.mp i));have:=(uT f g.some j m n).mpr (by rw[u_ l];exact(qk m));rw[e]at this;cases this
 .intro h;obtain⟨z,r,e⟩:=List.exists_cons_of_ne_nil h;have o:z∈fM w d:=by rw[e];simp
  have n:=(Bi f g.some j o).2;have:=(uT f g.some j m n).mp o;exact⟨z,by rw[<-this];exact(eE _).symm⟩
section
variable{a:Ad}
theorem eqT_nil(b:Bool)(c:List Tx):Pu.eqT b (.lst (am c)) (.lst [])=aa (.bl (b^^decide (c=[]))):=by show(if ii (.lst (am c))<=8 then(fO (am c) (am [])).map (λk=>PV.bl (b^^k))else ae)=_;rw[if_pos (by show gv (am c)+1<=8;rw[yd];decide),x0];rfl
theorem sortSetTP_eq{k:List Tx}(h:k.length<=1000):jZ [.tup (am k)]=aa (.lst (am (aV (bU k)))):=by show(fE (am k)).bind _=_;rw[pT,jn,if_pos];have:(bU k).length<=k.length:=(My k).length_le_of_subset λz b=>(lQ _ _).mp b;lia
end
def TT:Nat->Nat
 |0=>0
 |m+1=>1+(m+1)*TT m
theorem TT_mono:∀{m n:Nat},m<=n->TT m<=TT n
 |m,0,h=>by rw[Nat.le_zero.mp h];exact aZ _
 |m,n+1,h=>by
  rcases F9 h with h|h
  .have:=TT_mono (Nat.le_of_lt_succ h);show TT m<=1+(n+1)*TT n;have a:TT n<=(n+1)*TT n:=Nat.le_mul_of_pos_left _ ∅;lia
  .rw[h];exact aZ _
def Kept(m:Nat)(a:List ((Tx×List Tx)×PV)):Prop:=∀p∈a,p.1.2.length<=m/\p.2=.str (LE p.1.1 p.1.2)
theorem Kept.app{m:Nat}{x y:List ((Tx×List Tx)×PV)}(c:Kept m x)(b:Kept m y):Kept m (x++y):=λp a=>(iq.mp a).elim (c p) (b p)
theorem Kept.mono{m n:Nat}{x:List ((Tx×List Tx)×PV)}(h:Kept m x)(b:m<=n):Kept n x:=λp a=>⟨cA (h p a).1 b,(h p a).2⟩
theorem valN_none{a:List ((Tx×List Tx)×PV)}{k:Tx×List Tx}(h:∀p∈a,p.1≠k):valN a k=ae:=by unfold valN;rw[Gc.mpr λp b=>by simpa using h p b];rfl
theorem valN_app{x y:List ((Tx×List Tx)×PV)}{k:Tx×List Tx}(h:valN x k=ae):valN (x++y) k=valN y k:=by
 unfold valN at h ⊢;rw[List.find?_append];cases e:x.find? λa=>decide (a.1=k)with
 |none=>rfl
 |some p=>rw[e]at h;cases h
theorem valN_some{a:List ((Tx×List Tx)×PV)}{k:Tx×List Tx}{m:Nat}(h:Kept m a){v:PV}(e:valN a k=aa v):v=.str (LE k.1 k.2):=by unfold valN at e;obtain⟨p,c,rfl⟩:=ma.mp e;have d:=List.mem_of_find?_eq_some c;have b:=List.find?_some c;simp only[decide_eq_true_eq]at b;rw[(h p d).2,b]
section
variable{a:Ad}
def leB(a:Ad)(rc:ak->R Slot):ak->R aO:=(p_ 3 (d2 bp (bB (bn (rV a) (gV (dV 0) (gV (dV 4) (Pu.cb))))) (bB (bn (rc) (gV (dV 4) (gV (bB (bn (sj a) (gV (dV 1) (gV (dV 4) (Pu.cb))))) (gO 2 (Pu.cb))))))))
theorem le_step{f:ak->R Slot}{t y:Tx}{l:List Tx}(p:y∈l)(w:l.length<=9)(n:1<=y.length)(s:y.length<=4){h g:List ((Tx×List Tx)×PV)}{r:Tx}(u:r.length<=100)(j:f [↥y,.val (.tup (am (l.erase y))),.own (.dN h)]=.ok (↥r) [↥y,.val (.tup (am (l.erase y))),.own (.dN g)]) (b:List Tx) (v:b.length<=100) (o:Slot):leB a f ([↥t,.val (.tup (am l)),.own (.dN h),.own (.lst (am b)),o].set 4 (↥y))=.ok .next [↥t,.val (.tup (am l)),.own (.dN g),.own (.lst (am (b++[adW t y++r]))),↥y]:=by
 have m:=added_eq (a:=a) t y n ∅;have d:=without_eq (a:=a) p ∅;have x:=adW_len t y;have c:bp (.str (adW t y)) (.str r)=aa (.str (adW t y++r)):=vI (by simp[cx];lia);have i:(am b).length<cx:=by rw[fD];unfold cx;lia
 have q:am (b++[adW t y++r])=am b++[.str (adW t y++r)]:=by simp[am]
 rw[q];generalize adW t y++r=AR at c;generalize adW t y=A1 at m c;generalize am (l.erase y)=L2 at d j;generalize am l=L1 at d;generalize am b=ES at i;simp![leB,m,d,j,c,i]
theorem le_loop{rc:ak->R Slot}{t:Tx}{l:List Tx}{n:Nat}(s:1<=n)(r:n<=4)(p:∀x∈l,x.length=n)(C:l.length<=9){m:Nat}(N:l.length=m+1){f:List ((Tx×List Tx)×PV)}(A:Kept 9 f)(P:f.length+TT (m+1)<=900000)(v:∀(y:Tx) (o:List ((Tx×List Tx)×PV)),y∈l->Kept 9 o->o.length+TT m<=900000->∃more,Kept m more/\more.length<=TT m/\rc [↥y,.val (.tup (am (l.erase y))),.own (.dN o)]=.ok (↥(LE y (l.erase y))) [↥y,.val (.tup (am (l.erase y))),.own (.dN (o++more))]):∀(d:List Tx) (c:List Tx) (more:List ((Tx×List Tx)×PV)) (g:Slot),(∀y∈d,y∈l)->c.length+d.length<=l.length->Kept m more->more.length<=c.length*TT m -> ∃b F,Kept m b/\b.length<=(c.length+d.length)*TT m/\cz 4 (leB a rc) (am d) [↥t,.val (.tup (am l)),.own (.dN (f++more)),.own (.lst (am c)),g]=.ok .next [↥t,.val (.tup (am l)),.own (.dN (f++b)),.own (.lst (am (c++d.map λy=>adW t y++LE y (l.erase y)))),F]
 |[],c,more,g,_,_,q,B=>⟨more,g,q,by simpa using B,by simp[cz,am]⟩
 |y::d,c,more,g,i,T,q,B=>by
  have h:=i y (by simp);simp only[dE]at T;have E:(c.length+1)*TT m<=(m+1)*TT m:=Nat.mul_le_mul_right _ ∅;have X:TT (m+1)=1+(m+1)*TT m:=rfl;rw[oX]at E;obtain⟨I,K,W,O⟩:=v y (f++more) h (A.app (q.mono ∅)) (by rw[cK];lia);have Y:=LE_len (n:=n) (a:=y) (ls:=l.erase y) λx M=>p x (List.mem_of_mem_erase M);have j:(LE y (l.erase y)).length<=100:=by
   have Q:(l.erase y).length<=9:=by rw[qW h];lia
   have:=xo Q r;lia
  have D:=le_step (a:=a) (t:=t) h C (by rw[p y h];exact s) (by rw[p y h];exact r) j O c ∅ g;rw[kc]at D;obtain⟨H,G,J,u,w⟩:=le_loop s r p C N A P v d (c++[adW t y++LE y (l.erase y)]) (more++I) (↥y) (λz L=>i z (by simp[L])) (by simp;lia) (q.app K) (by rw[cK,cK,qG,oX];lia);refine⟨H,G,J,by simp only[cK,qG]at u;rw[dE,show c.length+(d.length+1)=c.length+1+d.length by lia];exact u,?_⟩;have S:am (y::d)=.str y::am d:=rfl;rw[S,cz,D];simp only[kc,iu,fH,dO]at w ⊢;exact w
theorem le_eq:∀(k:Nat) (t:Tx) (l:List Tx) (b:List ((Tx×List Tx)×PV)) {n:Nat},1<=n->n<=4->(∀x∈l,x.length=n)->l.length<=9->l.length<k->Kept 9 b->b.length+TT l.length<=900000 -> ∃more,Kept l.length more/\more.length<=TT l.length/\jS a k [↥t,.val (.tup (am l)),.own (.dN b)]=.ok (↥(LE t l)) [↥t,.val (.tup (am l)),.own (.dN (b++more))]
 |0,t,l,b,n,_,_,_,_,h,_,_=>∅
 |k+1,t,l,b,n,n1,n4,hn,h9,hk,hK,hB=>by
  have s:aG [.tup (am l)]=aa (.int (l.length:Nat)):=by simp[aG,fD]
  cases g:l.length with
  |zero=>
   have:=jK g;subst this;have e:Pu.eqT aj (.int 0) (.int 0)=aa (.bl ai):=rfl;refine⟨[],(λp c=>by cases c),by simp,?_⟩;have e2:LE t []=[]:=rfl;have K:aG [.tup (am ([]:List Tx))]=aa (.int 0):=rfl;rw[e2,iP];generalize am ([]:List Tx)=T0 at K;simp![jS,yay,K,e]
  |succ m=>
   have b9:l≠[]:=by rintro rfl;simp at g
   have D:Pu.eqT aj (.int (l.length:Nat)) (.int 0)=aa (.bl aj):=by rw[mM,decide_eq_false ∅];rfl
   have i:lJ (.tup [.str t,.tup (am l)])=aa (t,l):=by show(fE (am l)).map _=_;rw[pT];rfl
   have M:cu [.str t,.tup (am l)]=aa (.tup [.str t,.tup (am l)]):=rfl;cases o:valN b (t,l)with
   |some v=>
    have Q:=valN_some hK o;subst Q;refine⟨[],(λp c=>by cases c),by simp,?_⟩;rw[iP];generalize LE t l=LL at o;generalize ((l.length:Nat):Int)=NI at s D;generalize H:((t,l):Tx×List Tx)=KK at i o;generalize am l=PL at s i M;simp![jS,yay,s,D,oO,sX,gP,i,o]
   |none=>
    rw[g]at hB;have r:=sortSetTP_eq (k:=l) ∅;obtain⟨more,A,B,P,j⟩:=le_loop (a:=a) (rc:=jS a k) (t:=t) n1 n4 hn h9 g hK hB (λy B C gn O=>by
     have I:(l.erase y).length=m:=by rw[qW C,g];rfl
     have:=le_eq k y (l.erase y) B n1 n4 (λx W=>hn x (List.mem_of_mem_erase W)) ∅ ∅ gn (by rw[I];exact O);rw[I]at this;exact this) (aV (bU l)) [] [] .none (λy C=>(lQ l y).mp ((eE _).mem_iff.mp C)) (by
      rw[gT,tL,(eE _).length_eq];exact zp l) (λp c=>by cases c) (by simp)
    rw[iP,fH,show am []=[] from rfl]at j;have hT:TT (m+1)=1+(m+1)*TT m:=rfl;have uJ:more.length<=(m+1)*TT m:=by refine cA P (Nat.mul_le_mul_right _ ?_);rw[gT,tL,(eE _).length_eq,<-g];exact zp l
    have f:valN (b++more) (t,l)=ae:=by rw[valN_app o];refine valN_none λp c z=>?_;have:=(B p c).1;rw[z,g]at this;lia
    have F:mL ((aV (bU l)).map λy=>adW t y++LE y (l.erase y))=aa (LE t l):=by obtain⟨w,X,e,ff⟩:=LE_step (a:=t) b9;refine D1 (cp.mpr ⟨w,(eE _).mem_iff.mpr ((lQ l w).mpr X),e.symm⟩) λy C=>?_;obtain⟨z,T,rfl⟩:=cp.mp C;exact ff z ((lQ l z).mp ((eE _).mem_iff.mp T))
    have q:fE (am ((aV (bU l)).map λy=>adW t y++LE y (l.erase y)))=aa ((aV (bU l)).map λy=>adW t y++LE y (l.erase y)):=pT _;refine⟨more++[((t,l),.str (LE t l))],?_,by rw[cK,qG];lia,?_⟩
    .intro p c;rcases iq.mp c with c|c
     .exact⟨cA (B p c).1 ∅,(B p c).2⟩
     .rw[eR.mp c];exact⟨by rw[g];exact aZ _,rfl⟩
    .have J:jA (.lst (am (aV (bU l))))=aa (am (aV (bU l))):=rfl;have L:(b++more).length<cx:=by rw[cK];unfold cx;lia
     have d:valN (b++(more++[((t,l),PV.str (LE t l))])) (t,l)=aa (.str (LE t l)):=by rw[<-kc,valN_app f];simp[valN]
     have u:(b++more)++[((t,l),PV.str (LE t l))]=b++(more++[((t,l),PV.str (LE t l))]):=kc ..;generalize b++(more++[((t,l),PV.str (LE t l))])=KF at d u;generalize b++more=K2 at j f L u;generalize LE t l=LL at F d u;generalize ((aV (bU l)).map λy=>adW t y++LE y (l.erase y))=EN at j F q;generalize am EN=PE at j q;generalize ((l.length:Nat):Int)=NI at s D;generalize H:((t,l):Tx×List Tx)=KK at i o f d u;generalize am (aV (bU l))=SL at j r J;generalize am l=PL at s i M r j;have N:(λE=>dR (cR 4 (cD (dF (dL jZ (au (dV 1) (aA))))) (leB a (jS a k)) E)) [↥t,.val (.tup PL),.own (.dN b),.own (.lst []),.none]=.ok .next [↥t,.val (.tup PL),.own (.dN K2),.own (.lst PE),A]:=by simp![dR,cR,cD,r,J,j]
     have S:sN 2 (dL cu (au (dV 0) (au (dV 1) (aA)))) (pX 3) [↥t,.val (.tup PL),.own (.dN K2),.own (.lst PE),A]=.ok .next [↥t,.val (.tup PL),.own (.dN KF),.own (.lst PE),A]:=by simp![sN,pX,gP,q,F,i,L,f,u]
     have G:(cE (dB (oO ai 2 (dL cu (au (dV 0) (au (dV 1) (aA)))))) (ba (jY 3 (dL hU (aA))) (ba (λE=>dR (cR 4 (cD (dF (dL jZ (au (dV 1) (aA))))) (leB a (jS a k)) E)) (sN 2 (dL cu (au (dV 0) (au (dV 1) (aA)))) (pX 3)))) (c_)) [↥t,.val (.tup PL),.own (.dN b),.none,.none]=.ok .next [↥t,.val (.tup PL),.own (.dN KF),.own (.lst PE),A]:=by
      have h1:(dB (oO ai 2 (dL cu (au (dV 0) (au (dV 1) (aA)))))) [↥t,.val (.tup PL),.own (.dN b),.none,.none]=.ok ai [↥t,.val (.tup PL),.own (.dN b),.none,.none]:=by simp![oO,gP,i,o]
      have Z:(jY 3 (dL hU (aA))) [↥t,.val (.tup PL),.own (.dN b),.none,.none]=.ok .next [↥t,.val (.tup PL),.own (.dN b),.own (.lst []),.none]:=by simp![]
      unfold cE;rw[h1];simp only[R.bind_ok];exact(dm Z).trans ((dm N).trans S)
     have Y:yay a (jS a k) [↥t,.val (.tup PL),.own (.dN b),.none,.none]=.ok (.ret (↥LL)) [↥t,.val (.tup PL),.own (.dN KF),.own (.lst PE),A]:=by unfold yay;refine(dm (ε1:=[↥t,.val (.tup PL),.own (.dN b),.none,.none]) (by simp![s,D])).trans ?_;refine(dm G).trans ?_;simp![sX,gP,i,d]
     simp[jS,bH,eU,bL,df,Y,back,ga,a6,R.bind,lH]
theorem short_eq{w:Nat}{c:List Tx}(g:Good cm w c)(i:1<=w)(h:w<=4)(m:c.Pairwise (λa b=>cF a b=ai)):wa a [.val (b7 w c)]=.ok (↥(short c)) [.val (b7 w c)]:=by
 have j:rX a [.val (b7 w c)]=.ok (.val .non) [.val (b7 w c)]:=Ni (a:=a) (g.vw i h m);have l:=g.few;have o:TT c.length<=623530:=cA (TT_mono l) (by decide);obtain⟨more,_,_,d⟩:=le_eq (a:=a) 10 [] c [] i h g.len l ∅ (λp n=>by cases n) (by simp;lia);have f:bO (b7 w c) (.int 1)=aa (.tup (am c)):=rfl;rw[fH]at d;have e:LE [] c=short c:=rfl;rw[e]at d;generalize short c=SH at d;generalize am c=PL at d f;generalize b7 w c=V at j f;simp![wa,yaz,j,uX,vK,gN,zn,CM,f,d]
end
end Sh
namespace Mx
open L2 Pu
def atW(ws:List Tx)(i:Nat):Tx:=ws.getD i []
def txtO(ws:List Tx)(s:List Nat):Tx:=chain [] (s.map (atW ws))
theorem chain_snoc:∀(b:List Tx) (a u w:Tx),chain a (b++[u]++[w])=chain a (b++[u])++adW u w
 |[],a,u,w=>by simp[chain]
 |x::b,a,u,w=>by have c:=chain_snoc b x u w;simp only[iu,chain]at c ⊢;rw[c,kc]
theorem txtO_snoc(ws:List Tx)(s:List Nat)(q p:Nat):txtO ws (s++[q]++[p])=txtO ws (s++[q])++adW (atW ws q) (atW ws p):=by unfold txtO;simp only[qL,dO,wZ];exact chain_snoc _ _ _ _
def msk(s:List Nat):Nat:=s.foldl (λm i=>m ||| 2^i) 0
theorem msk_snoc(s:List Nat)(p:Nat):msk (s++[p])=msk s ||| 2^p:=by unfold msk;rw[At];rfl
theorem msk_go(s:List Nat):∀(m j:Nat),(s.foldl (λm i=>m ||| 2^i) m).testBit j=(m.testBit j||decide (j∈s)):=by
 induction s with
 |nil=>intro m j;simp
 |cons i s a=>
  intro m j;rw[j_,a,Nat.testBit_or,Nat.testBit_two_pow,Bool.or_assoc];congr 1;by_cases h:i=j
  .subst h;simp
  .have:j≠i:=λz=>h z.symm;simp[h,this]
theorem msk_bit(s:List Nat)(j:Nat):(msk s).testBit j=decide (j∈s):=by unfold msk;rw[msk_go];simp
theorem or_lt{m p:Nat}(h:m.testBit p=aj):m<m ||| 2^p:=by refine Nat.lt_of_le_of_ne Nat.left_le_or λe=>?_;have a:=congrArg (λx=>x.testBit p) e;simp only[Nat.testBit_or,Nat.testBit_two_pow,h]at a;simp at a
structure Ord(N:Nat)(s:List Nat):Prop where
 nd:s.Nodup
 lt:∀i∈s,i<N
theorem Ord.pre{N:Nat}{s:List Nat}{p:Nat}(h:Ord N (s++[p])):Ord N s/\p∉s/\p<N:=by have:=Az.mp h.nd;exact⟨⟨this.1,λi a=>h.lt i (by simp[a])⟩,λz=>this.2.2 p z p (by simp) rfl,h.lt p (by simp)⟩
theorem Ord.snoc{N:Nat}{s:List Nat}{p:Nat}(h:Ord N s)(f:p∉s)(g:p<N):Ord N (s++[p]):=by
 refine⟨Az.mpr ⟨h.nd,by simp,λa j b d=>by simp at d;subst d;rintro rfl;exact f j⟩,λi c=>?_⟩;rcases iq.mp c with c|c
 .exact h.lt i c
 .simp at c;subst c;exact g
theorem Ord.msk_lt{N:Nat}{s:List Nat}(h:Ord N s):msk s<2^N:=by refine Nat.lt_pow_two_of_testBit _ λi a=>?_;rw[msk_bit];exact decide_eq_false λz=>by have:=h.lt i z;lia
theorem Ord.full{N:Nat}{s:List Nat}(h:Ord N s)(a:msk s=2^N-1):s.Perm (bI N):=by
 refine(List.perm_ext_iff_of_nodup h.nd List.nodup_range).mpr λi=>?_;rw[j6];constructor
 .exact h.lt i
 .intro b;have:=msk_bit s i;rw[a,Nat.testBit_two_pow_sub_one,decide_eq_true b]at this;exact of_decide_eq_true this.symm
theorem full_of{N:Nat}{s:List Nat}(p:s.Perm (bI N)):Ord N s/\msk s=2^N-1:=by
 refine⟨⟨p.nodup_iff.mpr List.nodup_range,λi a=>j6.mp (p.mem_iff.mp a)⟩,Nat.eq_of_testBit_eq λj=>?_⟩;rw[msk_bit,Nat.testBit_two_pow_sub_one];by_cases h:j<N
 .rw[decide_eq_true h,decide_eq_true (p.mem_iff.mpr (j6.mpr h))]
 .rw[decide_eq_false h,decide_eq_false λz=>h (j6.mp (p.mem_iff.mp z))]
abbrev Tab:=List ((Nat×Tx)×Tx)
def getB(m:Tab)(k:Nat×Tx):Option Tx:=(m.find? λq=>decide (q.1=k)).map (·.2)
def putB(m:Tab)(k:Nat×Tx)(t:Tx):Tab:=if(m.any λq=>decide (q.1=k))=ai then m.map (λq=>if q.1=k then(q.1,t)else q)else m++[(k,t)]
theorem getB_mem{m:Tab}{k:Nat×Tx}{t:Tx}(h:getB m k=aa t):(k,t)∈m:=by unfold getB at h;obtain⟨q,b,rfl⟩:=ma.mp h;have a:=List.find?_some b;simp only[decide_eq_true_eq]at a;have c:=List.mem_of_find?_eq_some b;rw[<-a];exact c
theorem getB_map(k c:Nat×Tx)(t:Tx):∀m:Tab,getB (m.map λq=>if q.1=k then(q.1,t)else q) c=if c=k then(getB m k).map (λ_=>t)else getB m c
 |[]=>by simp[getB]
 |q::m=>by
  have d:=getB_map k c t m;unfold getB at d ⊢;rw[dO,gR];by_cases b:q.1=k
  .rw[if_pos b];by_cases a:c=k
   .subst a;rw[if_pos rfl,decide_eq_true b,gR,decide_eq_true b];rfl
   .rw[if_neg a,decide_eq_false (by rw[b];exact λz=>a z.symm),gR,decide_eq_false (by rw[b];exact λz=>a z.symm)];rw[if_neg a]at d;exact d
  .rw[if_neg b];by_cases a:c=k
   .subst a;rw[if_pos rfl,decide_eq_false b,gR,decide_eq_false b];rw[if_pos rfl]at d;exact d
   .rw[if_neg a,gR];rw[if_neg a]at d;by_cases f:q.1=c
    .rw[decide_eq_true f]
    .rw[decide_eq_false f];exact d
theorem getB_put(m:Tab)(k b:Nat×Tx)(t:Tx):getB (putB m k t) b=if b=k then aa t else getB m b:=by
 unfold putB;by_cases h:(m.any λq=>decide (q.1=k))=ai
 .rw[if_pos h,getB_map];by_cases a:b=k
  .rw[if_pos a,if_pos a];obtain⟨q,c,e⟩:=List.any_eq_true.mp h;cases d:getB m k with
   |some u=>rfl
   |none=>unfold getB at d;rw[Option.map_eq_none_iff,Gc]at d;exact absurd e (by simpa using d q c)
  .rw[if_neg a,if_neg a]
 .rw[if_neg h];have f:∀q∈m,¬q.1=k:=λq c e=>h (List.any_eq_true.mpr ⟨q,c,decide_eq_true e⟩);unfold getB;rw[List.find?_append];by_cases a:b=k
  .subst a;rw[if_pos rfl,Gc.mpr λq c=>by simpa using f q c];simp
  .rw[if_neg a];have:[((k,t):(Nat×Tx)×Tx)].find? (λq=>decide (q.1=b))=ae:=by simp;exact λz=>a z.symm
   rw[this,Option.or_none]
theorem mem_put{m:Tab}{k:Nat×Tx}{t:Tx}{q:(Nat×Tx)×Tx}(h:q∈putB m k t):q∈m\/q=(k,t):=by
 unfold putB at h;split at h
 .obtain⟨r,b,e⟩:=cp.mp h;by_cases a:r.1=k
  .rw[if_pos a]at e;right;rw[<-e,a]
  .rw[if_neg a]at e;left;rw[<-e];exact b
 .rcases iq.mp h with h|h
  .exact .inl h
  .exact .inr (eR.mp h)
theorem put_len(m:Tab)(k:Nat×Tx)(t:Tx):(putB m k t).length<=m.length+1:=by unfold putB;split <;> simp
def lowB(m:Tab)(k:Nat×Tx)(t:Tx):Tab:=match getB m k with
 |none=>putB m k t
 |some u=>if bf t u=ai then putB m k t else m
theorem low_len(m:Tab)(k:Nat×Tx)(t:Tx):(lowB m k t).length<=m.length+1:=by
 unfold lowB;split
 .exact put_len _ _ _
 .split
  .exact put_len _ _ _
  .lia
def Lo(m:Tab)(k:Nat×Tx)(t:Tx):Prop:=∃u,getB m k=aa u/\bf t u=aj
theorem low_lo(m:Tab)(k:Nat×Tx)(t:Tx):Lo (lowB m k t) k t:=by
 unfold lowB;split
 .exact⟨t,by rw[getB_put,if_pos rfl],sm t⟩
 .rename_i u a;split
  .exact⟨t,by rw[getB_put,if_pos rfl],sm t⟩
  .rename_i h;exact⟨u,a,by simpa using h⟩
theorem low_keep{m:Tab}{k c:Nat×Tx}{t d:Tx}(h:Lo m c d):Lo (lowB m k t) c d:=by
 obtain⟨u,a,b⟩:=h;unfold lowB;by_cases e:c=k
 .subst e;rw[a];dsimp only;split
  .rename_i z;refine⟨t,by rw[getB_put,if_pos rfl],ltX_le_trans ?_ b⟩;exact ltX_asymm z
  .exact⟨u,a,b⟩
 .split
  .exact⟨u,by rw[getB_put,if_neg e];exact a,b⟩
  .split
   .exact⟨u,by rw[getB_put,if_neg e];exact a,b⟩
   .exact⟨u,a,b⟩
theorem mem_low{m:Tab}{k:Nat×Tx}{t:Tx}{q:(Nat×Tx)×Tx}(h:q∈lowB m k t):q∈m\/q=(k,t):=by
 unfold lowB at h;split at h
 .exact mem_put h
 .split at h
  .exact mem_put h
  .exact .inl h
def Sound(a:List Tx)(m:Tab):Prop:=∀q∈m,∃s p,Ord a.length (s++[p])/\q.1=(msk (s++[p]),atW a p)/\q.2=txtO a (s++[p])
def goS(a:List Tx)(M:Nat)(t l:Tx)(m:Tab)(i:Nat):Tab:=if M.testBit i=aj then lowB m (M ||| 2^i,atW a i) (t++adW l (atW a i))else m
def goF(a:List Tx)(M:Nat)(t l:Tx)(m:Tab)(b:List Nat):Tab:=b.foldl (goS a M t l) m
theorem goS_len(a:List Tx)(M:Nat)(t l:Tx)(m:Tab)(i:Nat):(goS a M t l m i).length<=m.length+1:=by unfold goS;split;exact low_len _ _ _;lia
theorem goF_len(a:List Tx)(M:Nat)(t l:Tx):∀(b:List Nat) (m:Tab),(goF a M t l m b).length<=m.length+b.length
 |[],m=>aZ _
 |i::b,m=>by have d:=goF_len a M t l b (goS a M t l m i);have c:=goS_len a M t l m i;show(goF a M t l (goS a M t l m i) b).length<=_;rw[dE];lia
theorem goF_keep{b:List Tx}{M:Nat}{t l:Tx}{d:Nat×Tx}{c:Tx}:∀(a:List Nat) {m:Tab},Lo m d c->Lo (goF b M t l m a) d c
 |[],m,h=>h
 |i::a,m,h=>by
  refine goF_keep a (m:=goS b M t l m i) ?_;unfold goS;split
  .exact low_keep h
  .exact h
theorem goF_lo{ws:List Tx}{M:Nat}{t l:Tx}{i:Nat}(b:M.testBit i=aj):∀(a:List Nat) {m:Tab},i∈a->Lo (goF ws M t l m a) (M ||| 2^i,atW ws i) (t++adW l (atW ws i))
 |j::a,m,h=>by
  by_cases e:i=j
  .subst e;refine goF_keep a ?_;unfold goS;rw[if_pos b];exact low_lo _ _ _
  .exact goF_lo b a ((br.mp h).resolve_left e)
theorem goF_sound{a:List Tx}{M:Nat}{t l:Tx}{s:List Nat}{p:Nat}(o:Ord a.length (s++[p]))(f:msk (s++[p])=M)(n:atW a p=l)(g:t=txtO a (s++[p])):∀(b:List Nat) {m:Tab},(∀i∈b,i<a.length)->Sound a m->Sound a (goF a M t l m b)
 |[],m,_,h=>h
 |i::b,m,r,h=>by
  refine goF_sound o f n g b (m:=goS a M t l m i) (λj u=>r j (by simp[u])) ?_;unfold goS;split
  .rename_i v;intro q c;rcases mem_low c with c|rfl
   .exact h q c
   .have d:i∉s++[p]:=λz=>by
     have:=msk_bit (s++[p]) i;rw[f,v,decide_eq_true z]at this;cases this
    exact⟨s++[p],i,o.snoc d (r i (by simp)),by rw[msk_snoc,f],by rw[txtO_snoc,g,n]⟩
  .exact h
theorem lt_app_eq:∀(x y c:Tx),x.length=y.length->((x++c<y++c)↔(x<y))
 |[],[],c,_=>by simp[qU]
 |[],b::y,c,h=>by simp at h
 |a::x,[],c,h=>by simp at h
 |a::x,b::y,c,h=>by have d:=lt_app_eq x y c (by simpa using h);rw[iu,iu,AS,AS,d]
theorem ltX_suf(x y c:Tx):bf (x++c) (y++c)=bf x y:=by
 unfold bf;simp only[cK,Nat.add_right_cancel_iff,Nat.add_lt_add_iff_right];split
 .rename_i h;exact decide_eq_decide.mpr (lt_app_eq x y c h)
 .rfl
def Cpl(ws:List Tx)(M:Nat)(m:Tab):Prop:=∀s p,Ord ws.length (s++[p])->(s=[]\/msk s<M)->Lo m (msk (s++[p]),atW ws p) (txtO ws (s++[p]))
def stepL(ws:List Tx)(M:Nat)(m:Tab)(l:Tx):Tab:=match getB m (M,l)with
 |none=>m
 |some t=>goF ws M t l m (bI ws.length)
def lastF(ws:List Tx)(M:Nat)(m:Tab)(L:List Tx):Tab:=L.foldl (stepL ws M) m
theorem stepL_len(a:List Tx)(M:Nat)(m:Tab)(l:Tx):(stepL a M m l).length<=m.length+a.length:=by
 unfold stepL;split
 .lia
 .have:=goF_len a M ‹_› l (bI a.length) m;rw[qM]at this;exact this
theorem stepL_keep{ws:List Tx}{M:Nat}{l:Tx}{k:Nat×Tx}{t:Tx}{m:Tab}(h:Lo m k t):Lo (stepL ws M m l) k t:=by
 unfold stepL;split
 .exact h
 .exact goF_keep _ h
theorem lastF_keep{ws:List Tx}{M:Nat}{k:Nat×Tx}{t:Tx}:∀(L:List Tx) {m:Tab},Lo m k t->Lo (lastF ws M m L) k t
 |[],m,h=>h
 |l::L,m,h=>lastF_keep L (m:=stepL ws M m l) (stepL_keep h)
theorem stepL_sound{a:List Tx}{M:Nat}{m:Tab}{l:Tx}(h:Sound a m):Sound a (stepL a M m l):=by
 unfold stepL;split
 .exact h
 .rename_i t c;obtain⟨s,p,d,j,g⟩:=h _ (getB_mem c);have b:(M,l)=(msk (s++[p]),atW a p):=j;injection b with b h4;exact goF_sound d b.symm h4.symm g _ (λi f=>j6.mp f) h
theorem lastF_sound{a:List Tx}{M:Nat}:∀(L:List Tx) {m:Tab},Sound a m->Sound a (lastF a M m L)
 |[],m,h=>h
 |l::L,m,h=>lastF_sound L (m:=stepL a M m l) (stepL_sound h)
theorem lastF_lo{ws:List Tx}{M:Nat}{s:List Nat}{q p:Nat}(f:Ord ws.length (s++[q]++[p]))(a:msk (s++[q])=M):∀(L:List Tx) {m:Tab},Cpl ws M m->atW ws q∈L->Lo (lastF ws M m L) (msk (s++[q]++[p]),atW ws p) (txtO ws (s++[q]++[p]))
 |l::L,m,g,o=>by
  by_cases e:atW ws q=l
  .subst e;refine lastF_keep L (m:=stepL ws M m (atW ws q)) ?_;obtain⟨h,r,A⟩:=f.pre;obtain⟨v,b,_⟩:=h.pre;obtain⟨t,d,w⟩:=g s q h (by right;rw[<-a,msk_snoc];exact or_lt (by rw[msk_bit];exact decide_eq_false b));rw[a]at d;unfold stepL;rw[d];dsimp only;have x:M.testBit p=aj:=by rw[<-a,msk_bit];exact decide_eq_false r
   obtain⟨u,n,c⟩:=goF_lo (ws:=ws) (t:=t) (l:=atW ws q) x (bI ws.length) (m:=m) (j6.mpr A);refine⟨u,by rw[msk_snoc,a];exact n,ltX_le_trans c ?_⟩;rw[txtO_snoc,ltX_suf];exact w
  .refine lastF_lo f a L (m:=stepL ws M m l) (λi j z y=>stepL_keep (g i j z y)) ((br.mp o).resolve_left e)
theorem atW_mem{a:List Tx}{i:Nat}(h:i<a.length):atW a i∈a:=by unfold atW;rw[xz,eh h];exact As h
theorem mask_step{b L:List Tx}{M:Nat}{m:Tab}(g:∀x∈b,x∈L)(d:Cpl b M m):Cpl b (M+1) (lastF b M m L):=λs p c f=>by
 rcases List.eq_nil_or_concat s with rfl|⟨r,q,a⟩
 .exact lastF_keep L (d [] p c (.inl rfl))
 .rw[List.concat_eq_append]at a;subst a;by_cases h:msk (r++[q])<M
  .exact lastF_keep L (d _ p c (.inr h))
  .have:msk (r++[q])=M:=by
    rcases f with z|z
    .simp at z
    .lia
   exact lastF_lo c this L d (g _ (atW_mem (c.lt q (by simp))))
theorem map_atW(a:List Tx):(bI a.length).map (atW a)=a:=by refine List.ext_getElem (by simp) λi c b=>?_;simp[atW,b]
def endsB(m:Tab)(n:Nat):List Tx:=(m.filter λq=>decide (q.1.1=n)).map (·.2)
theorem ends_short{a:List Tx}(H:a≠[]){m:Tab}(y:Sound a m)(D:Cpl a (2^a.length) m):short a∈endsB m (2^a.length-1)/\∀t∈endsB m (2^a.length-1),bf t (short a)=aj:=by
 have r:∀t∈endsB m (2^a.length-1),bf t (short a)=aj:=λt h=>by
  obtain⟨q,A,rfl⟩:=cp.mp h;obtain⟨i,w⟩:=iL.mp A;obtain⟨s,p,g,F,E⟩:=y q i;have C:msk (s++[p])=2^a.length-1:=by have:=of_decide_eq_true w;rw[F]at this;exact this
  have c:=(g.full C).map (atW a);rw[map_atW]at c;rw[E];exact LE_least _ [] a _ rfl c
 refine⟨?_,r⟩;obtain⟨v,c,e⟩:=LE_chain _ [] a rfl;rw[<-map_atW a]at c;obtain⟨j,G,b⟩:=perm_mapE c;obtain⟨g,B⟩:=full_of b;have d:j≠[]:=λz=>by rw[z]at b;have:=b.length_eq;rw[qM,gT]at this;exact H (jK this.symm)
 rcases List.eq_nil_or_concat j with z|⟨s,p,f⟩
 .exact absurd z d
 .rw[List.concat_eq_append]at f;subst f;have h:txtO a (s++[p])=short a:=by unfold txtO short;rw[e,G]
  have x:msk s<2^a.length:=(g.pre.1).msk_lt;obtain⟨u,n,o⟩:=D s p g (.inr x);rw[B]at n;have l:u∈endsB m (2^a.length-1):=cp.mpr ⟨_,iL.mpr ⟨getB_mem n,by simp⟩,rfl⟩;rw[h]at o;have:=vJ (r u l) o;rw[<-this];exact l
end Mx
namespace Sh
open L2 Pu Mx
theorem first_of{L:List Nat}(g:L.Pairwise (· < ·)){p:Nat->Bool}{m:Nat}(h:m∈L)(l:p m=ai)(i:∀j∈L,p j=ai->m<=j):∃r,L.filter p=m::r:=by
 have b:=g.filter p;have a:m∈L.filter p:=iL.mpr ⟨h,l⟩;cases e:L.filter p with
 |nil=>rw[e]at a;cases a
 |cons x r=>
  rw[e]at a b;have f:x∈L.filter p:=by rw[e];simp
  obtain⟨d,c⟩:=iL.mp f;have:=i x d c;rcases br.mp a with z|z
  .exact⟨r,by rw[z]⟩
  .have:=(FA.mp b).1 m z;lia
theorem over_at{l w:Tx}{n:Nat}(g:l.length=n)(f:w.length=n)(o:1<=n):∃r,(hZ 1 (n+1)).filter (λj=>decide (l.drop j=w.take (n-j)))=(n-ov l w)::r:=by
 have m:=ov_lt (a:=l) (w:=w) ∅;have b:∀k,k<=n->(w.take k <:+ l↔l.drop (n-k)=w.take k):=λk h=>by rw[List.suffix_iff_eq_drop,jk,g,f,Nat.min_eq_left h];exact eq_comm
 refine first_of List.pairwise_lt_range' (Qb.mpr ∅) ?_ λj d c=>?_
 .have:=(b (ov l w) ∅).mp (ovD_suf l w (w.length-1));rw[decide_eq_true_iff,show n-(n-ov l w)=ov l w by lia];exact this
 .have d:=Qb.mp d;have c:=of_decide_eq_true c;have i:=(b (n-j) ∅).mpr (by rw[show n-(n-j)=j by lia];exact c);have:=ovD_max l w (w.length-1) (n-j) ∅ i;have p:ov l w=ovD l w (w.length-1):=rfl;lia
section
variable{a:Ad}
def ovT(l w:Tx)(n:Nat):PV->Bool
 |.int i=>decide (l.drop i.toNat=w.take (n-i.toNat))
 |_=>aj
theorem over_test{l w f W1:Tx}{c d b:Int}{B:Bool}(m:aG [.str l]=aa (.int c))(j:eW (.int c) (.int b)=aa (.int d))(h:cQ (.str l) (aa b) ae=aa (.str f))(g:cQ (.str w) ae (aa d)=aa (.str W1))(i:Pu.eqT aj (.str f) (.str W1)=aa (.bl (aj^^B))):dQ (eN [0,1] (dB (d2 (Pu.eqT aj) (dI cQ (dV 1) (dq (dV 0)) (eF)) (dI cQ (dV 2) (eF) (dq (d2 eW (dL aG (au (dV 1) (aA))) (dV 0)))))) (.int b) [↥l,↥w])=.ok B [↥l,↥w]:=by simp![eN,eD,dQ,dI,dq,eF,m,j,h,g,i]
theorem dL2_of{f:List PV->Option α}{d:ak->R PV}{b:ak}{x y:PV}{z:α}(h:d b=.ok y b)(c:f [x,y]=aa z):(dL f (au (dC x) (au d (aA)))) b=.ok z b:=by simp[dL,au,dC,aA,a6,R.bind,h,c]
theorem over_len{l w:Tx}{b c:Int}(f:aG [.str l]=aa (.int b))(d:bp (.int b) (.int 1)=aa (.int c)):(d2 bp (dL aG (au (dV 0) (aA))) (dC (.int 1))) [↥l,↥w]=.ok (.int c) [↥l,↥w]:=by simp[dL,au,dC,d2,dV,aA,a6,R.bind,f,d]
theorem over_end{DI:ak->R (List PV)}{DT:ak->R Bool}{DE:ak->R PV}{b:ak}{x:PV}{c:List Nat}{d f:List PV}(h:DI b=.ok d b)(i:jf c DT DE d [] b=.ok f b) (g:bO (.lst f) (.int 0)=aa x):cq (d2 bO (dF (cS c DI DT DE)) (dC (.int 0))) b=.ok (.ret (.val x)) b:=by simp[cq,d2,dF,cS,dC,h,i,a6,R.bind,g,yn]
theorem ov_rg{n:Nat}(b:n<=4):oq [.int 1,.int ((n+1:Nat):Int)]=aa ((hZ 1 (n+1)).map λx=>.int (x:Nat)):=ET (lo:=1) (hi:=n+1) ∅ ∅
theorem ov_add{n:Nat}:bp (.int n) (.int 1)=aa (.int ((n+1:Nat):Int)):=by show aa (PV.int _)=_;congr 2
theorem ovT_nat{l w:Tx}{n i:Nat}:ovT l w n (.int i)=decide (l.drop i=w.take (n-i)):=by simp only[ovT,gy]
theorem sub_nn{n i:Nat}(b:i<=n):eW (.int n) (.int i)=aa (.int ((n-i:Nat):Int)):=by rw[show((n-i:Nat):Int)=(n:Int)-(i:Int)from by lia];rfl
theorem ix_hd{r:List Nat}{m:Nat}:bO (.lst ((m::r).map λx=>PV.int (x:Nat))) (.int 0)=aa (.int (m:Int)):=by show dP (PV.int (m:Int)::_) 0=_;exact zh _ _
theorem grd_ret20{d:ak->R aO}{c b:PV}{f:Slot}(h:d [.val c,.val b]=.ok (.ret f) [.val c,.val b]):bH 2 [] (bL 0 d) [.val c,.val b]=.ok f [.val c,.val b]:=by simp[bH,eU,bL,df,h,back,ga,a6,R.bind]
theorem over_c{l w:Tx}{n:Nat}(f:l.length=n){r:List Nat}{m:Nat}(d:(hZ 1 (n+1)).filter (λj=>decide (l.drop j=w.take (n-j)))=m::r):jf [0,1] (dB (d2 (Pu.eqT aj) (dI cQ (dV 1) (dq (dV 0)) (eF)) (dI cQ (dV 2) (eF) (dq (d2 eW (dL aG (au (dV 1) (aA))) (dV 0)))))) (dV 0) ((hZ 1 (n+1)).map λx=>.int (x:Nat)) [] [↥l,↥w]=.ok ((m::r).map λx=>.int (x:Nat)) [↥l,↥w]:=by
 have o:aG [.str l]=aa (.int n):=by show aa (PV.int (l.length:Nat))=_;rw[f]
 have h:=kI (cap:=[0,1]) (dt:=dB (d2 (Pu.eqT aj) (dI cQ (dV 1) (dq (dV 0)) (eF)) (dI cQ (dV 2) (eF) (dq (d2 eW (dL aG (au (dV 1) (aA))) (dV 0)))))) (de:=dV 0) (ε:=[↥l,↥w]) (ovT l w n) (λv=>v) ((hZ 1 (n+1)).map λx=>.int (x:Nat))
  (by intro v c;obtain⟨i,b,rfl⟩:=cp.mp c;have b:=Qb.mp b;rw[ovT_nat];exact⟨over_test o (sub_nn ∅) (A_ l i) (Lw w (n-i)) (yK aj (l.drop i) (w.take (n-i))),λ_=>rfl⟩) []
 have g:(((hZ 1 (n+1)).map λx=>PV.int (x:Nat)).filter (ovT l w n)).map (λv=>v)=(m::r).map λx=>PV.int (x:Nat):=by rw[List.map_id',nt,<-d];congr 1
 rw[h,fH,g]
theorem over_eq{l w:Tx}{n:Nat}(b:l.length=n)(f:w.length=n)(d:1<=n)(c:n<=4):n6 a [↥l,↥w]=.ok (⇑((n-ov l w:Nat):Int)) [↥l,↥w]:=by
 obtain⟨r,g⟩:=over_at b f d;have h:aG [.str l]=aa (.int n):=by show aa (PV.int (l.length:Nat))=_;rw[b]
 unfold n6;refine grd_ret20 ?_;unfold yar;exact over_end (dL2_of (over_len h ov_add) (ov_rg c)) (over_c b g) ix_hd
def kT(k:Nat×Tx):cC:=[.inl (k.1:Nat),.inr (tS k.2)]
theorem kT_inj{k b:Nat×Tx}:kT k=kT b↔k=b:=by
 constructor
 .intro h;unfold kT at h;injection h with h1 h2;injection h2 with h2 _;injection h1 with h1;injection h2 with h2;obtain⟨x,y⟩:=k;obtain⟨d,c⟩:=b;simp only at h1 h2;rw[Int.ofNat_inj.mp h1,og h2]
 .rintro rfl;rfl
def tabP(m:Tab):List (cC×PV):=m.map λq=>(kT q.1,.str q.2)
theorem tab_val(m:Tab)(k:Nat×Tx):jd (tabP m) (kT k)=(getB m k).map PV.str:=by unfold jd getB tabP;rw[List.find?_map,Option.map_map,Option.map_map];congr 1;congr 1;funext q;exact decide_eq_decide.mpr kT_inj
theorem tab_put(m:Tab)(k:Nat×Tx)(t:Tx):mC (tabP m) (kT k) (.str t)=tabP (putB m k t):=by
 have h:((tabP m).any λb=>decide (b.1=kT k))=m.any λq=>decide (q.1=k):=by unfold tabP;rw[List.any_map];congr 1;funext q;exact decide_eq_decide.mpr kT_inj
 unfold mC putB;rw[h];split
 .unfold tabP;rw[eu,eu];refine nk λq _=>?_;show(if kT q.1=kT k then(kT q.1,PV.str t)else(kT q.1,.str q.2))=(λq:(Nat×Tx)×Tx=>(kT q.1,PV.str q.2)) (if q.1=k then(q.1,t)else q)
  by_cases e:q.1=k
  .rw[if_pos (kT_inj.mpr e),if_pos e]
  .rw[if_neg λz=>e (kT_inj.mp z),if_neg e]
 .simp[tabP]
theorem tab_len(m:Tab):(tabP m).length=m.length:=by simp[tabP]
theorem tkey_of(M:Nat)(x:Tx):kU (.tup [.int M,.str x])=aa (kT (M,x)):=rfl
theorem and_one(M i:Nat):tt ((M:Int) / 2^i) 1=if M.testBit i=ai then 1 else 0:=by
 have e:((M:Int) / 2^i)=((M / 2^i:Nat):Int):=by rw[Int.natCast_ediv,Int.natCast_pow];rfl
 rw[e];unfold tt;rw[decide_eq_true (Ff _),decide_eq_true (show(0:Int)<=1 by decide)];show(((((M / 2^i:Nat):Int).toNat &&& (1:Int).toNat:Nat)):Int)=_;rw[gy,show(1:Int).toNat=1 from rfl,Nat.and_one_is_mod,Nat.testBit_eq_decide_div_mod_eq];by_cases h:M / 2^i % 2=1
 .rw[h];simp
 .rw[show M / 2^i % 2=0 by lia];simp
theorem or_nat(M N:Nat):wQ (M:Int) (N:Int)=((M ||| N:Nat):Int):=by unfold wQ tt Builtin.bitNot;rw[decide_eq_false ∅,decide_eq_false ∅];show -(-(((( - (- (M:Int)-1)-1).toNat ||| (- (- (N:Int)-1)-1).toNat:Nat)):Int)-1)-1=_;rw[show(- (- (M:Int)-1)-1)=M by lia,show(- (- (N:Int)-1)-1)=N by lia,gy,gy];lia
end
theorem ltIS_X(x y:Tx):cX (x.length:Nat) (tS x) (y.length:Nat) (tS y)=bf x y:=by
 unfold cX bf;rw[jy,jy];by_cases h:x.length=y.length
 .rw[if_pos h,if_pos (by rw[h])]
 .rw[if_neg h,if_neg (λz=>h (Int.ofNat_inj.mp z))];exact decide_eq_decide.mpr ∅
theorem at_txP{ws:List Tx}{i:Nat}(h:i<ws.length):bO (.tup (am ws)) (.int i)=aa (.str (atW ws i)):=by show dP (am ws) (i:Nat)=_;unfold dP;rw[Ez ∅ (by rw[fD];lia)];simp[am,atW,h]
section
variable{a:Ad}
def goB(a:Ad):ak->R aO:=(cE (dB (d2 (Pu.eqT aj) (d2 l6 (d2 lI (dV 2) (dV 5)) (dC (.int 1))) (dC (.int 0)))) (ba (bG 6 (d2 bO (dV 1) (dV 5))) (ba (bG 7 (d2 bp (dV 3) (dI cQ (dV 6) (dq (d2 eW (dL aG (au (dV 6) (aA))) (bB (bn (n6 a) (gV (dV 4) (gV (dV 6) (Pu.cb))))))) (eF)))) (ba (bG 8 (dL cu (au (d2 nZ (dV 2) (d2 kQ (dC (.int 1)) (dV 5))) (au (dV 6) (aA))))) (ba (bG 9 (kX 0 (dV 8))) (cE (kF (dB (d2 (gH aj) (dV 9) (dC .non))) (dB (d2 kG (dL cu (au (dL aG (au (dV 7) (aA))) (au (dV 7) (aA)))) (dL cu (au (dL aG (au (dV 9) (aA))) (au (dV 9) (aA))))))) (jb 0 (dV 8) (dV 7)) (c_)))))) (c_))
def goC(a:Ad)(b c:PV):ak->R aO:=(cE (dB (d2 (Pu.eqT aj) (d2 l6 (d2 lI (dV 2) (dV 5)) (dC b)) (dC c))) (ba (bG 6 (d2 bO (dV 1) (dV 5))) (ba (bG 7 (d2 bp (dV 3) (dI cQ (dV 6) (dq (d2 eW (dL aG (au (dV 6) (aA))) (bB (bn (n6 a) (gV (dV 4) (gV (dV 6) (Pu.cb))))))) (eF)))) (ba (bG 8 (dL cu (au (d2 nZ (dV 2) (d2 kQ (dC b) (dV 5))) (au (dV 6) (aA))))) (ba (bG 9 (kX 0 (dV 8))) (cE (kF (dB (d2 (gH aj) (dV 9) (dC .non))) (dB (d2 kG (dL cu (au (dL aG (au (dV 7) (aA))) (au (dV 7) (aA)))) (dL cu (au (dL aG (au (dV 9) (aA))) (au (dV 9) (aA))))))) (jb 0 (dV 8) (dV 7)) (c_)))))) (c_))
theorem goC_skip{h i g c f d b x y:PV}{o:PO}{s6 s7 s8 s9:Slot}(m:lI c b=aa x)(j:l6 x h=aa y)(l:Pu.eqT aj y i=aa (.bl aj)):goC a h i [.own o,.val g,.val c,.val f,.val d,.val b,s6,s7,s8,s9]=.ok .next [.own o,.val g,.val c,.val f,.val d,.val b,s6,s7,s8,s9]:=by simp![goC,m,j,l]
theorem goC_on{m q h f g d c x y v u DR l PI j:PV}{TM:List (cC×PV)}{s:Int}{s6 s7 s8 s9:Slot}{b:Tx}{r:cC}(E:lI f c=aa x)(z:l6 x m=aa y)(B:Pu.eqT aj y q=aa (.bl ai))(A:bO h c=aa (.str b)) (G:aG [.str b]=aa v) (w:n6 a [.val d,↥b]=.ok (.val u) [.val d,↥b]) (D:eW v u=aa (.int s)) (n:cQ (.str b) (aa s) ae=aa DR) (p:bp g DR=aa l) (i:kQ m c=aa PI) (o:nZ f PI=aa j) (F:kU (.tup [j,.str b])=aa r):goC a m q [.own (.dT TM),.val h,.val f,.val g,.val d,.val c,s6,s7,s8,s9]=(cE (kF (dB (d2 (gH aj) (dV 9) (dC .non))) (dB (d2 kG (dL cu (au (dL aG (au (dV 7) (aA))) (au (dV 7) (aA)))) (dL cu (au (dL aG (au (dV 9) (aA))) (au (dV 9) (aA))))))) (jb 0 (dV 8) (dV 7)) (c_)) [.own (.dT TM),.val h,.val f,.val g,.val d,.val c,↥b,.val l,.val (.tup [j,.str b]),.val ((jd TM r).getD .non)]:=by
 unfold goC;have C:(dB (d2 (Pu.eqT aj) (d2 l6 (d2 lI (dV 2) (dV 5)) (dC m)) (dC q))) [.own (.dT TM),.val h,.val f,.val g,.val d,.val c,s6,s7,s8,s9]=.ok ai [.own (.dT TM),.val h,.val f,.val g,.val d,.val c,s6,s7,s8,s9]:=by simp![E,z,B]
 unfold cE;rw[C];simp only[R.bind_ok];refine(dm (ε1:=[.own (.dT TM),.val h,.val f,.val g,.val d,.val c,↥b,s7,s8,s9]) (by simp![A])).trans ?_;refine(dm (ε1:=[.own (.dT TM),.val h,.val f,.val g,.val d,.val c,↥b,.val l,s8,s9]) (by simp![dI,dq,eF,G,w,D,n,p])).trans ?_;refine(dm (ε1:=[.own (.dT TM),.val h,.val f,.val g,.val d,.val c,↥b,.val l,.val (.tup [j,.str b]),s9]) (by simp![i,o])).trans ?_;refine(dm (ε1:=[.own (.dT TM),.val h,.val f,.val g,.val d,.val c,↥b,.val l,.val (.tup [j,.str b]),.val ((jd TM r).getD .non)]) (by simp![kX,fq,F])).trans ?_;rfl
theorem goC_none{j i h g f d c b:PV}{TM TP:List (cC×PV)}{l:cC}(o:kU b=aa l)(p:TM.length<cx)(n:mC TM l c=TP):(cE (kF (dB (d2 (gH aj) (dV 9) (dC .non))) (dB (d2 kG (dL cu (au (dL aG (au (dV 7) (aA))) (au (dV 7) (aA)))) (dL cu (au (dL aG (au (dV 9) (aA))) (au (dV 9) (aA))))))) (jb 0 (dV 8) (dV 7)) (c_)) [.own (.dT TM),.val j,.val i,.val h,.val g,.val f,.val d,.val c,.val b,.val .non]=.ok .next [.own (.dT TP),.val j,.val i,.val h,.val g,.val f,.val d,.val c,.val b,.val .non]:=by have m:gH aj .non .non=aa (.bl ai):=rfl;simp![jb,fq,m,o,p,n]
theorem goC_some{n m l j i h b g v s:PV}{u:Tx}{B:Bool}{TM TP:List (cC×PV)}{w:cC}(q:kU g=aa w)(r:TM.length<cx)(p:mC TM w b=TP)(f:aG [b]=aa v)(d:aG [.str u]=aa s)(c:kG (.tup [v,b]) (.tup [s,.str u])=aa (.bl B)):(cE (kF (dB (d2 (gH aj) (dV 9) (dC .non))) (dB (d2 kG (dL cu (au (dL aG (au (dV 7) (aA))) (au (dV 7) (aA)))) (dL cu (au (dL aG (au (dV 9) (aA))) (au (dV 9) (aA))))))) (jb 0 (dV 8) (dV 7)) (c_)) [.own (.dT TM),.val n,.val m,.val l,.val j,.val i,.val h,.val b,.val g,↥u]=.ok .next [.own (.dT (if B=ai then TP else TM)),.val n,.val m,.val l,.val j,.val i,.val h,.val b,.val g,↥u]:=by
 have o:gH aj (.str u) .non=aa (.bl aj):=rfl;cases B with
 |true=>simp![jb,fq,o,q,r,p,f,d,c]
 |false=>simp![jb,fq,o,q,r,p,f,d,c]
theorem shl_one{i:Nat}(hi:i<=100):kQ (.int 1) (.int i)=aa (.int ((2^i:Nat):Int)):=by show(if 0<=((i:Nat):Int)/\((i:Nat):Int)<=1000000/\(1:Int).natAbs<2^64 then aa (PV.int (1*2^((i:Nat):Int).toNat))else ae)=_;rw[if_pos ⟨∅,∅,by decide⟩,gy,Int.one_mul,Int.natCast_pow];rfl
theorem goB_eq{b:List Tx}{n:Nat}(F:1<=n)(E:n<=4)(G:∀x∈b,x.length=n){M i:Nat}(v:i<b.length)(P:b.length<=9){t l:Tx}(N:t.length<=100)(H:l.length=n){m:Tab}(O:m.length<=500000)(s6 s7 s8 s9:Slot):∃I D j h,goB a [.own (.dT (tabP m)),.val (.tup (am b)),⇑M,↥t,↥l,⇑i,s6,s7,s8,s9]=.ok .next [.own (.dT (tabP (goS b M t l m i))),.val (.tup (am b)),⇑M,↥t,↥l,⇑i,I,D,j,h]:=by
 have A:lI (.int M) (.int i)=aa (.int ((M:Int) / 2^i)):=by show(if(0:Int)<=(i:Nat)then aa (PV.int ((M:Int) / 2^((i:Nat):Int).toNat))else ae)=_;rw[if_pos (Ff _),gy]
 have d:l6 (.int ((M:Int) / 2^i)) (.int 1)=aa (.int (if M.testBit i=ai then 1 else 0)):=by show aa (PV.int _)=_;rw[and_one]
 have g:=mM aj (if M.testBit i=ai then 1 else 0) 0;unfold goS;cases z:M.testBit i with
 |true=>rw[z,if_pos rfl]at d g;rw[if_neg (by decide)];exact⟨s6,s7,s8,s9,goC_skip A d g⟩
 |false=>
  rw[z,if_neg (by decide)]at d g;rw[if_pos rfl];have s:(atW b i).length=n:=G _ (atW_mem v);have K:aG [.str (atW b i)]=aa (.int n):=by show aa (PV.int _)=_;rw[s]
  have L:=ov_lt (a:=l) (w:=atW b i) ∅;have J:eW (.int n) (.int ((n-ov l (atW b i):Nat):Int))=aa (.int ((ov l (atW b i):Nat):Int)):=by rw[show((ov l (atW b i):Nat):Int)=(n:Int)-((n-ov l (atW b i):Nat):Int)from by lia];rfl
  have q:bp (.str t) (.str ((atW b i).drop (ov l (atW b i))))=aa (.str (t++adW l (atW b i))):=vI (by simp[cx];lia);have o:nZ (.int M) (.int ((2^i:Nat):Int))=aa (.int ((M ||| 2^i:Nat):Int)):=by show aa (PV.int _)=_;rw[or_nat]
  have f:=tab_val m (M ||| 2^i,atW b i);have r:=tab_put m (M ||| 2^i,atW b i) (t++adW l (atW b i));have B:(tabP m).length<cx:=by rw[tab_len];unfold cx;lia
  have c:=goC_on (a:=a) (TM:=tabP m) (s6:=s6) (s7:=s7) (s8:=s8) (s9:=s9) A d g (at_txP v) K (over_eq (a:=a) H s F E) J (A_ (atW b i) (ov l (atW b i))) q (shl_one ∅) o (tkey_of (M ||| 2^i) (atW b i));unfold lowB;cases y:getB m (M ||| 2^i,atW b i)with
  |none=>rw[y]at f;rw[f]at c;exact⟨_,_,_,_,c.trans (goC_none (tkey_of _ _) B r)⟩
  |some u=>
   rw[y]at f;rw[f]at c;have p:kG (.tup [.int ((t++adW l (atW b i)).length:Nat),.str (t++adW l (atW b i))]) (.tup [.int (u.length:Nat),.str u])=aa (.bl (bf (t++adW l (atW b i)) u)):=by show aa (PV.bl (cX _ _ _ _))=_;rw[ltIS_X]
   have C:=c.trans (goC_some (u:=u) (tkey_of _ _) B r rfl rfl p);rw[show(if bf (t++adW l (atW b i)) u=ai then tabP (putB m (M ||| 2^i,atW b i) (t++adW l (atW b i)))else tabP m)=tabP (if bf (t++adW l (atW b i)) u=ai then putB m (M ||| 2^i,atW b i) (t++adW l (atW b i))else m) by split <;> rfl]at C;exact⟨_,_,_,_,C⟩
theorem goB_loop{c:List Tx}{n:Nat}(w:1<=n)(v:n<=4)(z:∀x∈c,x.length=n){M:Nat}(C:c.length<=9){t l:Tx}(y:t.length<=100)(A:l.length=n):∀(d:List Nat) (m:Tab) (p o h g f:Slot),(∀i∈d,i<c.length)->m.length+d.length<=500000 -> ∃u T N s q,cz 5 (goB a) (d.map λi=>.int (i:Nat)) [.own (.dT (tabP m)),.val (.tup (am c)),⇑M,↥t,↥l,p,o,h,g,f]=.ok .next [.own (.dT (tabP (goF c M t l m d))),.val (.tup (am c)),⇑M,↥t,↥l,u,T,N,s,q]
 |[],m,p,o,h,g,f,_,_=>⟨p,o,h,g,f,rfl⟩
 |i::d,m,p,o,h,g,f,B,P=>by
  rw[dE]at P;obtain⟨G,F,E,D,S⟩:=goB_eq (a:=a) w v z (M:=M) (B i (by simp)) C y A (m:=m) ∅ o h g f;have W:=goS_len c M t l m i;obtain⟨L,K,J,I,H,O⟩:=goB_loop w v z C y A d (goS c M t l m i) (⇑i) G F E D (λj Q=>B j (by simp[Q])) ∅;refine⟨L,K,J,I,H,?_⟩;rw[dO,cz];show(match goB a [.own (.dT (tabP m)),.val (.tup (am c)),⇑M,↥t,↥l,⇑i,o,h,g,f]with
   |.ok .next b=>cz 5 (goB a) (d.map λi=>PV.int (i:Nat)) b
   |.ok .cont b=>cz 5 (goB a) (d.map λi=>PV.int (i:Nat)) b
   |.ok .brk b=>.ok .next b
   |r=>r)=_
  rw[S];exact O
theorem go_on_eq{b:List Tx}{n:Nat}(r:1<=n)(q:n<=4)(u:∀x∈b,x.length=n){M:Nat}(z:b.length<=9){t l:Tx}(s:t.length<=100)(v:l.length=n){m:Tab}(A:m.length<=400000):rE a [.own (.dT (tabP m)),.val (.tup (am b)),⇑M,↥t,↥l]=.ok (.val .non) [.own (.dT (tabP (goF b M t l m (bI b.length)))),.val (.tup (am b)),⇑M,↥t,↥l]:=by
 obtain⟨p,o,j,h,g,c⟩:=goB_loop (a:=a) r q u (M:=M) z s v (bI b.length) m .none .none .none .none .none (λi w=>j6.mp w) (by rw[qM];lia);have f:aG [.tup (am b)]=aa (.int (b.length:Nat)):=by simp[aG,fD]
 have d:fN [.int (b.length:Nat)]=aa ((bI b.length).map λi=>.int (i:Nat)):=by rw[oK ∅];simp[cL]
 have y:yap a [.own (.dT (tabP m)),.val (.tup (am b)),⇑M,↥t,↥l,.none,.none,.none,.none,.none]=.ok .next [.own (.dT (tabP (goF b M t l m (bI b.length)))),.val (.tup (am b)),⇑M,↥t,↥l,p,o,j,h,g]:=by show dR (cR 5 (dL fN (au (dL aG (au (dV 1) (aA))) (aA))) (goB a) _)=_;generalize tabP (goF b M t l m (bI b.length))=TG at c;generalize tabP m=TM at c;generalize ((bI b.length).map λi=>PV.int (i:Nat))=RG at c d;generalize ((b.length:Nat):Int)=LI at f d;generalize am b=PW at c f;generalize ((M:Nat):Int)=MM at c;simp![dR,cR,f,d,c]
 simp[rE,bH,eU,bL,df,y,back,ga,a6,R.bind,lH]
end
theorem minJ_of:∀{l:List Int}{x:Int},x∈l->(∀y∈l,x<=y)->iE l=x:=by
 have g:∀(r:List Int) (b:Int),(r.foldl (λb y=>if y<b then y else b) b∈b::r)/\∀y∈b::r,r.foldl (λb y=>if y<b then y else b) b<=y:=by
  intro r
  induction r with
  |nil=>intro b;simp
  |cons c r j=>
   intro b;rw[j_];obtain⟨f,d⟩:=j (if c<b then c else b);refine⟨?_,λy a=>?_⟩
   .rcases br.mp f with z|z
    .rw[z];split <;> simp
    .simp[z]
   .have i:=d _ (jD ..);rcases br.mp a with rfl|a
    .refine Int.le_trans i ?_;split <;> lia
    .rcases br.mp a with rfl|a
     .refine Int.le_trans i ?_;split <;> lia
     .exact d y (by simp[a])
 intro l x h m;cases l with
 |nil=>cases h
 |cons b r=>obtain⟨f,d⟩:=g r b;have:=m _ f;have:=d _ h;show r.foldl _ b=x;lia
theorem minT_of{l:List Tx}{x:Tx}(a:x∈l)(h:∀y∈l,x<=y):gG l=x :=Ar (Jt a) (h _ (Ej (Gd a)))
structure Fit3(ws:List Tx)(m:Tab)(M B:Nat):Prop where
 sound:Sound ws m
 cpl:Cpl ws M m
 len:m.length<=B
theorem len_subN{l m:List Nat}(a:l.Nodup)(h:∀x∈l,x∈m):l.length<=m.length:=by
 induction l generalizing m with
 |nil=>simp
 |cons x l d=>rw[lj]at a;have c:x∈m:=h x (by simp);have:=d (m:=m.erase x) a.2 λy b=>(List.mem_erase_of_ne (λz=>a.1 (by rw[<-z];exact b))).mpr (h y (by simp[b]));rw[qW c]at this;have f:0<m.length:=List.length_pos_of_mem c;rw[dE];lia
theorem txtO_len{a:List Tx}{n:Nat}(f:∀x∈a,x.length=n){s:List Nat}{N:Nat}(h:Ord a.length s)(l:a.length<=9)(c:n<=4):(txtO a s).length<=100:=by
 unfold txtO;have j:s.length<=a.length:=by have:=len_subN (m:=bI a.length) h.nd λi b=>j6.mpr (h.lt i b);rw[qM]at this;exact this
 have g:=chain_len n (s.map (atW a)) [] λx d=>by obtain⟨i,b,rfl⟩:=cp.mp d;exact f _ (atW_mem (h.lt i b))
 rw[dD]at g;have o:=xo (show s.length<=9 by lia) c;lia
section
variable{a:Ad}
structure Ini(ws:List Tx)(k:Nat)(m:Tab):Prop where
 sound:Sound ws m
 len:m.length<=k
 at_:∀p,p<k->getB m (2^p,atW ws p)=aa (atW ws p)
theorem msk1(p:Nat):msk ([]++[p])=2^p:=by rw[msk_snoc];show 0 ||| _=_;rw[Nat.zero_or]
theorem txtO1(b:List Tx)(p:Nat):txtO b ([]++[p])=atW b p:=by show adW [] (atW b p)++[]=_;rw[adW_nil,iP]
theorem Ini.step{ws:List Tx}{k:Nat}{m:Tab}(h:Ini ws k m)(f:k<ws.length):Ini ws (k+1) (putB m (2^k,atW ws k) (atW ws k)):=by
 refine⟨λq b=>?_,cA (put_len _ _ _) (by have:=h.len;lia),λp d=>?_⟩
 .rcases mem_put b with b|rfl
  .exact h.sound q b
  .exact⟨[],k,⟨by simp,λi c=>by simp at c;subst c;exact f⟩,by rw[msk1],by rw[txtO1]⟩
 .rw[getB_put];split
  .rename_i e;injection e with e1 e2;rw[e2]
  .rename_i e;refine h.at_ p ?_;rcases F9 (Nat.le_of_lt_succ d)with z|z
   .exact z
   .subst z;exact absurd rfl e
theorem Ini.fit{b:List Tx}{m:Tab}(h:Ini b b.length m):Fit3 b m 1 b.length:=by
 refine⟨h.sound,λs p d c=>?_,h.len⟩;have:s=[]:=by
  rcases c with z|z
  .exact z
  .cases s with
   |nil=>rfl
   |cons i s=>
    have f:msk (i::s)=0:=∅
    have:=msk_bit (i::s) i;rw[f]at this;simp at this
 subst this;refine⟨atW b p,by rw[msk1];exact h.at_ p (d.lt p (by simp)),?_⟩;rw[txtO1];exact sm _
def iniB:ak->R aO:=(jb 3 (dL cu (au (d2 kQ (dC (.int 1)) (dV 4)) (au (d2 bO (dV 2) (dV 4)) (aA)))) (d2 bO (dV 2) (dV 4)))
theorem ini_loop{ws:List Tx}(A:ws.length<=9)(n l j h g f d:Slot):∀(c k:Nat) (m:Tab) (p:Slot),k+c=ws.length->Ini ws k m -> ∃q v,Ini ws ws.length q/\cz 4 iniB ((iS k c).map λi=>.int (i:Nat)) [n,l,.val (.tup (am ws)),.own (.dT (tabP m)),p,j,h,g,f,d]=.ok .next [n,l,.val (.tup (am ws)),.own (.dT (tabP q)),v,j,h,g,f,d]
 |0,k,m,p,hk,hi=>⟨m,p,by rw[<-hk];exact hi,rfl⟩
 |c+1,k,m,p,hk,hi=>by
  obtain⟨q,v,B,y⟩:=ini_loop A n l j h g f d c (k+1) _ (⇑k) ∅ (hi.step ∅);refine⟨q,v,B,?_⟩;have w:=shl_one (i:=k) ∅;have s:=at_txP (ws:=ws) (i:=k) ∅;have u:=tkey_of (2^k) (atW ws k);have o:=tab_put m (2^k,atW ws k) (atW ws k);have x:(tabP m).length<cx:=by rw[tab_len];have:=hi.len;unfold cx;lia
  have z:iniB [n,l,.val (.tup (am ws)),.own (.dT (tabP m)),⇑k,j,h,g,f,d]=.ok .next [n,l,.val (.tup (am ws)),.own (.dT (tabP (putB m (2^k,atW ws k) (atW ws k)))),⇑k,j,h,g,f,d]:=by generalize tabP (putB m (2^k,atW ws k) (atW ws k))=TP at o;generalize kT (2^k,atW ws k)=KK at u o;generalize ((2^k:Nat):Int)=PK at w u;generalize atW ws k=WK at s u o;generalize ((k:Nat):Int)=KI at w s;generalize am ws=PW at s;generalize tabP m=TM at o x;simp![iniB,jb,fq,w,s,u,x,o]
  rw[FX,dO,cz];show(match iniB [n,l,.val (.tup (am ws)),.own (.dT (tabP m)),⇑k,j,h,g,f,d]with
   |.ok .next b=>cz 4 iniB ((iS (k+1) c).map λi=>PV.int (i:Nat)) b
   |.ok .cont b=>cz 4 iniB ((iS (k+1) c).map λi=>PV.int (i:Nat)) b
   |.ok .brk b=>.ok .next b
   |r=>r)=_
  rw[z];exact y
def lastB(a:Ad):ak->R aO:=(ba (bG 7 (kX 3 (dL cu (au (dV 5) (au (dV 6) (aA)))))) (cE (dB (d2 (gH ai) (dV 7) (dC .non))) (sZ (bn (rE a) (gO 3 (gV (dV 2) (gV (dV 5) (gV (dV 7) (gV (dV 6) (Pu.cb)))))))) (c_)))
theorem last_loop{b:List Tx}{n:Nat}(E:1<=n)(B:n<=4)(y:∀x∈b,x.length=n)(D:b.length<=9)(o j i g f:Slot){M:Nat}:∀(L:List Tx) (m:Tab) (v h:Slot),(∀x∈L,x∈b)->Sound b m->m.length+L.length*b.length<=400000 -> ∃Y J,cz 6 (lastB a) (am L) [o,j,.val (.tup (am b)),.own (.dT (tabP m)),i,⇑M,v,h,g,f]=.ok .next [o,j,.val (.tup (am b)),.own (.dT (tabP (lastF b M m L))),i,⇑M,Y,J,g,f]
 |[],m,v,h,_,_,_=>⟨v,h,rfl⟩
 |l::L,m,v,h,G,F,T=>by
  rw[dE,oX]at T;have P:=Mx.stepL_len b M m l;have q:=tkey_of M l;have w:=tab_val m (M,l);obtain⟨z,W⟩:∃z,lastB a [o,j,.val (.tup (am b)),.own (.dT (tabP m)),i,⇑M,↥l,h,g,f]=.ok .next [o,j,.val (.tup (am b)),.own (.dT (tabP (Mx.stepL b M m l))),i,⇑M,↥l,z,g,f]:=by
   unfold Mx.stepL;cases C:getB m (M,l)with
   |none=>rw[C]at w;have d:jd (tabP m) (kT (M,l))=ae:=w;have A:gH ai .non .non=aa (.bl aj):=rfl;refine⟨.val .non,?_⟩;dsimp only;generalize kT (M,l)=KK at q d;generalize ((M:Nat):Int)=MI at q;generalize tabP m=TM at d;generalize am b=PW;simp![lastB,kX,fq,q,d,A]
   |some t=>
    rw[C]at w;have d:jd (tabP m) (kT (M,l))=aa (.str t):=w;have A:gH ai (.str t) .non=aa (.bl ai):=rfl;obtain⟨s,p,S,_,X⟩:=F _ (getB_mem C);have O:t.length<=100:=by have:t=txtO b (s++[p]):=X;rw[this];exact txtO_len (N:=0) y S D B
    have u:=go_on_eq (a:=a) E B y (M:=M) D O (y l (G l (by simp))) (m:=m) ∅;refine⟨↥t,?_⟩;dsimp only;generalize tabP (goF b M t l m (bI b.length))=TG at u;generalize kT (M,l)=KK at q d;generalize ((M:Nat):Int)=MI at q u;generalize tabP m=TM at d u;generalize am b=PW at u;simp![lastB,kX,fq,q,d,A,u]
  obtain⟨I,H,Q⟩:=last_loop E B y D o j i g f L (Mx.stepL b M m l) (↥l) z (λx K=>G x (by simp[K])) (Mx.stepL_sound F) ∅;refine⟨I,H,?_⟩;show cz 6 (lastB a) (.str l::am L) _=_;rw[cz];show(match lastB a [o,j,.val (.tup (am b)),.own (.dT (tabP m)),i,⇑M,↥l,h,g,f]with
   |.ok .next c=>cz 6 (lastB a) (am L) c
   |.ok .cont c=>cz 6 (lastB a) (am L) c
   |.ok .brk c=>.ok .next c
   |r=>r)=_
  rw[W];exact Q
theorem lastF_len(b:List Tx)(M:Nat):∀(L:List Tx) (m:Tab),(lastF b M m L).length<=m.length+L.length*b.length
 |[],m=>by simp[lastF]
 |l::L,m=>by have d:=lastF_len b M L (Mx.stepL b M m l);have c:=Mx.stepL_len b M m l;show(lastF b M (Mx.stepL b M m l) L).length<=_;rw[dE,oX];lia
def maskB(a:Ad):ak->R aO:=cR 6 (cD (dF (dL jZ (au (dV 2) (aA))))) (lastB a)
theorem items_sort{n m l j i g f d c:Slot}{x y:PV}{b:List PV}(h:jZ [x]=aa (.lst b)):cD (dF (dL jZ (au (dV 2) (aA)))) [n,m,.val x,l,j,i,g,f,d,c]=.ok b [n,m,.val x,l,j,i,g,f,d,c]:=by have o:jA (.lst b)=aa b:=rfl;simp![cD,h,o]
theorem mask_loop{b:List Tx}{n:Nat}(H:1<=n)(G:n<=4)(I:∀x∈b,x.length=n)(w:b.length<=9)(q p o g f:Slot):∀(c M B:Nat) (m:Tab) (u l j:Slot),Fit3 b m M B->B+c*81<=300000 -> ∃v z W N,Fit3 b v (M+c) (B+c*81)/\cz 5 (maskB a) ((iS M c).map λi=>.int (i:Nat)) [q,p,.val (.tup (am b)),.own (.dT (tabP m)),o,u,l,j,g,f]=.ok .next [q,p,.val (.tup (am b)),.own (.dT (tabP v)),o,z,W,N,g,f]
 |0,M,B,m,u,l,j,h,_=>⟨m,u,l,j,by rw[Nat.zero_mul];exact h,rfl⟩
 |c+1,M,B,m,u,l,j,h,hB=>by
  rw[oX]at hB;have s:∀x,x∈aV (bU b)↔x∈b:=λx=>by rw[(eE _).mem_iff,lQ]
  have C:(aV (bU b)).length<=9:=by rw[(eE _).length_eq];exact cA (zp b) w
  have X:(aV (bU b)).length*b.length<=81:=xo C w;have Y:=h.len;obtain⟨F,E,Q⟩:=last_loop (a:=a) H G I w q p o g f (M:=M) (aV (bU b)) m l j (λx A=>(s x).mp A) h.sound ∅;have P:=lastF_len b M (aV (bU b)) m;have T:Fit3 b (lastF b M m (aV (bU b))) (M+1) (B+81):=⟨lastF_sound _ h.sound,mask_step (λx A=>(s x).mpr A) h.cpl,∅⟩
  obtain⟨v,L,K,J,D,O⟩:=mask_loop H G I w q p o g f c (M+1) (B+81) _ (⇑M) F E T ∅;refine⟨v,L,K,J,by rw[oX,show M+(c+1)=M+1+c by lia,show B+(c*81+81)=B+81+c*81 by lia];exact D,?_⟩;have S:maskB a [q,p,.val (.tup (am b)),.own (.dT (tabP m)),o,⇑M,l,j,g,f]=.ok .next [q,p,.val (.tup (am b)),.own (.dT (tabP (lastF b M m (aV (bU b))))),o,⇑M,F,E,g,f] :=Du (items_sort (y:=.non) (sortSetTP_eq (k:=b) ∅)) Q;rw[FX,dO,cz];show(match maskB a [q,p,.val (.tup (am b)),.own (.dT (tabP m)),o,⇑M,l,j,g,f]with
   |.ok .next d=>cz 5 (maskB a) ((iS (M+1) c).map λi=>PV.int (i:Nat)) d
   |.ok .cont d=>cz 5 (maskB a) ((iS (M+1) c).map λi=>PV.int (i:Nat)) d
   |.ok .brk d=>.ok .next d
   |r=>r)=_
  rw[S];exact O
theorem with_tab(m:Tab)(N:Nat):qu (tabP m) (1*2^N-1)=am (endsB m (2^N-1)):=by
 have e:(1*2^N-1:Int)=((2^N-1:Nat):Int):=by have:1<=2^N:=Nat.one_le_two_pow;rw[Int.one_mul,Int.ofNat_sub this,Int.natCast_pow];rfl
 rw[e];unfold qu tabP endsB am;rw[nt,eu,eu];have:((λp:cC×PV=>decide (ju p.1=aa ((2^N-1:Nat):Int))) ∘ λq:(Nat×Tx)×Tx=>(kT q.1,PV.str q.2))=λq=>decide (q.1.1=2^N-1):=by funext q;show decide (ju (kT q.1)=_)=_;refine decide_eq_decide.mpr ?_;show aa ((q.1.1:Nat):Int)=aa _↔_;rw[Option.some_inj,Int.ofNat_inj]
 rw[this];rfl
theorem keys_tab(m:Tab):((tabP m).all λp=>(ju p.1).isSome)=ai:=by rw[ke];intro p b;obtain⟨q,_,rfl⟩:=cp.mp b;rfl
def lenV:PV->PV
 |.str t=>.int (t.length:Nat)
 |v=>v
def longB(n:Nat):PV->Bool
 |.str t=>decide (t.length=n)
 |_=>aj
theorem intsP_int:∀l:List Int,gF (l.map .int)=aa l
 |[]=>rfl
 |i::l=>by rw[dO,gF,intsP_int l];rfl
theorem min_step{b:List Tx}{c:Tx}(r:c∈b)(A:∀t∈b,bf t c=aj)(n m l j i h g f p:Slot):bG 9 (dL sY (au (dF (cS [] (cD (dV 8)) (dYes) (dL aG (au (dV 0) (aA))))) (aA))) [n,m,l,j,i,h,g,f,.val (.lst (am b)),p]=.ok .next [n,m,l,j,i,h,g,f,.val (.lst (am b)),⇑(c.length:Nat)]:=by
 have d:=kI (cap:=[]) (dt:=dYes) (de:=dL aG (au (dV 0) (aA))) (ε:=[n,m,l,j,i,h,g,f,.val (.lst (am b)),p]) (λ_=>ai) lenV (am b)
  (by intro v u;obtain⟨t,_,rfl⟩:=cp.mp u;exact⟨rfl,λ_=>rfl⟩) []
 have x:((am b).filter λ_=>ai).map lenV=(b.map λt=>(t.length:Int)).map .int:=by rw[AW.mpr (λ_ _=>rfl)];unfold am;rw[eu,eu];rfl
 rw[fH,x]at d;have o:sY [.lst ((b.map λt=>(t.length:Int)).map .int)]=aa (.int (c.length:Nat)):=by
  show(gF _).bind _=_;rw[intsP_int];show(if(b.map λt=>(t.length:Int))≠[] then aa (PV.int (iE _))else ae)=_;rw[if_pos (Gd (cp.mpr ⟨c,r,rfl⟩)),minJ_of (cp.mpr ⟨c,r,rfl⟩) λy s=>by
   obtain⟨t,w,rfl⟩:=cp.mp s;have:=ltX_le (A t w);show(c.length:Int)<=(t.length:Int)
   lia]
 have q:jA (.lst (am b))=aa (am b):=rfl;generalize ((b.map λt=>(t.length:Int)).map PV.int)=LL at d o;generalize ((c.length:Nat):Int)=SL at o;generalize am b=PE at d q;generalize (dL aG (au (dV 0) (aA)))=DE at d;generalize z:(dYes:ak->R Bool)=DY at d;simp![cD,cS,q,d,o]
theorem min_end{c:List Tx}{b:Tx}(D:b∈c)(C:∀t∈c,bf t b=aj)(o n m l j i h g:Slot):(cq (dL rT (au (dF (cS [9] (cD (dV 8)) (dB (d2 (Pu.eqT aj) (dL aG (au (dV 0) (aA))) (dV 1))) (dV 0))) (aA)))) [o,n,m,l,j,i,h,g,.val (.lst (am c)),⇑(b.length:Nat)]=.ok (.ret (↥b)) [o,n,m,l,j,i,h,g,.val (.lst (am c)),⇑(b.length:Nat)]:=by
 have d:=kI (cap:=[9]) (dt:=dB (d2 (Pu.eqT aj) (dL aG (au (dV 0) (aA))) (dV 1))) (de:=dV 0) (ε:=[o,n,m,l,j,i,h,g,.val (.lst (am c)),⇑(b.length:Nat)]) (longB b.length) (λv=>v) (am c)
  (by
   intro v z;obtain⟨t,_,rfl⟩:=cp.mp z;have w:aG [.str t]=aa (.int (t.length:Nat)):=rfl;have f:=mM aj (t.length:Nat) (b.length:Nat);have B:decide (((t.length:Nat):Int)=(b.length:Nat))=longB b.length (.str t):=by show _=decide (t.length=b.length);exact decide_eq_decide.mpr ∅
   rw[B]at f;refine⟨?_,λ_=>rfl⟩;generalize longB b.length (.str t)=BB at f;generalize ((b.length:Nat):Int)=SL at f;generalize ((t.length:Nat):Int)=TL at f w;generalize am c=PE;simp![eN,eD,dQ,w,f]) []
 have A:((am c).filter (longB b.length)).map (λv=>v)=am (c.filter λt=>decide (t.length=b.length)):=by rw[List.map_id'];unfold am;rw[nt];rfl
 rw[fH,A]at d;have s:b∈c.filter λt=>decide (t.length=b.length):=iL.mpr ⟨D,by simp⟩;have u:rT [.lst (am (c.filter λt=>decide (t.length=b.length)))]=aa (.str b):=by show(fE _).bind _=_;rw[pT];show(if(c.filter λt=>decide (t.length=b.length))≠[] then aa (PV.str (gG _))else ae)=_;rw[if_pos (Gd s),minT_of s λy x=>by obtain⟨q,p⟩:=iL.mp x;have p:=of_decide_eq_true p;have:=C y q;unfold bf at this;rw[if_pos p]at this;exact AQ.mp (of_decide_eq_false this)]
 have r:jA (.lst (am c))=aa (am c):=rfl;generalize (am (c.filter λt=>decide (t.length=b.length)))=LL at d u;generalize ((b.length:Nat):Int)=SL at d ⊢;generalize am c=PE at d r ⊢;generalize (dB (d2 (Pu.eqT aj) (dL aG (au (dV 0) (aA))) (dV 1)))=DT at d ⊢;generalize (dV 0)=DE at d ⊢;simp![cD,cS,r,d,u]
theorem ends_step(m:Tab){b:List Tx}(s:b.length<=9)(j i h g f d l c:Slot):bG 8 (dF (mG 3 2)) [j,i,.val (.tup (am b)),.own (.dT (tabP m)),h,g,f,d,l,c]=.ok .next [j,i,.val (.tup (am b)),.own (.dT (tabP m)),h,g,f,d,.val (.lst (am (endsB m (2^b.length-1)))),c]:=by
 have q:=with_tab m b.length;have o:=keys_tab m;have n:mG 3 2 [j,i,.val (.tup (am b)),.own (.dT (tabP m)),h,g,f,d,l,c]=.ok (.lst (am (endsB m (2^b.length-1)))) [j,i,.val (.tup (am b)),.own (.dT (tabP m)),h,g,f,d,l,c]:=by unfold mG;have r:fq [j,i,.val (.tup (am b)),.own (.dT (tabP m)),h,g,f,d,l,c] 3=aa (tabP m):=rfl;rw[r];show(if(am b).length<=60/\((tabP m).all λp=>(ju p.1).isSome)=ai then R.ok (PO.lst (qu (tabP m) (1*2^(am b).length-1))) _ else .no)=_;rw[if_pos ⟨by rw[fD];lia,o⟩,fD,q]
 generalize am (endsB m (2^b.length-1))=EE at n;generalize mG 3 2=DW at n;simp![n]
theorem lshort_eq{w:Nat}{b:List Tx}(g:Good cm w b)(v:1<=w)(u:w<=4):vQ a [.val (b7 w b)]=.ok (↥(short b)) [.val (b7 w b)]:=by
 have f:=g.few;have I:b≠[]:=λz=>by have:=g.some;rw[z]at this;simp at this
 obtain⟨o,j,hi,E⟩:=ini_loop f (.val (b7 w b)) (⇑w) .none .none .none .none .none b.length 0 [] .none ∅ ⟨(λq F=>by cases F),by simp,(λp H=>∅)⟩;have H:1<=2^b.length:=Nat.one_le_two_pow;have G:2^b.length<=512:=Nat.pow_le_pow_right (by decide) f;obtain⟨l,B,A,x,n,D⟩:=mask_loop (a:=a) v u g.len f (.val (b7 w b)) (⇑w) j .none .none (2^b.length-1) 1 b.length o .none .none .none hi.fit ∅;rw[show 1+(2^b.length-1)=2^b.length by lia]at n;obtain⟨s,r⟩:=ends_short I n.sound n.cpl;have c:aG [.tup (am b)]=aa (.int (b.length:Nat)):=by simp[aG,fD]
 have m:fN [.int (b.length:Nat)]=aa ((iS 0 b.length).map λi=>.int (i:Nat)):=by rw[oK ∅,<-List.range_eq_range'];simp[cL]
 have C:oq [.int 1,.int ((2^b.length:Nat):Int)]=aa ((iS 1 (2^b.length-1)).map λi=>.int (i:Nat)):=ET (lo:=1) (hi:=2^b.length) ∅ ∅;have h:=shl_one (i:=b.length) ∅;unfold vQ;have d:yau a [.val (b7 w b),.none,.none,.none,.none,.none,.none,.none,.none,.none]=.ok (.ret (↥(short b))) [.val (b7 w b),⇑w,.val (.tup (am b)),.own (.dT (tabP l)),j,B,A,x,.val (.lst (am (endsB l (2^b.length-1)))),⇑((short b).length:Nat)]:=by unfold yau;refine(dm (ε1:=[.val (b7 w b),⇑w,.val (.tup (am b)),.none,.none,.none,.none,.none,.none,.none]) (by rfl)).trans ?_;refine(dm (ε1:=[.val (b7 w b),⇑w,.val (.tup (am b)),.own (.dT (tabP [])),.none,.none,.none,.none,.none,.none]) (by rfl)).trans ?_;refine(BX (xs:=(iS 0 b.length).map λi=>.int (i:Nat)) (ε1:=[.val (b7 w b),⇑w,.val (.tup (am b)),.own (.dT (tabP [])),.none,.none,.none,.none,.none,.none]) (by generalize ((iS 0 b.length).map λi=>PV.int (i:Nat))=XX at m;generalize PV.int (b.length:Nat)=LL at c m;generalize am b=PL at c;simp![c,m]) E).trans ?_;refine(BX (xs:=(iS 1 (2^b.length-1)).map λi=>.int (i:Nat)) (ε1:=[.val (b7 w b),⇑w,.val (.tup (am b)),.own (.dT (tabP o)),j,.none,.none,.none,.none,.none]) (dL2_of (y:=.int ((2^b.length:Nat):Int)) (by generalize PV.int ((2^b.length:Nat):Int)=P2 at h;generalize PV.int (b.length:Nat)=LL at c h;generalize am b=PL at c;generalize PV.int 1=C1 at h;simp![c,h]) C) D).trans ?_;refine(dm (ends_step l f _ _ _ _ _ _ _ _)).trans ?_;refine(dm (min_step s r _ _ _ _ _ _ _ _ _)).trans ?_;exact min_end s r _ _ _ _ _ _ _ _
 generalize short b=SH at d ⊢;generalize yau a=DD at d ⊢;generalize b7 w b=VV at d ⊢;simp[bH,eU,bL,df,d,back,ga,a6,R.bind]
end
def less(m l:List Tx):List Tx:=l.foldl List.erase m
theorem less_perm:∀(l m:List Tx),(∀x,l.count x<=m.count x)->(less m l++l).Perm m
 |[],m,_=>by rw[iP];exact qN m
 |y::l,m,h=>by
  have b:y∈m:=by have:=h y;rw[F_]at this;exact List.count_pos_iff.mp ∅
  have a:=less_perm l (m.erase y) λx=>by
   have:=h x;by_cases e:y=x
   .subst e;rw[List.count_erase_self];rw[F_]at this;lia
   .rw[List.count_erase_of_ne (λz=>e z.symm)];rw[Ga e]at this;exact this
  exact(List.perm_middle.trans (a.cons y)).trans (Gb b).symm
def lackT(w:Nat)(a:List Tx):List Tx:=aV (less (be (short a) w) a)
theorem lack_perm{w:Nat}(a:1<=w){ls:List Tx}(h:∀x∈ls,x.length=w):(lackT w ls++ls).Perm (be (short ls) w) :=((eE _).append_right ls).trans (less_perm ls _ (short_has a h))
theorem lack_nil{w:Nat}{ls:List Tx}(g:Good cm w ls)(c:1<=w)(l:ls.Pairwise (λa b=>cF a b=ai)):lackT w ls=[]↔fM w ls≠[]:=by
 have d:=lack_perm c g.len;have f:=has_iff g c l;unfold hasT at f;rw[decide_eq_true_iff]at f;rw[<-f];constructor
 .intro h;rw[h,fH]at d;exact⟨_,d.symm⟩
 .rintro⟨t,i⟩;have m:Has w t ls:=λx=>by rw[i.count_eq];exact aZ _
  have o:=ltX_le (short_least c m);have j:=d.length_eq;have n:=i.length_eq;rw[wo c]at j n;rw[cK]at j;have p:=g.some;exact jK ∅
end Sh
namespace K12
open L2 Pu Mx Sh
section
variable{a:Ad}
theorem Cv(d:List Int)(w:Nat)(s:w<=4)(p o n m l:Slot):∀(g:List PV) (b:List Tx) (f:List PV),f.length+6*g.length<=400 -> ∃(ls:List Tx) (j:List PV),ls.length=g.length/\(∀x∈ls,x.length=w/\∀c∈x,c∈cm)/\jf [0,1,5] dYes (bB (bn (lL a) (gV (dV 1) (gO 2 (gV (dV 3) (gV (dV 3) (Pu.cb))))))) g (am b) [bQ d,.own (.lst f),p,o,n,⇑w,m,l]=.ok (am (b++ls)) [bQ d,.own (.lst j),p,o,n,⇑w,m,l]
 |[],b,f,_=>⟨[],f,rfl,(λx B=>by cases B),by simp[jf]⟩
 |x::g,b,f,h=>by
  simp only[dE]at h;obtain⟨t,j,G,F,v,H,i⟩:=y_ (a:=a) d f w w ∅ ∅ ∅;obtain⟨ls,u,A,z,r⟩:=Cv d w s p o n m l g (b++[t]) j ∅;refine⟨t::ls,u,by simp[A],λy q=>?_,?_⟩
  .rcases br.mp q with rfl|q
   .exact⟨∅,v⟩
   .exact z y q
  .have E:am (b++[t])=am b++[.str t]:=by simp[am]
   have D:b++t::ls=b++[t]++ls:=by simp
   rw[D,<-r,E];generalize am b=AC;clear r;generalize ((w:Nat):Int)=WI at i;have C:bQ d=.val (.lst (d.map .int)):=rfl;rw[C]at i ⊢;generalize d.map PV.int=NS at i;simp![jf,eN,eD,dQ,dYes,i]
def W1(a:Ad):ak->R aO:=cE (dB (d2 (Pu.eqT aj) (dV 2) (dC (.int 0)))) (ba (bG 5 (d2 bO (dV 4) (dC (.int 0)))) (bG 4 (dL cu (au (dV 5) (au (dL lT (au (dF (dL lV (au (dF (cS [0,1,5] (dL fN (au (dL aG (au (d2 bO (dV 4) (dC (.int 1))) (aA))) (aA))) (dYes) (bB (bn (lL a) (gV (dV 1) (gO 2 (gV (dV 3) (gV (dV 3) (Pu.cb))))))))) (aA)))) (aA))) (aA)))))) (c_)
theorem JQ(s:List Int)(l:List PV)(J:l.length<=300)(m:Int)(o:Slot){w:Nat}{ls:List Tx}(I:1<=w)(D:w<=4)(g:Good cm w ls)(G:ls.Pairwise (λa b=>cF a b=ai)):∃(n:List PV) (c:List Tx) (E:Slot),Good cm w c/\c.Pairwise (λa b=>cF a b=ai)/\W1 a [bQ s,.own (.lst l),⇑m,o,.val (b7 w ls),.none,.none,.none]=.ok .next [bQ s,.own (.lst n),⇑m,o,.val (b7 w c),E,.none,.none]:=by
 have B:=mM aj m 0;by_cases h:m=0
 .have f:Pu.eqT aj (.int m) (.int 0)=aa (.bl ai):=by rw[B,decide_eq_true h];rfl
  have K:=g.few;have L:=g.some;have C:(cL 0 ls.length).length=ls.length:=by simp[cL]
  obtain⟨c,n,F,A,i⟩:=Cv (a:=a) s w D (⇑m) o (.val (b7 w ls)) .none .none (cL 0 ls.length) [] l (by rw[C];lia);rw[C]at F;rw[fH,show am []=[] from rfl]at i;have H:Good cm w (aV c):=by have p:=eE c;exact⟨λx z=>(A x (p.mem_iff.mp z)).1,λx z=>(A x (p.mem_iff.mp z)).2,by rw[p.length_eq];lia,by rw[p.length_eq];lia⟩
  refine⟨n,aV c,⇑w,H,sL c,?_⟩;have u:=yL (ls:=c) ∅;have j:lT [.lst (am (aV c))]=aa (.tup (am (aV c))):=rfl;have d:PV.tup [.int w,.tup (am (aV c))]=b7 w (aV c):=rfl;have r:aG [.tup (am ls)]=aa (.int (ls.length:Nat)):=by simp[aG,fD]
  have q:fN [.int (ls.length:Nat)]=aa (cL 0 ls.length):=oK ∅;have y:bO (b7 w ls) (.int 0)=aa (.int w):=rfl;have v:bO (b7 w ls) (.int 1)=aa (.tup (am ls)):=rfl;generalize cL 0 ls.length=RG at i q;generalize ((ls.length:Nat):Int)=LN at r q;generalize am (aV c)=PS at u j d;generalize am c=PM at i u;generalize am ls=PL at r v;generalize b7 w (aV c)=V2 at d;generalize b7 w ls=V at y v i;generalize ((w:Nat):Int)=WI at y i d;simp![W1,f,y,v,r,q,cS,i,u,j,d]
 .exact⟨l,ls,.none,g,G,by
   have f:Pu.eqT aj (.int m) (.int 0)=aa (.bl aj):=by rw[B,decide_eq_false h];rfl
   simp![W1,f]⟩
theorem Km{w:Nat}{ls:List Tx}(g:Good cm w ls)(f:1<=w)(j:ls.Pairwise (λa b=>cF a b=ai)){t:Tx}{r:List Tx}(h:fM w ls=t::r):short ls=t:=by
 have z:fM w ls≠[]:=by rw[h];simp
 have s:=(lack_nil g f j).mpr z;have l:=lack_perm f g.len;rw[s,fH]at l;have d:∀x∈ls,x.length=w/\∀c∈x,c∈cm:=λx i=>⟨g.len x i,g.abc x i⟩
 have q:short ls∈fM w ls:=(uT f g.some d j (short_abc g.abc)).mpr (by rw[u_ l.symm];exact qk j);have p:t∈fM w ls:=by rw[h];simp
 have n:(be t w).Perm ls:=by have:=(uT f g.some d j (Bi f g.some d p).2).mp p;rw[<-this];exact(eE _).symm
 have i:=short_least f (t:=t) (ls:=ls) λx=>by rw[n.count_eq];exact aZ _
 have y:=l.length_eq;have v:=n.length_eq;rw[wo f]at y v;have A:t.length=(short ls).length:=by have:=g.some;lia
 have o:=La f g.some d;rw[h]at q o;rcases br.mp q with e|e
 .exact e
 .have u:=(FA.mp o).1 _ e;unfold bf at i;rw[if_pos A]at i;have m:=AQ.mp (of_decide_eq_false i);exact Ar m (of_decide_eq_true u)
theorem KP(b:List Int):rO a [bQ b]=.ok (.val (.bl ai)) [bQ b]:=by
 obtain⟨m,_,_,J⟩:=mS (a:=a) b [] 4 (by decide) (by simp);obtain⟨p,O,N,D⟩:=mS (a:=a) b ([]++[.int 0]) 3 (by decide) (by simp);obtain⟨sp,rfl⟩:∃n:Nat,p=n:=⟨p.toNat,∅⟩
 obtain⟨w,z,y,l,u,_,L,B,P,_,A,H⟩:=Lp (a:=a) b ([]++[.int 0]++[.int 0]) sp 7 ∅ (by decide) (by decide) (by simp);simp only[fH,iu,dE,gT]at J D H A;obtain⟨f,c,h,g,C,F⟩:=JQ (a:=a) b y ∅ m (⇑sp) l u L B;have j:=short_eq (a:=a) g l u C;have i:=lshort_eq (a:=a) g l u;have d:=Me (a:=a) g l u C;have v:rj a [bQ b,.own (.lst [.int 0,.int 0]),⇑sp,⇑7]=.ok (.val (b7 w z)) [bQ b,.own (.lst y),⇑sp,⇑7]:=H;have q:=yK ai (short c) (short c);rw[decide_eq_true rfl]at q;have x:=eqT_nil aj (fM w c);have s:yal a [bQ b,.none,.none,.none,.none,.none,.none,.none]=.ok (.ret (.val (.bl ai))) [bQ b,.own (.lst f),⇑m,⇑sp,.val (b7 w c),h,↥(short c),.val (.lst (am (fM w c)))]:=by
  unfold yal;generalize ((sp:Nat):Int)=SP at D v F ⊢;refine(dm (ε1:=[bQ b,.own (.lst []),.none,.none,.none,.none,.none,.none]) (by simp![])).trans ?_;refine(dm (ε1:=[bQ b,.own (.lst [.int 0]),⇑m,.none,.none,.none,.none,.none]) (by simp![J])).trans ?_;refine(dm (ε1:=[bQ b,.own (.lst [.int 0,.int 0]),⇑m,⇑SP,.none,.none,.none,.none]) (by simp![D])).trans ?_;refine(dm (ε1:=[bQ b,.own (.lst y),⇑m,⇑SP,.val (b7 w z),.none,.none,.none]) (by generalize b7 w z=V0 at v;simp![v])).trans ?_;refine(dm F).trans ?_;clear F v;cases G:fM w c with
  |nil=>rw[G]at d x;have o:Pu.eqT aj (.lst (am [])) (.lst [])=aa (.bl ai):=x;generalize am ([]:List Tx)=TX at d o ⊢;generalize short c=SH at j i q ⊢;generalize b7 w c=V at j i d ⊢;refine(dm (ε1:=[bQ b,.own (.lst f),⇑m,⇑SP,.val V,h,↥SH,.none]) (by simp![j])).trans ?_;refine(dm (ε1:=[bQ b,.own (.lst f),⇑m,⇑SP,.val V,h,↥SH,.none]) (by simp![i,q])).trans ?_;refine(dm (ε1:=[bQ b,.own (.lst f),⇑m,⇑SP,.val V,h,↥SH,.val (.lst TX)]) (by simp![d])).trans ?_;simp![o]
  |cons t r=>
   have M:=Km g l C G;rw[G]at d x;have o:Pu.eqT aj (.lst (am (t::r))) (.lst [])=aa (.bl aj):=by rw[x,decide_eq_false (by simp)];rfl
   have I:bO (.lst (am (t::r))) (.int 0)=aa (.str t):=by show dP (.str t::am r) 0=_;exact zh _ _
   have E:=yK aj (short c) t;rw[decide_eq_true M]at E;generalize am (t::r)=TX at d o I ⊢;generalize K:short c=SH at j i q E ⊢;generalize b7 w c=V at j i d ⊢;refine(dm (ε1:=[bQ b,.own (.lst f),⇑m,⇑SP,.val V,h,↥SH,.none]) (by simp![j])).trans ?_;refine(dm (ε1:=[bQ b,.own (.lst f),⇑m,⇑SP,.val V,h,↥SH,.none]) (by simp![i,q])).trans ?_;refine(dm (ε1:=[bQ b,.own (.lst f),⇑m,⇑SP,.val V,h,↥SH,.val (.lst TX)]) (by simp![d])).trans ?_;simp![o,I,E]
 simp[rO,bH,eU,bL,df,s,back,ga,a6,R.bind]
end
open L2 Pu Sh
def zH(K:ax)(a:Ad):Bool:=qS K a.SlitError vV "ValueError.__new__" && (sH a).all (λx=>qS K x vV "ValueError.__new__" && subB K a.SlitError x&&Dg K x&&(sH a).all (λd=>iO K (.ref x) (.ref d) == aa (x == d))&&iO K (.ref x) (.type "ValueError") == aa ai)&&xN K
section
variable{K:ax}{h g:aB}{i:Str->Option ah}{a:Ad}
theorem Ce(h:zH K a=ai):qS K a.SlitError vV "ValueError.__new__"=ai/\(∀x∈sH a,qS K x vV "ValueError.__new__"=ai/\subB K a.SlitError x=ai/\Dg K x=ai/\(∀d∈sH a,iO K (.ref x) (.ref d)=aa (x == d))/\iO K (.ref x) (.type "ValueError")=aa ai)/\xN K=ai:=by unfold zH at h;simp only[fU,ke,beq_iff_eq,decide_eq_true_eq]at h;obtain⟨⟨j,c⟩,f⟩:=h;exact⟨j,λx b=>⟨(c x b).1.1.1.1,(c x b).1.1.1.2,(c x b).1.1.2,(c x b).1.2,(c x b).2⟩,f⟩
structure Top(K:ax)(a:Ad):Prop where
 yan:dy K "_law_cell_at" x_
 yaq:dy K "_law_mixed" xR
 yao:dy K "_law_draw" yT
 yat:dy K "_law_seen" uY
 yas:dy K "_law_pick" zT
 yav:dy K "_law_text" yJ
 yax:dy K "_law_view" yt
 yai:dy K "is_whole_number" yw
 yaj:dy K "is_width" z7
 yaf:dy K "has_only" vp
 yak:dy K "is_window" zD
 yad:dy K "are_windows" vt
 yah:dy K "is_view_with" zu
 yag:dy K "is_view" y8
 yae:dy K "check_view" z8
 yac:dy K "added_letters" yG
 yaA:dy K "without" zR
 yay:dy K "least_ending" yF
 yaz:dy K "shortest" zr
 yar:dy K "_law_over" vT
 yap:dy K "_law_go_on" yv
 yau:dy K "_law_short" pQ
 yaw:dy K "_law_under" wC
 yam:dy K "_law_all" rA
 yal:dy K "law" rk
 yaC:eX K cn "all"=aa ae
 yaD:eX K cn "bool"=aa ae
 yaE:eX K cn "int"=aa ae
 yaF:eX K cn "isinstance"=aa ae
 yaG:eX K cn "len"=aa ae
 yaH:eX K cn "list"=aa ae
 yaI:eX K cn "min"=aa ae
 yaJ:eX K cn "range"=aa ae
 yaK:eX K cn "set"=aa ae
 yaL:eX K cn "sorted"=aa ae
 yaM:eX K cn "str"=aa ae
 yaN:eX K cn "tuple"=aa ae
 yaP:∃t,eX K cn "LETTERS"=aa (aa (.str (tS [97,98,99]) t))
 yaQ:∃t,eX K cn "MOST_WINDOWS"=aa (aa (.int 9 t))
 yaR:∃t,eX K cn "WIDEST"=aa (aa (.int 4 t))
 yab:eX K cn "SlitError"=aa (aa (.ref a.SlitError))
 yaa:eX K cn "NoView"=aa (aa (.ref a.NoView))
 ck:zH K a=ai
 z_least_ending:j7 K "least_ending"=aa (111,107)/\w8 K 111 107=ai/\K.lookup 107=ae
theorem IL(T:Top K a)(X:K.In g)(G:g.Ns cn i):dJ K i g a where
 yan:=T.yan.at X G
 yaq:=T.yaq.at X G
 yao:=T.yao.at X G
 yat:=T.yat.at X G
 yas:=T.yas.at X G
 yav:=T.yav.at X G
 yax:=T.yax.at X G
 yai:=T.yai.at X G
 yaj:=T.yaj.at X G
 yaf:=T.yaf.at X G
 yak:=T.yak.at X G
 yad:=T.yad.at X G
 yah:=T.yah.at X G
 yag:=T.yag.at X G
 yae:=T.yae.at X G
 yac:=T.yac.at X G
 yaA:=T.yaA.at X G
 yay:=T.yay.at X G
 yaz:=T.yaz.at X G
 yar:=T.yar.at X G
 yap:=T.yap.at X G
 yau:=T.yau.at X G
 yaw:=T.yaw.at X G
 yam:=T.yam.at X G
 yal:=T.yal.at X G
 yaC:=kj X G T.yaC
 yaD:=kj X G T.yaD
 yaE:=kj X G T.yaE
 yaF:=kj X G T.yaF
 yaG:=kj X G T.yaG
 yaH:=kj X G T.yaH
 yaI:=kj X G T.yaI
 yaJ:=kj X G T.yaJ
 yaK:=kj X G T.yaK
 yaL:=kj X G T.yaL
 yaM:=kj X G T.yaM
 yaN:=kj X G T.yaN
 yaP:=T.yaP.imp λ_ e=>nr X G e
 yaQ:=T.yaQ.imp λ_ e=>nr X G e
 yaR:=T.yaR.imp λ_ e=>nr X G e
 yab:=nr X G T.yab
 yaa:=nr X G T.yaa
 yaO:=HY X (nr X G T.yaa) ((Ce T.ck).2.1 a.NoView (by simp[sH])).1
 yaB:=⟨_,_,Mz X G T.z_least_ending.1 T.z_least_ending.2.1⟩
theorem JZ{l:Ao}{w:aE}{d:af}(X:K.In h)(G:h.Ns cn i)(b:i "law"=aa (.ref d))(T:Top K a):∃c:gw,(∀(s:ao) (v:ah),BindsTo s c ⟨[v],[]⟩ [("_law_script",v)])/\∀g:aB,K.In g->g.Ns cn i->jU l.prog w K i g (cH l.prog w) 14 d c ["_law_script"] (ce K (rO a)):=by
 obtain⟨f,oc,x,kV,y,u,B,A,z,r,o,n,m,j⟩:=T.yal;have e:=b.symm.trans (nr X G o);cases e;exact⟨_,λs v=>.of_eq rfl,λg p q=>K4 (IL T p q) (Eb n m j)⟩
theorem Jl{l:Ao}{q:aL}{j:List Str}{XP:(Str->Option ah)->aB->Prop}{p:aE->aB->Prop}{d:DefRec}{K:Params->ax}(A:l.most=aa 63)(v:d.params.defaults=[])(m:d.name = "law")(o:∀(w:aE) (h:aB),p w h->(K w.params).In h/\h.get? 107=aa (PySem.W.tabObj #[])) {a:Ad} (T:∀w:aE,Top (K w.params) a):PySem.W.WalkO q j XP p l.row.toRowW d [] (λf r=>PySem.call f r) :=
 L2.Qf (n:=63) (k:=14) (x:="_law_script") (K:=K) (CX:=λw=>cH l.prog w) (sp:=λw=>ce (K w.params) (rO a)) A (by decide) v ⟨rfl,by decide,by decide⟩ (λw h Y=>⟨(o w h Y).1,λc P e=>by rw[(T w).z_least_ending.1]at e;cases e;exact⟨(T w).z_least_ending.2.1,(T w).z_least_ending.2.2,(o w h Y).2⟩⟩)
  (λw i F h C G u=>JZ C G (by rw[<-m];exact u) (T w))
  (λw H b y E _ B=>N6 (Nl (Ce (T w).ck).2.2 B) (KP  y))
  (λw H s e D z=>by obtain⟨_,_,_,_,_,_,_,_,_,_,_,f⟩:=z;exact f)
theorem Qa{l:Ao}{q:aL}{b:List Str}{XP:(Str->Option ah)->aB->Prop}{j:aE->aB->Prop}{d:DefRec}{K:Params->ax}{yab yaa:af}(o:l.most=aa 63)(n:d.params.defaults=[])(c:d.name = "law")(p:∀(w:aE) (h:aB),j w h->(K w.params).In h/\h.get? 107=aa (PySem.W.tabObj #[])) (T:∀w:aE,Top (K w.params) ⟨yab,yaa,yaa,yaa,yaa,yaa,yaa,yaa,yaa,yaa,yaa,yaa,0,0⟩):PySem.W.WalkO q b XP j l.row.toRowW d [] (λf m=>PySem.call f m):=Jl o n c p T
end
end K12
def PySem.W.Fast.tw14983832329938828715:Nat:=0
def PySem.W.Fast.tw10783916088175933471:Nat:=0
def PySem.W.Fast.tw4162621381587129509:Nat:=0
def PySem.W.Fast.tw6715009364424746790:Nat:=0
def PySem.W.Fast.tw11561489665559567388:Nat:=0
def PySem.W.Fast.tw5343049589831452385:Nat:=0
def PySem.W.Fast.tw10007392038735115412:Nat:=0
def PySem.W.Fast.tw6008511639577358521:Nat:=0
def PySem.W.Fast.tw12427408166392969720:Nat:=0
def PySem.W.Fast.tw13350765576661074555:Nat:=0
def PySem.W.Fast.tw16212973042576050200:Nat:=0
def PySem.W.Fast.tw16362870066336547135:Nat:=0
def PySem.W.Fast.tw4223044212996803568:Nat:=0
def PySem.W.Fast.tw10904345474994597558:Nat:=0
def PySem.W.Fast.tw6336248490745849247:Nat:=0
def PySem.W.Fast.tw3218140685414014354:Nat:=0
def PySem.W.Fast.tw5685255638186119725:Nat:=0
def PySem.W.Fast.tw14575103746507344165:Nat:=0
def PySem.W.Fast.tw14229840785377693319:Nat:=0
def PySem.W.Fast.tw2875618634067069442:Nat:=0
def PySem.W.Fast.tw12515140614085344814:Nat:=0
def PySem.W.Fast.tw12245061267786854669:Nat:=0
def PySem.W.Fast.tw16266771541147873911:Nat:=0
def PySem.W.Fast.tw13843780243530040102:Nat:=0
def PySem.W.Fast.tw6385143257324075508:Nat:=0
def PySem.W.Fast.tw15484515119876558655:Nat:=0
def PySem.W.Fast.tw17270476244058813564:Nat:=0
def PySem.W.Fast.tw7294143748267052552:Nat:=0
def PySem.W.Fast.tw3900209224749956400:Nat:=0
def PySem.W.Fast.tw4586237446999321549:Nat:=0
def PySem.W.Fast.tw10559803694464509154:Nat:=0
def PySem.W.Fast.tw6621091891941992418:Nat:=0
def PySem.W.Fast.tw17970333698017618843:Nat:=0
def PySem.W.Fast.tw8557778260426008376:Nat:=0
def PySem.W.Fast.tw12612318381739479363:Nat:=0
def PySem.W.Fast.tw12385546641543855690:Nat:=0
def PySem.W.Fast.tw7221239753087127785:Nat:=0
def PySem.W.Fast.tw13174284799206936340:Nat:=0
def PySem.W.Fast.tw13114700138343600249:Nat:=0
def PySem.W.Fast.tw11190654455156054108:Nat:=0
def PySem.W.Fast.tw18257369803737479621:Nat:=0
def PySem.W.Fast.tw13017141626184196751:Nat:=0
def PySem.W.Fast.tw3401449170796242285:Nat:=0
def PySem.W.Fast.tw17676013674576921341:Nat:=0
def PySem.W.Fast.tw17252003830079480199:Nat:=0
def PySem.W.Fast.tw1755098561280400944:Nat:=0
def PySem.W.Fast.tw17169116094774220933:Nat:=0
def PySem.W.Fast.tw2335331265441659407:Nat:=0
def PySem.W.Fast.tw1052978214310431778:Nat:=0
def PySem.W.Fast.tw10452711785234503690:Nat:=0
def PySem.W.Fast.tw17027636498132830819:Nat:=0
def PySem.W.Fast.tw10309760099068041051:Nat:=0
def PySem.W.Fast.tw4117326374347988783:Nat:=0
def PySem.W.Fast.tw606689417298825361:Nat:=0
def PySem.W.Fast.tw16028155899048677185:Nat:=0
def PySem.W.Fast.tw3472127004262851299:Nat:=0
def PySem.W.Fast.tw12496450832211372948:Nat:=0
def PySem.W.Fast.tw8129919168109328734:Nat:=0
def PySem.W.Fast.tw13505425026665820046:Nat:=0
def PySem.W.Fast.tw7389663582335524150:Nat:=0
open PySem PySem.W PyProof.Rows
set_option maxRecDepth 100000 in
set_option maxHeartbeats 0 in
theorem PySem.Challenge.cw_slitview_k12_whole_shortest_holds : PySem.Challenge.rw_slitview_k12_whole_shortest.Holds := by
 w_on; o_law; k_head; (case hw=>w_witness2)
 k_fill
 refine' K12.Qa (l:=PySem.Challenge.rw_slitview_k12_whole_shortest) rfl rfl rfl (fun w h Y=>⟨PySem.W.km_in_of Y,PySem.W.km_tabs_of Y _ (by simp)⟩) ?T
 case T =>
  intro w
  refine' { yan:=?yan,yaq:=?yaq,yao:=?yao,yat:=?yat,yas:=?yas,yav:=?yav,yax:=?yax,yai:=?yai,yaj:=?yaj,yaf:=?yaf,yak:=?yak,yad:=?yad,yah:=?yah,yag:=?yag,yae:=?yae,yac:=?yac,yaA:=?yaA,yay:=?yay,yaz:=?yaz,yar:=?yar,yap:=?yap,yau:=?yau,yaw:=?yaw,yam:=?yam,yal:=?yal,yaC:=?yaC,yaD:=?yaD,yaE:=?yaE,yaF:=?yaF,yaG:=?yaG,yaH:=?yaH,yaI:=?yaI,yaJ:=?yaJ,yaK:=?yaK,yaL:=?yaL,yaM:=?yaM,yaN:=?yaN,yaP:=?yaP,yaQ:=?yaQ,yaR:=?yaR,yab:=?yab,yaa:=?yaa,ck:=?ck,z_least_ending:=?z_least_ending }
  (case yab=>k_is)
  (case yaa=>k_is)
  (case yan=>and_intros)
  (case yaq=>and_intros)
  (case yao=>and_intros)
  (case yat=>and_intros)
  (case yas=>and_intros)
  (case yav=>and_intros)
  (case yax=>and_intros)
  (case yai=>and_intros)
  (case yaj=>and_intros)
  (case yaf=>and_intros)
  (case yak=>and_intros)
  (case yad=>and_intros)
  (case yah=>and_intros)
  (case yag=>and_intros)
  (case yae=>and_intros)
  (case yac=>and_intros)
  (case yaA=>and_intros)
  (case yay=>and_intros)
  (case yaz=>and_intros)
  (case yar=>and_intros)
  (case yap=>and_intros)
  (case yau=>and_intros)
  (case yaw=>and_intros)
  (case yam=>and_intros)
  (case yal=>and_intros)
  (case yaC=>k_is)
  (case yaD=>k_is)
  (case yaE=>k_is)
  (case yaF=>k_is)
  (case yaG=>k_is)
  (case yaH=>k_is)
  (case yaI=>k_is)
  (case yaJ=>k_is)
  (case yaK=>k_is)
  (case yaL=>k_is)
  (case yaM=>k_is)
  (case yaN=>k_is)
  (case yaP=>refine' Pu.P6 ?e; (case e=>k_is))
  (case yaQ=>refine' Pu.P_ ?e; (case e=>k_is))
  (case yaR=>refine' Pu.P_ ?e; (case e=>k_is))
  (case ck=>kernel_rfl)
  (case z_least_ending=>refine⟨?u1,?u2,?u3⟩; (case u1=>kernel_rfl); (case u2=>kernel_rfl); (case u3=>kernel_rfl))
