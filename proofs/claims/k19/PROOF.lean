import PyProof.Rows.All
import Wide.All
import OpenK.AllK
import Wide.FinOn
import Lean
import PyProof.EqAt
import PyProof.EqKinds
import PyProof.TupleCall
import PyProof.LongRange
import PyProof.ListRange
import PyProof.RaisesMany
import PyProof.ExcBaseAll.ValueError
import PyProof.ExcArgs
import PyProof.InstStoreFacts
import PyProof.ExcAttrAll.ValueError
import PyProof.RulesAs
import PyProof.RulesDel
import PyProof.ReprRoads
import PyProof.CallFns
import PyProof.InstSpecial
import PyProof.Rows.RuleN_isinstance
import KE.KIsNot
import PyProof.ReprLen
import PyProof.EnumMake
import PyProof.EnumFor
import PyProof.EnumStmt
import PyProof.Rows.EnumRows
import PyProof.RulesDelMore
import PyProof.Rows.SetFrom
import PyProof.ZipIter
import PyProof.IsRules
import PyProof.Conv_int_bool
import PyProof.IsiTuple
import PyProof.NeKinds
import KE.KEqDict
import PyProof.Rows.FStr
import PyProof.Rows.StrNews
import PyProof.StrCalls2
import PyProof.StrLawsChain
import PyProof.StrLawsTight
import PyProof.StrOps2
import PyProof.WalkInts
import PyProof.DictCompW
import PyProof.DictWalks
import PyProof.Rows.DictUnroll
import PyProof.FactsAll.dict
import PyProof.AttrMissHeap
import PyProof.FactsAll.zip
import KE.KDictOf
import PyProof.StrCalls6
import PyProof.ToksMono
import PyProof.DictUpdate
import PyProof.EqLayable
import PyProof.Rows.SortStr
import PyProof.Rows.SortWalk
import KE.KDictList
import PyProof.DictItemsLoops
import PyProof.EqAt
import PyProof.EqKinds
import PySem.Challenge.RW_roomslaid_k19_copies_share_nothing
set_option hygiene false
set_option autoImplicit true
set_option Elab.async false
set_option linter.all false
set_option maxRecDepth 100000
local macro_rules|`(tactic|ac_rfl)=>`(tactic|decide +kernel)
theorem hide_{p:Prop}(h:let g:=p;g):p:=h
def LpL (p:Prop):Prop:=p
theorem LpL.i{p:Prop}(h:p):LpL p:=h
local macro_rules | `(tactic| obtain $p:rcasesPatMed := $e) => `(tactic| (refine hide_ ?_;intro G_; (rcases $e:term with $p) <;> (unfold G_;try clear G_;try (with_reducible refine LpL.i ?_;intro D_))))
local macro_rules | `(tactic| omega) => `(tactic| lia)
open PySem.W (Frag keepIn findIn codeIn nsIn fnOf mg_of isFn mg_none_of)
open List renaming length_map->δ,getElem?_eq_some_iff->ε,getElem?_eq_getElem->ζ,length_append->θ,mem_of_getElem?->ι,mem_singleton->ο,mem_cons->π,mem_cons_self->ρ,mem_cons_of_mem->ς,map_append->χ,getD_eq_getElem?_getD->Γ,length_take->Θ,size_toArray->Φ,mem_append_right->Ψ,length_cons->Ω,getElem?_append_right->ie,getElem?_map->ig,zipWith->il,getElem?_append_left->ir,mem_map->iu,take_add_one->iw,mem_iff_getElem?->jb,mem_append_left->jd,append_assoc->jg,mem_append->ji,drop_eq_getElem_cons->jj,range->jk,map_map->jp,all_eq_true->jq,getElem_mem->ju,not_mem_nil->jv,length_range->jw,map_cons->jx,append_nil->jy,replicate->jz,take_append_drop->kj,nodup_cons->md,length_singleton->mh,length_replicate->mw,eq_nil_of_length_eq_zero->og,getElem?_take_of_lt->oy,filter_cons_of_neg->pz,take_of_length_le->qd,flatMap_append->qf,map_congr_left->qg,pairwise_iff_getElem->qi,length_zipWith->qx,flatMap_singleton->qz,zipWith_cons_cons->rc,getElem?_eq_none->uc,sum_cons->uj,replicate_succ->uk,getElem?_range->ul,cons_append->uu,length_eq_zero_iff->uv,pairwise_singleton->uw,find?_cons->vd,range_succ->vg,pairwise_map->vy,nodup_append->vz,mem_range->wb,length_drop->wg,length_pos_iff->wm,zipWith_append->wo,length_take_le->wq,lookup->xm,flatten_cons->xr,flatMap_cons->xw,drop_of_length_le->xy,getElem?_zipWith->yd,eq_nil_or_concat->ye,concat_eq_append->yf,any_eq_true->yj,getElem_map->ym,any_cons->yo,Pairwise->yp
open PySem.Str renaming ofString->η,join->jt,cps_append->tw,append_assoc->wj
open Nat renaming le_refl->ν,lt_of_lt_of_le->Δ,zero_le->io,le_trans->ip,ne_of_lt->ja,min_le_left->kg,lt_of_le_of_lt->li,sub_self->mi,not_succ_le_zero->qa,lt_irrefl->qc,le_of_lt->ql,succ_le_succ->rq,le_succ->ug,ne_of_gt->we,lt_succ_self->wf,add_assoc->wz,not_lt_zero->xg,min_le_right->yl
open PySem renaming wpAny_bind->ξ,sizeLine->ψ,Shared->ω,mainGlobals->iq,wpAny_pure->iy,wpAny->iz,boot_len->je,sizeLine_eq->jf,model->jh,starEach->jl,strLen_append->kq,sysModules->ky,Program->mf,compareOp->mj,Around->mn,wpAny_truthy_bool->mq,Heap->mv,bootBuiltins->my,mem_of_lookup->nh,wpAny_mono->ny,wpAny_loadPart'->om,World->oo,Spec->oq,cLine->qj,binaryOp->qo,wpAny_seqItems->qp,wpAny_field->qq,wpAny_pyIter_list->qt,wpAny_richCompare_same_room->rf,wpAny_holding->rm,wpAny_call_entry->sd,wpAny_pyIter_tuple->sx,wpAny_setField_rec->tx,Builtin->ub,wpAny_passesOwn->uf,behindInMarks->uh,FuncData->uo,wpAny_getItem_str_slice->uq,call_meets->uy,valueAt->vo,backTo->wl,attributeBase->wu,letOwnedTupleGo->xf,assignEach->xh,wpAny_Call_Name_kw->xi,tupleKind_room_in1->xj,sliceBounds->xo,wpAny_newObj_type->xu,wpAny_dictEntries->ya,wpAny_isInstance->yk,wpAny_updateSeq_pair->yt
open PySem.Heap renaming get?_push_of_some->τ,get?_push_size->ij,lt_size->ik,get?_update_other->lw,SameBut->pq,size_push->sy,get?_update_self->ua,IsTuple->xx
open Bool renaming false_ne_true->υ,and_eq_true->ke,eq_iff_iff->qv,false_and->sm,false_eq_true->uz
open PySem.W renaming Frag->Ξ,kitOne->ki,mg_none_of->oh,kia_one->ot,instObj->qu,findIn->ud,mroIn->ww,methodCall_KW->yc,plainGet->yi
open PyProof.Rows renaming boot_isinstance->ii,boot_list->qh,boot_tuple->qw,callWith_type1->qy
open True renaming intro->jm
open PySem.PassesOwn renaming never->jo
open PySem.PyData renaming str->jr,depthAll->lj,dict->rn,depthKv->wd
open Option renaming map_eq_some_iff->kc,isSome_iff_exists->qm
open Option.some renaming inj->kf
open PySem.Builtin.SmallTypes renaming nextOf->kh,ownedTupleIsFree->oz,ownedTupleHandOut->wn
open PySem.Value renaming ref->km,none->sg
open False renaming elim->kn
open Nat.succ renaming inj->lc
open PySem.F renaming plainAttrs_list->lh,slot_list_append->pe,type_list_append->ph,plainAttrs_str->rj,slot_tuple_iterator_next->tu,args_tuple_add_2->wx,slot_dict_itemiterator_iter->xc,entry_tuple_add->xn,slot_tuple_add->xp,slot_str_join->yg,type_str_join->yh
open Ne renaming symm->lm
open Array renaming length_toList->mz,getElem?_eq_getElem->ow,toList_append->qe,getElem?_toList->vj
open Int renaming toNat_natCast->oe,zero_add->rh,natCast_add->vh,natCast_nonneg->xk
open PySem.SeqAt renaming EqAt->ol,shaped->ou,canLay_of_shaped->yb
open PySem.Builtin.Range renaming rangeSize->pw
open PySem.Builtin.Str renaming occurrences->px
open PySem.Paired renaming length->qb
open PySem.Txt renaming split->qk
open Sum renaming inr->qr
open PySem.Builtin.Dict renaming dictSlotArgs->ue
open PySem.Builtin.List renaming listTooLong->ui,listExtendWith->vm
open PySem.Obj renaming mapSeq->ux
open ForInStep renaming yield->vb
open PySem.Shared renaming heap->wc
open List.cons renaming inj->wy
open Sum.inr renaming inj->xl
open PySem.Calls renaming callWith_builtin->xq
open List.Pairwise renaming nil->xt
namespace L2
open PySem PySem.Spec PyProof.Rows
abbrev Key:=Sum Int Str
def mZ:Key->Value->Bool
 |.inl k,v=>Value.isInt k v
 |.inr x,v=>Value.isStrOf x v
def keyH (w:oo):Key->Int
 |.inl k=>hashInt k
 |.inr x=>hashStr w x
theorem qV:∀{k:Key}{v:Value},mZ k v=true->(∃i t,k=Sum.inl i/\v=Value.int i t)\/(∃x t,k=qr x/\v=Value.str x t)
 |.inl i,v,h=>by
  obtain⟨t,e⟩:=Value.isInt_shape (k:=i) (v:=v) h;exact .inl ⟨i,t,rfl,e⟩
 |.inr x,v,h=>by
  obtain⟨t,e⟩:=Value.isStrOf_shape (x:=x) (v:=v) h;exact .inr ⟨x,t,rfl,e⟩
theorem aGq(i:Int)(t:Tok):mZ (.inl i) (.int i t)=true:=by simp[mZ,Value.isInt]
theorem aHl(x:Str)(t:Tok):mZ (.inr x) (.str x t)=true:=by simp[mZ,Value.isStrOf]
theorem aRi(a b:Int):decide ((Sum.inl a:Key)=Sum.inl b)=(a == b):=by
 by_cases e:a=b
 ·subst e;simp
 ·have h:¬ (Sum.inl a:Key)=Sum.inl b:=fun q=>e (Sum.inl.inj q);rw[decide_eq_false h];exact(beq_eq_false_iff_ne.mpr e).symm
theorem aPd(a b:Str):decide ((qr a:Key)=qr b)=decide (a=b):=by
 by_cases e:a=b
 ·subst e;simp
 ·have h:¬ (qr a:Key)=qr b:=fun q=>e (xl q);rw[decide_eq_false h,decide_eq_false e]
theorem aQm(a:Int)(b:Str):decide ((Sum.inl a:Key)=qr b)=false:=decide_eq_false (fun q=>nomatch q)
theorem aRs(a:Str)(b:Int):decide ((qr a:Key)=Sum.inl b)=false:=decide_eq_false (fun q=>nomatch q)
def qN (prog:mf) (w:oo):PySem.KeyKind prog w Key where
 is:=mZ
 hash:=keyH w
 inj:=fun v a b ha hb=>by
  rcases qV ha with⟨i,t,rfl,rfl⟩|⟨x,t,rfl,rfl⟩
  ·rcases qV hb with⟨j,u,rfl,e⟩|⟨y,u,rfl,e⟩
   ·injection e with e1 _;rw[e1]
   ·exact nomatch e
  ·rcases qV hb with⟨j,u,rfl,e⟩|⟨y,u,rfl,e⟩
   ·exact nomatch e
   ·injection e with e1 _;rw[e1]
 byValue:=fun k v h=>by
  rcases qV h with⟨i,t,rfl,rfl⟩|⟨x,t,rfl,rfl⟩ <;> rfl
 pyHash:=fun hv h=>by
  rcases qV hv with⟨i,t,rfl,rfl⟩|⟨x,t,rfl,rfl⟩
  ·exact wpAny_pyHash_int h
  ·exact wpAny_pyHash_str h
 eqBool:=fun hu hv h=>by
  rcases qV hu with⟨i,t,rfl,rfl⟩|⟨x,t,rfl,rfl⟩
  ·rcases qV hv with⟨j,u,rfl,rfl⟩|⟨y,u,rfl,rfl⟩
   ·rw[aRi]at h;exact wpAny_eqBool_int h
   ·rw[aQm]at h;exact ol.int_str i t y u _ _ _ _ h
  ·rcases qV hv with⟨j,u,rfl,rfl⟩|⟨y,u,rfl,rfl⟩
   ·rw[aRs]at h;exact ol.str_int x t j u _ _ _ _ h
   ·rw[aPd]at h;exact wpAny_eqBool_str h
 «strs»:=fun k x t v h=>by
  rcases qV h with⟨i,u,rfl,e⟩|⟨y,u,rfl,e⟩
  ·exact nomatch e
  ·injection e with e1 _;subst e1;cases v <;> rfl
theorem aBr(prog:mf)(w:oo)(i:Int)(t:Tok):(qN prog w).is (.inl i) (.int i t)=true:=aGq i t
theorem aAf(prog:mf)(w:oo)(x:Str)(t:Tok):(qN prog w).is (.inr x) (.str x t)=true:=aHl x t
inductive V where
 |non|bl (b:Bool)|int (i:Int)|str (x:Str)|byt (b:Array UInt8)|flt (b:UInt64)|ref (a:Addr)|ty (n:String)
 deriving DecidableEq
def RelV:V->Value->Prop
 |.non,u=>u=sg
 |.bl b,u=>u=Value.bool b
 |.int i,u=>∃t,u=Value.int i t
 |.str x,u=>∃t,u=Value.str x t
 |.byt b,u=>∃t,u=Value.bytes b t
 |.flt b,u=>∃t,u=Value.float b t
 |.ref a,u=>u=km a
 |.ty n,u=>u=Value.type n
abbrev kM:List V->List Value->Prop:=Paired RelV
theorem kM.length(r:kM xs us):xs.length=us.length:=qb r
theorem kM.get:∀{xs:List V}{us:List Value}{i:Nat}{x:V},kM xs us->xs[i]?=some x->∃u,us[i]?=some u/\RelV x u
 |_,_,_,_,.nil,e=>by simp at e
 |_,_,0,_,.cons r _,e=>by simp at e;subst e;exact⟨_,rfl,r⟩
 |_,_,i+1,x,.cons _ t,e=>by
  obtain⟨u,h1,h2⟩:=kM.get (i:=i) (x:=x) t (by simpa using e);exact⟨u,by simpa using h1,h2⟩
theorem kM.set(r:RelV x u):∀{xs:List V}{us:List Value}(i:Nat),kM xs us->kM (xs.set i x) (us.set i u)
 |_,_,_,.nil=>.nil
 |_,_,0,.cons _ t=>.cons r t
 |_,_,i+1,.cons q t=>.cons q (kM.set r i t)
theorem kM.append:∀{xs ys:List V}{us ws:List Value},kM xs us->kM ys ws->kM (xs++ys) (us++ws)
 |_,_,_,_,.nil,s=>s
 |_,_,_,_,.cons r t,s=>.cons r (kM.append t s)
theorem kM.take:∀{xs:List V}{us:List Value}(n:Nat),kM xs us->kM (xs.take n) (us.take n)
 |_,_,0,_=>.nil
 |_,_,_+1,.nil=>.nil
 |_,_,n+1,.cons r t=>.cons r (kM.take n t)
theorem kM.drop:∀{xs:List V}{us:List Value}(n:Nat),kM xs us->kM (xs.drop n) (us.drop n)
 |_,_,0,r=>r
 |_,_,_+1,.nil=>.nil
 |_,_,n+1,.cons _ t=>kM.drop n t
theorem kM.none_of:∀{xs:List V}{us:List Value}{i:Nat},kM xs us->xs[i]?=none->us[i]?=none:=fun {xs us i} r e=>by
 have h1:=r.length;have h2:xs.length<=i:=List.getElem?_eq_none_iff.mp e;exact List.getElem?_eq_none_iff.mpr (by omega)
def cP:Option V->Option Value->Prop
 |some v,some u=>RelV v u
 |none,none=>True
 |_,_=>False
def KV {κ : Type} : List (κ×V)->List (κ×Value)->Prop:=Paired fun (p : κ×V) (q : κ×Value)=>p.1=q.1/\RelV p.2 q.2
def kV:Key->V
 |.inl i=>.int i
 |.inr x=>.str x
inductive HO where
 /-- a list -/
 |lst (xs:List V)
 /-- a tuple (never changes) -/
 |tup (xs:List V)
 /-- a dict whose keys are ints and texts;one whose keys are tuples of ints and texts (the empty one is both) -/
 |dK (kvs:List (Key×V))|dT (kvs:List (List Key×V))
 /-- a set of ints: its members,its size -/
 |set (S:Int->Bool) (n:Nat)
 /-- an instance of the class at C,its dict at dx,its attributes -/
 |ins (C dx:Addr) (fs:List (Str×V))
 /-- the dict of the instance at x -/
 |own (x:Addr)
 /-- the dict of an exception -/
 |xd (fs:List (Str×V))
 /-- a bound method,f of x -/
 |met (f x:Addr)
 /-- a range object lo,lo+1,.. below hi -/
 |rng (lo hi:Int)
 /-- a thing that is known to the object (the script;a dict while a loop walks it): read,never written while it is so -/
 |frz (o:Obj) (u:HO)
 /-- a code object's table -/
 |tbl (ps:Array Value)
 /-- any other thing,by what is true of its one object (a def of one's own: SetO a S n := HO.ext fun h => ..) -/
 |ext (φ : mv->Prop)
abbrev Hp:=Addr->Option HO
def upd (H:Hp) (a:Addr) (o:HO):Hp:=fun b=>if b=a then some o else H b
theorem jP : upd H a o a=some o:=by unfold upd;rw[if_pos rfl]
theorem jT{H:Hp}{a b:Addr}(h:b≠a):upd H a o b=H b:=by unfold upd;rw[if_neg h]
theorem gW{H:Hp}(h:H a=some o)(h':H b=some u)(d:o≠u):a≠b:=by
 intro e;subst e;rw[h]at h';exact d (kf h')
theorem jN{H:Hp}(h:H a=some o)(h':H b=none):a≠b:=by
 intro e;subst e;rw[h]at h';cases h'
section
variable (P:mf) (w:oo)
def qZ (H:Hp) (h:mv) (a:Addr):HO->Prop
 |.lst xs=>xs.length<=ψ/\∃(its:List Value) (n:Nat),kM xs its/\h.get? a=some { cls:=.type "list",data:=.seq its.toArray n }
 |.tup xs=>xs.length<=ψ/\∃its:List Value,kM xs its/\IsTup h a its.toArray
 |.dK kvs=>kvs.length<=ψ/\(a == ky)=false/\∃vs,KV kvs vs/\h.DictOf (qN P w) a vs
 |.dT kvs=>kvs.length<=ψ/\(a == ky)=false/\∃xs:List (List Key×Addr×Value),
   Paired (fun (p:List Key×V) (q:List Key×Addr×Value)=>p.1=q.1/\H q.2.1=some (.tup (p.1.map kV))/\RelV p.2 q.2.2) kvs xs ∧
   ∃o es ep,h.get? a=some o/\o.ExactDict/\o.data=.dict es ep/\es.toList=xs.map (entryOfKey (tupleKind (qN P w)))/\(xs.map (·.1)).Nodup
 |.set S n=>h.SetOf (intKind P w) a S n
 |.ins C dx fs=>H dx=some (.own a)/\fs.length<=1000/\dx≠a/\h.get? a=some (qu C dx) ∧
   ∃mA,h.Ns1 dx mA/\(∀f,cP (fs.lookup f) (mA f))/\PySem.Within mA (fs.map (·.1))
 |.own _=>∃o,h.get? a=some o
 |.xd fs=>∃mA,h.Ns1 a mA/\∀f,cP (fs.lookup f) (mA f)
 |.rng lo hi=>∃t u v,h.get? a=some { cls:=.type "range",data:=.fields #[.int lo t,.int hi u,.int 1 v] }
 |.frz o u=>h.get? a=some o/\qZ H h a u
 |.tbl ps=>h.get? a=some { cls:=.none,data:=.fields ps }
 |.met f x=>h.get? a=some (PySem.W.methodObj (.ref f) (.ref x))
 |.ext φ=>φ h/\(∃o,h.get? a=some o)/\∀h1 h2:mv,φ h1->(∀o,h1.get? a=some o->h2.get? a=some o)->φ h2
def HOk (H:Hp) (h:mv):Prop:=∀a o,H a=some o->qZ P w H h a o
end
section
variable {P:mf}{w:oo}{H H':Hp}{h h':mv}{a:Addr}{o:HO}
theorem qZ.lt(x:qZ P w H h a o):a<h.objs.size:=by
 cases o with
 |lst xs=>obtain⟨_,_,_,_,e⟩:=x;exact ik e
 |tup xs=>obtain⟨_,_,_,p⟩:=x;exact p.lt
 |dK kvs=>obtain⟨_,_,_,_,o,_,_,e,_⟩:=x;exact ik e
 |dT kvs=>obtain⟨_,_,_,_,o,_,_,e,_⟩:=x;exact ik e
 |set S n=>obtain⟨o,_,_,_,e,_⟩:=x;exact ik e
 |ins C dx fs=>obtain⟨_,_,_,e,_⟩:=x;exact ik e
 |own y=>obtain⟨_,e⟩:=x;exact ik e
 |xd fs=>obtain⟨_,⟨_,_,_,e,_⟩,_⟩:=x;exact ik e
 |rng lo hi=>obtain⟨_,_,_,e⟩:=x;exact ik e
 |frz ob u=>obtain⟨e,_⟩:=x;exact ik e
 |tbl ps=>exact ik (show h.get? a=some _ from x)
 |met f y=>exact ik (show h.get? a=some _ from x)
 |ext φ=>obtain⟨_,⟨_,e⟩,_⟩:=x;exact ik e
theorem Paired.mapP{α β : Type}{F G : α->β->Prop}: ∀{l₁ : List α}{l₂ : List β},Paired F l₁ l₂->(∀a b,F a b->G a b)->Paired G l₁ l₂
 |_,_,.nil,_=>.nil
 |_,_,.cons r t,f=>.cons (f _ _ r) (Paired.mapP t f)
theorem qZ.stay(x:qZ P w H h a o)(k:∀b u,(b=a\/H b=some (.own a))->h.get? b=some u->h'.get? b=some u)
  (ho:∀b,H b=some (.own a)->H' b=some (.own a))(ht:∀b xs,H b=some (.tup xs)->H' b=some (.tup xs)):qZ P w H' h' a o:=by
 induction o with
 |lst xs=>obtain⟨z,its,n,r,e⟩:=x;exact⟨z,its,n,r,k _ _ (.inl rfl) e⟩
 |tup xs=>obtain⟨z,its,r,ob,e,c⟩:=x;exact⟨z,its,r,ob,k _ _ (.inl rfl) e,c⟩
 |dK kvs=>obtain⟨z,y,vs,r,ob,es,ep,e,c⟩:=x;exact⟨z,y,vs,r,ob,es,ep,k _ _ (.inl rfl) e,c⟩
 |dT kvs =>
  obtain⟨z,y,xs,r,ob,es,ep,e,c⟩:=x;exact⟨z,y,xs,Paired.mapP r fun p q z=>⟨z.1,ht _ _ z.2.1,z.2.2⟩,ob,es,ep,k _ _ (.inl rfl) e,c⟩
 |set S n=>obtain⟨ob,es,ep,t,e,c⟩:=x;exact⟨ob,es,ep,t,k _ _ (.inl rfl) e,c⟩
 |ins C dx fs =>
  obtain⟨d,z,ne,e,mA,⟨od,es,ep,e2,c⟩,r⟩:=x;exact⟨ho _ d,z,ne,k _ _ (.inl rfl) e,mA,⟨od,es,ep,k _ _ (.inr d) e2,c⟩,r⟩
 |own y=>obtain⟨ob,e⟩:=x;exact⟨ob,k _ _ (.inl rfl) e⟩
 |xd fs=>obtain⟨mA,⟨od,es,ep,e,c⟩,r⟩:=x;exact⟨mA,⟨od,es,ep,k _ _ (.inl rfl) e,c⟩,r⟩
 |rng lo hi=>obtain⟨t,u,v,e⟩:=x;exact⟨t,u,v,k _ _ (.inl rfl) e⟩
 |frz ob u ih=>obtain⟨e,q⟩:=x;exact⟨k _ _ (.inl rfl) e,ih q⟩
 |tbl ps =>
  have e:h.get? a=some { cls:=.none,data:=.fields ps }:=x;show h'.get? a=some { cls:=.none,data:=.fields ps };exact k a _ (.inl rfl) e
 |met f y =>
  have e:h.get? a=some (PySem.W.methodObj (.ref f) (.ref y)):=x;show h'.get? a=some (PySem.W.methodObj (.ref f) (.ref y));exact k a _ (.inl rfl) e
 |ext φ=>obtain⟨p,⟨o,e⟩,st⟩:=x;exact⟨st _ _ p fun o q=>k _ _ (.inl rfl) q,⟨o,k _ _ (.inl rfl) e⟩,st⟩
theorem HOk.lt(x:HOk P w H h)(e:H a=some o):a<h.objs.size:=(x a o e).lt
theorem HOk.fresh(x:HOk P w H h)(e:h.objs.size<=a):H a=none:=by
 cases q:H a with
 |none=>rfl
 |some u=>exact absurd (Δ (x.lt q) e) (qc _)
theorem HOk.kept(x:HOk P w H h)(k:∀b u,h.get? b=some u->h'.get? b=some u):HOk P w H h':=fun a o e =>
 (x a o e).stay (fun b u _ q=>k b u q) (fun _ q=>q) fun _ _ q=>q
theorem HOk.laid(x:HOk P w H h)(k:∀b u,h.get? b=some u->h'.get? b=some u)(hp:h.objs.size<=a)(new:qZ P w (upd H a o) h' a o):HOk P w (upd H a o) h':=fun b u e=>by
 have hn:=x.fresh hp
 by_cases hb:b=a
 ·subst hb;rw[jP]at e;cases e;exact new
 ·rw[jT hb]at e;exact(x b u e).stay (fun c v _ q=>k c v q) (fun c q=>by rw[jT (jN q hn)];exact q) fun c xs q=>by rw[jT (jN q hn)];exact q
end
def Rd (H:Hp) (a:Addr) (u:HO):Prop:=H a=some u\/∃o,H a=some (.frz o u)
theorem Rd.of{H:Hp}(h:H a=some u):Rd H a u:=.inl h
theorem Rd.ok(r:Rd H a u)(x:HOk P w H h):qZ P w H h a u:=by
 rcases r with r|⟨o,r⟩
 ·exact x a u r
 ·obtain⟨_,q⟩:=x a _ r;exact q
def Mut:Option HO->Prop
 |some (.lst _)=>True
 |some (.dK _)=>True
 |some (.dT _)=>True
 |some (.set _ _)=>True
 |some (.ins _ _ _)=>True
 |some (.ext _)=>True
 |_=>False
section
variable {P:mf}{w:oo}{H:Hp}{h h':mv}{x e:Addr}{o':HO}
theorem HOk.write(ok:HOk P w H h)(mu:Mut (H x))(he:e=x\/H e=some (.own x))(k:∀b u,b≠e->h.get? b=some u->h'.get? b=some u)(heo:∃u,h'.get? e=some u)
  (new:qZ P w (upd H x o') h' x o'):HOk P w (upd H x o') h':=fun b u q=>by
 have nown:∀c y,H c=some (.own y)->c≠x:=fun c y r z=>by subst z;rw[r]at mu;exact mu
 have ntup:∀c xs,H c=some (.tup xs)->c≠x:=fun c xs r z=>by subst z;rw[r]at mu;exact mu
 by_cases hb:b=x
 ·subst hb;rw[jP]at q;cases q;exact new
 ·rw[jT hb]at q
  by_cases hbe:b=e
  ·have q':H b=some (.own x):=by
    rcases he with z|z
    ·exact absurd (hbe.trans z) hb
    ·rw[hbe];exact z
   rw[q]at q';cases q';obtain⟨v,hv⟩:=heo;exact⟨v,by rw[hbe];exact hv⟩
  ·refine(ok b u q).stay (fun c v hc r=>k c v ?_ r) (fun c r=>by rw[jT (nown c b r)];exact r) fun c xs r=>by rw[jT (ntup c xs r)];exact r
   rcases hc with rfl|hc
   ·exact hbe
   ·rintro rfl;rcases he with z|z
    ·exact nown c b hc z
    ·rw[hc]at z;cases z;exact hb rfl
end
structure Un (fs ex:List Addr) (H H':Hp) (h h':mv):Prop where
 keep:∀b o,h.get? b=some o->H b=none->b∉fs->b∉ex->h'.get? b=some o
 slot:∀b o,h.get? b=some o->H b=none->b∈fs->b∉ex->∃sl,h'.get? b=some { o with slots:=sl }
 free:∀b o,h.get? b=some o->H b=none->b∉ex->H' b=none
 there:∀b o,h.get? b=some o->b∉ex->∃o',h'.get? b=some o'
 tups:∀b xs,H b=some (.tup xs)->H' b=some (.tup xs)
 frzs:∀b o u,H b=some (.frz o u)->H' b=some (.frz o u)
 tbls:∀b ps,H b=some (.tbl ps)->∃more,H' b=some (.tbl (ps++more))
section
variable {fs fs' ex ex':List Addr}{H H1 H2:Hp}{h h1 h2 h':mv}{a x e:Addr}{o:HO}
theorem Un.any(u:Un fs ex H H1 h h1){b:Addr}{ob:Obj}(q:h.get? b=some ob)(n:H b=none)(hx:b∉ex):∃sl,h1.get? b=some { ob with slots:=sl }:=by
 by_cases hb:b∈fs
 ·exact u.slot b ob q n hb hx
 ·exact⟨ob.slots,u.keep b ob q n hb hx⟩
theorem Un.trans(a:Un fs ex H H1 h h1)(b:Un fs ex H1 H2 h1 h2):Un fs ex H H2 h h2 where
 keep:=fun c ob q n hc hx=>b.keep c ob (a.keep c ob q n hc hx) (a.free c ob q n hx) hc hx
 slot:=fun c ob q n hc hx=>by
  obtain⟨sl,e1⟩:=a.slot c ob q n hc hx;obtain⟨sl',e2⟩:=b.slot c _ e1 (a.free c ob q n hx) hc hx;exact⟨sl',e2⟩
 free:=fun c ob q n hx=>by
  obtain⟨o',e1⟩:=a.there c ob q hx;exact b.free c o' e1 (a.free c ob q n hx) hx
 there:=fun c ob q hx=>by
  obtain⟨o',e1⟩:=a.there c ob q hx;exact b.there c o' e1 hx
 tups:=fun c xs q=>b.tups c xs (a.tups c xs q)
 frzs:=fun c ob xs q=>b.frzs c ob xs (a.frzs c ob xs q)
 tbls:=fun c ps q=>by
  obtain⟨m1,e1⟩:=a.tbls c ps q;obtain⟨m2,e2⟩:=b.tbls c _ e1;exact⟨m1++m2,by rw[e2,Array.append_assoc]⟩
theorem Un.kept(k:∀b u,h.get? b=some u->h'.get? b=some u):Un fs ex H H h h' :=
 ⟨fun b ob q _ _ _=>k b ob q,fun b ob q _ _ _=>⟨ob.slots,k b ob q⟩,fun _ _ _ n _=>n,fun b ob q _=>⟨ob,k b ob q⟩,fun _ _ q=>q,fun _ _ _ q=>q,fun _ ps q=>⟨#[],by rw[q];simp⟩⟩
theorem Un.refl:Un fs ex H H h h:=Un.kept fun _ _ q=>q
theorem Un.laid(k:∀b u,h.get? b=some u->h'.get? b=some u)(hp:h.objs.size<=a)(hn:H a=none):Un fs ex H (upd H a o) h h' where
 keep:=fun b u q _ _ _=>k b u q
 slot:=fun b u q _ _ _=>⟨u.slots,k b u q⟩
 free:=fun b u q n _=>by rw[jT (ja (Δ (ik q) hp))];exact n
 there:=fun b u q _=>⟨u,k b u q⟩
 tups:=fun b xs q=>by rw[jT (jN q hn)];exact q
 frzs:=fun b u xs q=>by rw[jT (jN q hn)];exact q
 tbls:=fun b ps q=>⟨#[],by rw[jT (jN q hn),q];simp⟩
theorem Un.write(mu:Mut (H x))(he:e=x\/H e=some (.own x))(k:∀b u,b≠e->h.get? b=some u->h'.get? b=some u)(heo:∃u,h'.get? e=some u):Un fs ex H (upd H x o) h h':=by
 have hx:∀b,H b=none->b≠x:=fun b n z=>by subst z;rw[n]at mu;exact mu
 have hb:∀b,H b=none->b≠e:=fun b n z=>by
  subst z;rcases he with r|r
  ·exact hx b n r
  ·rw[n]at r;cases r
 have hm:∀b u,H b=some u->¬ Mut (some u)->b≠x:=fun b u q nm z=>by subst z;rw[q]at mu;exact nm mu
 refine⟨fun b u q n _ _=>k b u (hb b n) q,fun b u q n _ _=>⟨u.slots,k b u (hb b n) q⟩,fun b u q n _=>by rw[jT (hx b n)];exact n,fun b u q _=>?_,
  fun b xs q=>by rw[jT (hm b _ q fun z=>z)];exact q,fun b u xs q=>by rw[jT (hm b _ q fun z=>z)];exact q,fun b ps q=>⟨#[],by rw[jT (hm b _ q fun z=>z),q];simp⟩⟩
 by_cases hbe:b=e
 ·subst hbe;exact heo
 ·exact⟨u,k b u hbe q⟩
theorem Un.mono(u:Un fs ex H H1 h h1)(hs:∀b∈fs,b∈fs')(hx:∀b∈ex,b∈ex'):Un fs' ex' H H1 h h1 :=
 ⟨fun b ob q n hb he=>u.keep b ob q n (fun z=>hb (hs b z)) fun z=>he (hx b z),fun _ _ q n _ he=>u.any q n fun z=>he (hx _ z),fun b ob q n he=>u.free b ob q n fun z=>he (hx b z),fun b ob q he=>u.there b ob q fun z=>he (hx b z),u.tups,u.frzs,u.tbls⟩
end
def trk (h:mv) (H:Hp):List Addr:=(jk h.objs.size).filter fun a=>(H a).isSome
def uT (h:mv) (H:Hp):mv:=PySem.W.hideAll h (trk h H)
theorem aHg(h:mv)(H:Hp):(uT h H).objs.size=h.objs.size:=PySem.W.hideAll_size _ _
theorem aJr{h:mv}{H:Hp}{b:Addr}(e:h.get? b=some o)(n:H b=none):(uT h H).get? b=some o :=
 PySem.W.hideAll_get _ e fun hm=>by
  have q:(H b).isSome=true:=(List.mem_filter.mp hm).2;rw[n]at q;simp at q
theorem aNe{H:Hp}{b:Addr}(e:(uT h H).get? b=some o):h.get? b=some o/\H b=none:=by
 have e':h.get? b=some o:=PySem.W.of_hideAll (trk h H) e;refine⟨e',?_⟩;cases q:H b with
 |none=>rfl
 |some x =>
  have hm:b∈trk h H:=List.mem_filter.mpr ⟨wb.mpr (ik e'),by simp[q]⟩;have z:(uT h H).get? b=none:=PySem.W.hideAll_none (trk h H) hm;rw[z]at e;cases e
def aNk (g h:mv) (L:Addr):List (Addr×Obj):=(jk h.objs.size).filterMap fun a=>if a=L\/(g.get? a).isSome=true then none else (h.get? a).map fun o=>(a,o)
def rest (g h:mv) (L d:Addr):List (Addr×Obj):=(aNk g h L).filter fun p=>decide (p.1≠d)
structure Mod (K:Ξ) (mg:Str->Option Value) (base:mv):Prop where
 kin:K.In base
 glob:base.Ns iq mg
 blt:∃mb,base.Ns builtinsNs mb/\∀x:Str,x ≠ "__name__"->mb x=my x
 nolimit:base.NoLimit
structure Cx where
 prog:mf
 w:oo
 K:Ξ
 mg:Str->Option Value
 base:mv
 A:mn
 N:List Str
 s₀ : ω
 H₀ : Hp
 env:Env
 outer:List Env
 stack:List Env
 ex:List Addr
 fn:Str->Bool
 calm:Bool
 pn:List (Addr×Obj)
 xe:Value->ω->Prop
def frs (l:List Env):List Addr:=l.filterMap (·.frame)
abbrev Cx.fs (X:Cx):List Addr:=frs X.outer
def Vis (sc:Scope) (x:Str):Prop:=sc.names.lookup x=some .local\/sc.names.lookup x=some .cell\/sc.names.lookup x=some .free
def Loc (sc:Scope) (x:Str):Prop:=sc.names.lookup x=some .local\/sc.names.lookup x=some .cell
def Look (env:Env) (h:mv) (m:Str->Option Value) (x:Str) (u:Value):Prop :=
 (env.kindOf x=some .local/\m x=some u)\/((env.kindOf x=some .cell\/env.kindOf x=some .free)/\∃c,env.cells.lookup x=some c/\h.IsCell c (some u))
structure Cx.Ok (X:Cx):Prop where
 mod:Mod X.K X.mg X.base
 kind:X.env.scope.kind=.function
 glob:X.env.globals=iq
 blt:X.env.builtins=builtinsNs
 above:X.s₀.heap.objs.size<=X.env.locals
 inj:∀x y c,X.env.cells.lookup x=some c->X.env.cells.lookup y=some c->x=y
 has:∀x,(X.env.kindOf x=some .cell\/X.env.kindOf x=some .free)->∃c,X.env.cells.lookup x=some c
 cab:∀x c,X.fn x=true->X.env.cells.lookup x=some c->X.s₀.heap.objs.size<=c
 hd:X.calm=true->X.A.handled=none
 frames:X.A.frames=some X.stack
 stk:X.stack=X.outer\/(X.stack=X.env::X.outer/\X.env.frame=some X.env.locals)
 exf:∀b∈X.ex,b≠X.env.locals/\∀x c,X.env.cells.lookup x=some c->c≠b
 bs:∀b o,X.base.get? b=some o->X.s₀.heap.get? b=some o/\X.H₀ b=none
 bsz:X.base.objs.size<=X.s₀.heap.objs.size
 noex:∀b o,X.base.get? b=some o->b∉X.ex
 exfs:∀b∈X.ex,b∉X.fs
 funs:X.s₀.heap.FunFrames X.base X.outer
 frf:∀b∈X.fs,X.H₀ b=none
structure Inv (X:Cx) (pins:List (Addr×Obj)) (σ:List (Option V)) (H:Hp) (s:ω):Prop where
 ok:X.Ok
 os:s.os=X.s₀.os
 bare:AllBare s.gens
 base:Un X.fs X.ex X.H₀ H X.s₀.heap s.heap
 loc:∃m,s.heap.Ns X.env.locals m/\∀(i:Nat) (x:Str) (v:V),X.N[i]?=some x->σ[i]?=some (some v)->Vis X.env.scope x->∃u,RelV v u/\Look X.env s.heap m x u
 cell:∀x c,X.env.cells.lookup x=some c->∃v,s.heap.IsCell c v
 free:H X.env.locals=none
 freeC:∀x c,X.env.cells.lookup x=some c->H c=none
 pin:∀p∈X.pn++pins,s.heap.get? p.1=some p.2/\H p.1=none/\p.1≠X.env.locals/\p.1∉X.fs/\∀v,p.2.data≠.cell v
 hok:HOk X.prog X.w H s.heap
 len : σ.length=X.N.length
section
variable {X:Cx}{pins:List (Addr×Obj)}{σ:List (Option V)}{H H':Hp}{s:ω}{h':mv}
theorem Cx.Ok.nofr(ok:X.Ok){b:Addr}(e:X.base.get? b=some o):b∉X.fs:=fun hb=>by
 have:=(ok.funs.mem hb).1;rw[e]at this;cases this
theorem Inv.bs(I:Inv X pins σ H s):∀b o,X.base.get? b=some o->s.heap.get? b=some o/\H b=none:=fun b o e =>
 ⟨I.base.keep b o (I.ok.bs b o e).1 (I.ok.bs b o e).2 (I.ok.nofr e) (I.ok.noex b o e),I.base.free b o (I.ok.bs b o e).1 (I.ok.bs b o e).2 (I.ok.noex b o e)⟩
theorem Inv.bk(I:Inv X pins σ H s):∀b o,X.base.get? b=some o->s.heap.get? b=some o:=fun b o e=>(I.bs b o e).1
theorem Inv.mod(I:Inv X pins σ H s):Mod X.K X.mg X.base:=I.ok.mod
theorem Inv.kIn(I:Inv X pins σ H s):X.K.In s.heap:=I.ok.mod.kin.keeps I.bk
theorem Inv.nolimit(I:Inv X pins σ H s):s.heap.NoLimit:=I.ok.mod.nolimit.keeps I.bk
theorem Inv.fr(I:Inv X pins σ H s):∃m,Fr X.base X.env.locals s.heap m :=
 let ⟨m,hn,_⟩:=I.loc
 ⟨m,hn,I.bk,ip I.ok.bsz I.ok.above⟩
theorem Inv.lt(I:Inv X pins σ H s):X.env.locals<s.heap.objs.size:=let ⟨_,hn,_⟩:=I.loc;hn.lt
theorem Inv.sz(I:Inv X pins σ H s):X.s₀.heap.objs.size<=s.heap.objs.size:=ip I.ok.above (ql I.lt)
theorem Inv.nofs(I:Inv X pins σ H s){a:Addr}(h:s.heap.objs.size<=a):a∉X.fs:=fun hb=>by
 obtain⟨_,o,ho,_⟩:=I.ok.funs.mem hb;exact absurd (Δ (ik ho) (ip I.sz h)) (qc _)
theorem Inv.cne(I:Inv X pins σ H s):∀x c,X.env.cells.lookup x=some c->c≠X.env.locals:=fun x c e z=>by
 obtain⟨v,o,ho,hd⟩:=I.cell x c e;obtain⟨m,⟨o',es,ep,ho',hd',_⟩,_⟩:=I.loc;rw[z,ho']at ho;cases ho;rw[hd']at hd;cases hd
theorem Inv.funs(I:Inv X pins σ H s):s.heap.FunFrames X.base X.outer:=by
 have all:∀(l:List Env),(∀b∈frs l,b∈X.fs)->X.s₀.heap.FunFrames X.base l->s.heap.FunFrames X.base l:=by
  intro l
  induction l with
  |nil=>intro _ _;trivial
  |cons env r ih =>
   intro hs hl;obtain⟨hk,⟨L,o,hf,hn,ho,hd⟩,hr⟩:=hl;have hL:L∈X.fs:=hs L (by unfold frs;rw[List.filterMap_cons,hf];exact ρ);obtain⟨sl,e⟩:=I.base.slot L o ho (I.ok.frf L hL) hL fun z=>I.ok.exfs L z hL;exact⟨hk,⟨L,_,hf,hn,e,hd⟩,ih (fun b hb=>hs b (by unfold frs;rw[List.filterMap_cons,hf];exact ς _ hb)) hr⟩
 exact all X.outer (fun _ hb=>hb) I.ok.funs
theorem Inv.stack(I:Inv X pins σ H s):s.heap.FunFrames X.base X.stack:=by
 rcases I.ok.stk with e|⟨e,hf⟩
 ·rw[e];exact I.funs
 ·rw[e];obtain⟨m,hn,_⟩:=I.loc;refine .cons (by rw[I.ok.kind];decide) hf hn ?_ I.funs;exact mv.get?_none_of_le (ip I.ok.bsz I.ok.above)
theorem Inv.stkSub(I:Inv X pins σ H s):∀b∈frs X.stack,b∈X.env.locals::X.fs:=fun b hb=>by
 rcases I.ok.stk with e|⟨e,hf⟩
 ·rw[e]at hb;exact ς _ hb
 ·rw[e]at hb;unfold frs at hb;rw[List.filterMap_cons,hf]at hb;exact hb
theorem Inv.stkFree(I:Inv X pins σ H s):∀b∈frs X.stack,H b=none:=fun b hb=>by
 rcases π.mp (I.stkSub b hb) with e|hb
 ·rw[e];exact I.free
 ·obtain⟨_,o,ho,_⟩:=I.ok.funs.mem hb;exact I.base.free b o ho (I.ok.frf b hb) fun z=>I.ok.exfs b z hb
theorem Inv.step{t':Nat}{d':Drawn}{ch:List Addr}(I:Inv X pins σ H s)
  (hch:∀b∈ch,(b∈X.ex\/X.s₀.heap.objs.size<=b)/\b≠X.env.locals/\(∀x c,X.env.cells.lookup x=some c->c≠b)/\∀p∈X.pn++pins,p.1≠b)
  (keep:∀b o,b≠X.env.locals->b∉X.fs->b∉ch->s.heap.get? b=some o->H b=none->h'.get? b=some o)
  (slot:∀b o,b≠X.env.locals->b∈X.fs->b∉ch->s.heap.get? b=some o->H b=none->∃sl,h'.get? b=some { o with slots:=sl })(free:∀b o,b∉ch->s.heap.get? b=some o->H b=none->H' b=none)
  (there:∀b o,b∉ch->s.heap.get? b=some o->∃o',h'.get? b=some o')
  (tups:∀b xs,H b=some (.tup xs)->H' b=some (.tup xs))(frzs:∀b o u,H b=some (.frz o u)->H' b=some (.frz o u))(tbls:∀b ps,H b=some (.tbl ps)->∃more,H' b=some (.tbl (ps++more)))
  (ns:∀m,s.heap.Ns X.env.locals m->h'.Ns X.env.locals m)(hok:HOk X.prog X.w H' h')(hg:AllBare g'):
  Inv X pins σ H' { s with heap:=h',gens:=g',drawn:=d',toks:=t' }:=by
 have neL:∀b o,X.s₀.heap.get? b=some o->b≠X.env.locals:=fun b o e=>ja (Δ (ik e) I.ok.above);have neC:∀b o,X.s₀.heap.get? b=some o->b∉X.ex->b∉ch:=fun b o e hx hb=>by
  rcases (hch b hb).1 with z|z
  ·exact hx z
  ·exact absurd (Δ (ik e) z) (qc _)
 have cellK:∀x c,X.env.cells.lookup x=some c->∀v,s.heap.IsCell c v->h'.IsCell c v:=fun x c e v ⟨o,ho,hd⟩=>by
  have nch:c∉ch:=fun z=>(hch c z).2.2.1 x c e rfl
  by_cases hc:c∈X.fs
  ·obtain⟨sl,q⟩:=slot c o (I.cne x c e) hc nch ho (I.freeC x c e);exact⟨_,q,hd⟩
  ·exact⟨o,keep c o (I.cne x c e) hc nch ho (I.freeC x c e),hd⟩
 refine⟨I.ok,I.os,hg,⟨fun b o e n hb hx=>?_,fun b o e n hb hx=>?_,fun b o e n hx=>?_,fun b o e hx=>?_,fun b xs e=>tups b xs (I.base.tups b xs e),fun b o xs e=>frzs b o xs (I.base.frzs b o xs e),fun b ps e=>?_⟩,?_,fun x c e=>?_,?_,fun x c e=>?_,fun p hp=>?_,hok,I.len⟩
 ·exact keep b o (neL b o e) hb (neC b o e hx) (I.base.keep b o e n hb hx) (I.base.free b o e n hx)
 ·obtain⟨sl,e1⟩:=I.base.slot b o e n hb hx;obtain⟨sl',e2⟩:=slot b _ (neL b o e) hb (neC b o e hx) e1 (I.base.free b o e n hx);exact⟨sl',e2⟩
 ·obtain⟨o',e1⟩:=I.base.there b o e hx;exact free b o' (neC b o e hx) e1 (I.base.free b o e n hx)
 ·obtain⟨o',e1⟩:=I.base.there b o e hx;exact there b o' (neC b o e hx) e1
 ·obtain⟨m1,e1⟩:=I.base.tbls b ps e;obtain⟨m2,e2⟩:=tbls b _ e1;exact⟨m1++m2,by rw[e2,Array.append_assoc]⟩
 ·obtain⟨m,hn,hl⟩:=I.loc;refine⟨m,ns m hn,fun i x v e1 e2 e3=>?_⟩;obtain⟨u,r,l⟩:=hl i x v e1 e2 e3;refine⟨u,r,?_⟩;rcases l with l|⟨k,c,e,z⟩
  ·exact .inl l
  ·exact .inr ⟨k,c,e,cellK x c e _ z⟩
 ·obtain⟨v,z⟩:=I.cell x c e;exact⟨v,cellK x c e v z⟩
 ·obtain⟨m,⟨o,_,_,ho,_⟩,_⟩:=I.loc;exact free _ o (fun z=>(hch _ z).2.1 rfl) ho I.free
 ·obtain⟨v,o,ho,hd⟩:=I.cell x c e;exact free c o (fun z=>(hch c z).2.2.1 x c e rfl) ho (I.freeC x c e)
 ·obtain⟨e,n,ne,nf,d⟩:=I.pin p hp;have nch:p.1∉ch:=fun z=>(hch p.1 z).2.2.2 p hp rfl;exact⟨keep p.1 p.2 ne nf nch e n,free p.1 p.2 nch e n,ne,nf,d⟩
theorem Inv.un{t':Nat}(I:Inv X pins σ H s)(u:Un X.fs [] H H' s.heap h')(hok:HOk X.prog X.w H' h'):Inv X pins σ H' { s with heap:=h',toks:=t' }:=by
 obtain⟨m,⟨o,es,ep,ho,r⟩,_⟩:=id I.loc;obtain⟨sl,hL⟩:=u.any ho I.free (by simp);exact I.step (g':=s.gens) (d':=s.drawn) (ch:=[]) (fun _ z=>nomatch z) (fun b o _ hb _ e n=>u.keep b o e n hb (by simp)) (fun b o _ hb _ e n=>u.slot b o e n hb (by simp)) (fun b o _ e n=>u.free b o e n (by simp)) (fun b o _ e=>u.there b o e (by simp)) u.tups u.frzs u.tbls (fun m' hm=>by
  obtain⟨o',es',ep',ho',r'⟩:=hm;rw[ho]at ho';cases ho';exact⟨_,es',ep',hL,r'⟩) hok I.bare
theorem Inv.call{t':Nat}{d':Drawn}(I:Inv X pins σ H s)(u:Un (frs X.stack) ch H H' s.heap h')(hok:HOk X.prog X.w H' h')(hg:AllBare g')
  (hch:∀b∈ch,(b∈X.ex\/X.s₀.heap.objs.size<=b)/\b≠X.env.locals/\(∀x c,X.env.cells.lookup x=some c->c≠b)/\∀p∈X.pn++pins,p.1≠b):
  Inv X pins σ H' { s with heap:=h',gens:=g',drawn:=d',toks:=t' }:=by
 obtain⟨m,⟨o,es,ep,ho,r⟩,_⟩:=id I.loc;obtain⟨sl,hL⟩:=u.any ho I.free fun z=>(hch _ z).2.1 rfl;exact I.step (ch:=ch) hch (fun b o hL hb hc e n=>u.keep b o e n (fun z=>(π.mp (I.stkSub b z)).elim hL hb) hc) (fun b o _ _ hc e n=>u.any e n hc) (fun b o hc e n=>u.free b o e n hc) (fun b o hc e=>u.there b o e hc) u.tups u.frzs u.tbls (fun m' hm=>by
  obtain⟨o',es',ep',ho',r'⟩:=hm;rw[ho]at ho';cases ho';exact⟨_,es',ep',hL,r'⟩) hok hg
theorem Inv.turned{t':Nat}{it:Addr}(I:Inv X pins σ H s)(k:∀b o,b≠it->s.heap.get? b=some o->h'.get? b=some o)(hn:H it=none)(hL:it≠X.env.locals)
  (h1:it∈X.ex\/X.s₀.heap.objs.size<=it)(h2:∀x c,X.env.cells.lookup x=some c->c≠it)(h3:∀p∈X.pn++pins,p.1≠it):Inv X pins σ H { s with heap:=h',toks:=t' }:=by
 have nit:∀b u,H b=some u->b≠it:=fun b u e z=>by rw[z,hn]at e;cases e
 refine I.step (g':=s.gens) (d':=s.drawn) (ch:=[it]) (fun b hb=>?_) (fun b o _ _ hc e _=>k b o (fun z=>hc (by simp[z])) e) (fun b o _ _ hc e _=>⟨o.slots,k b o (fun z=>hc (by simp[z])) e⟩) (fun _ _ _ _ n=>n)
  (fun b o hc e=>⟨o,k b o (fun z=>hc (by simp[z])) e⟩) (fun _ _ e=>e) (fun _ _ _ e=>e) (fun b ps e=>⟨#[],by rw[e];simp⟩) (fun m hm=>?_) (fun b u e=>?_) I.bare
 ·have e:b=it:=by simpa using hb
  subst e;exact⟨h1,hL,h2,h3⟩
 ·obtain⟨o,es,ep,ho,r⟩:=hm;exact⟨o,es,ep,k _ o (lm hL) ho,r⟩
 ·refine(I.hok b u e).stay (fun c v hc q=>k c v ?_ q) (fun _ q=>q) fun _ _ q=>q;rcases hc with z|z
  ·rw[z];exact nit b u e
  ·exact nit c _ z
theorem Inv.tok(I:Inv X pins σ H s)(t:Nat):Inv X pins σ H { s with toks:=t }:=I.un (h':=s.heap) (t':=t) Un.refl I.hok
theorem Inv.kept{t':Nat}(I:Inv X pins σ H s)(k:∀b u,s.heap.get? b=some u->h'.get? b=some u):Inv X pins σ H { s with heap:=h',toks:=t' }:=I.un (Un.kept k) (I.hok.kept k)
theorem Inv.laid{a:Addr}{t':Nat}(I:Inv X pins σ H s)(k:∀b u,s.heap.get? b=some u->h'.get? b=some u)(hp:s.heap.objs.size<=a)(new:qZ X.prog X.w (upd H a o) h' a o):
  Inv X pins σ (upd H a o) { s with heap:=h',toks:=t' }:=I.un (Un.laid k hp (I.hok.fresh hp)) (I.hok.laid k hp new)
theorem Inv.write{e:Addr}{t':Nat}(I:Inv X pins σ H s)(mu:Mut (H x))(he:e=x\/H e=some (.own x))(k:∀b u,b≠e->s.heap.get? b=some u->h'.get? b=some u)(heo:∃u,h'.get? e=some u)
  (new:qZ X.prog X.w (upd H x o) h' x o):Inv X pins σ (upd H x o) { s with heap:=h',toks:=t' }:=I.un (Un.write mu he k heo) (I.hok.write mu he k heo new)
theorem Inv.pins_of{pins':List (Addr×Obj)}(I:Inv X pins σ H s)(h:∀p∈pins',s.heap.get? p.1=some p.2/\H p.1=none/\p.1≠X.env.locals/\p.1∉X.fs/\∀v,p.2.data≠.cell v):Inv X pins' σ H s :=
 ⟨I.ok,I.os,I.bare,I.base,I.loc,I.cell,I.free,I.freeC,fun p hp=>(ji.mp hp).elim (fun z=>I.pin p (jd _ z)) (h p),I.hok,I.len⟩
theorem aBh{N:List Str}(hN:N.Nodup){i j:Nat}(a:N[i]?=some x)(b:N[j]?=some x):i=j:=by
 obtain⟨h1,e1⟩:=ε.mp a;obtain⟨h2,e2⟩:=ε.mp b;exact(List.getElem_inj hN).mp (e1.trans e2.symm)
theorem aGp{i:Nat}{Q:Unit->ω->Prop}(I:Inv X pins σ H s)(hN:X.N.Nodup)(hi:X.N[i]?=some x)(hx:Loc X.env.scope x)(r:RelV v u)
  (h:∀s',Inv X pins (σ.set i (some v)) H s'->(∃a,pq a s.heap s'.heap/\(a=X.env.locals\/X.env.cells.lookup x=some a))->Q () s')(hf:X.fn x=true\/X.env.scope.names.lookup x=some .local:=by first|exact .inl rfl|exact .inr rfl|assumption):iz M A (storeName X.env x u) Q E s:=by
 obtain⟨m,hn,hl⟩:=id I.loc;have hcls:(X.env.scope.kind == .class||(X.env.scope.kind == .module&&X.env.locals != X.env.globals))=false:=by rw[I.ok.kind];rfl
 have hiσ:i<σ.length:=by rw[I.len];exact(ε.mp hi).1
 have cne:=I.cne;have tracked:∀{a:Addr}{h':mv},(∃o,s.heap.get? a=some o/\H a=none)->pq a s.heap h'->HOk X.prog X.w H h':=fun {a h'} ha hs b ob e=>by
  obtain⟨_,_,hfree⟩:=ha;refine(I.hok b ob e).stay (fun c w' hc q=>(hs.2 c ?_).trans q) (fun _ q=>q) fun _ _ q=>q;rintro rfl;rcases hc with rfl|hc
  ·rw[hfree]at e;cases e
  ·rw[hfree]at hc;cases hc
 rcases hx with hk|hk
 ·refine wpAny_storeName_local hk hn (fun h' hn' hs=>?_) hcls;obtain⟨oL,_,_,hoL,_⟩:=id hn;refine h _ ⟨I.ok,I.os,I.bare,⟨fun b o e n hb hx=>?_,fun b o e n hb hx=>?_,I.base.free,fun b o e hx=>?_,I.base.tups,I.base.frzs,I.base.tbls⟩,⟨_,hn',fun j y v' e1 e2 e3=>?_⟩,fun y c e=>?_,I.free,I.freeC,fun p hp=>?_,tracked ⟨oL,hoL,I.free⟩ hs,by simpa using I.len⟩ ⟨_,hs,.inl rfl⟩
  ·exact(hs.2 b (ja (Δ (ik e) I.ok.above))).trans (I.base.keep b o e n hb hx)
  ·obtain⟨sl,e1⟩:=I.base.slot b o e n hb hx;exact⟨sl,(hs.2 b (ja (Δ (ik e) I.ok.above))).trans e1⟩
  ·obtain⟨o',e1⟩:=I.base.there b o e hx;exact⟨o',(hs.2 b (ja (Δ (ik e) I.ok.above))).trans e1⟩
  ·by_cases hj:j=i
   ·subst hj;rw[hi]at e1;cases e1;rw[List.getElem?_set_self hiσ]at e2;cases e2;exact⟨u,r,.inl ⟨hk,by simp⟩⟩
   ·rw[List.getElem?_set_ne (lm hj)]at e2;obtain⟨u',r',q⟩:=hl j y v' e1 e2 e3;refine⟨u',r',?_⟩;rcases q with⟨k,e⟩|⟨k,c,e,z⟩
    ·refine .inl ⟨k,?_⟩;have:y≠x:=fun e=>hj (aBh hN e1 (e ▸ hi));simp[this,e]
    ·exact .inr ⟨k,c,e,z.sameBut hs (cne y c e)⟩
  ·obtain⟨w',z⟩:=I.cell y c e;exact⟨w',z.sameBut hs (cne y c e)⟩
  ·obtain⟨e,n,ne,nf,d⟩:=I.pin p hp;exact⟨(hs.2 p.1 ne).trans e,n,ne,nf,d⟩
 ·have hfn:X.fn x=true:=by
   rcases hf with z|z
   ·exact z
   ·rw[z]at hk;cases hk
  obtain⟨c,hc⟩:=I.ok.has x (.inl hk);obtain⟨w',z⟩:=I.cell x c hc;refine wpAny_storeName_cell I.ok.kind hk hc z (fun h' hc' hs=>?_);obtain⟨oc,hoc,hocd⟩:=id z;refine h { s with heap:=h' } ⟨I.ok,I.os,I.bare,⟨fun b o e n hb hx=>?_,fun b o e n hb hx=>?_,I.base.free,fun b o e hx=>?_,I.base.tups,I.base.frzs,I.base.tbls⟩,⟨m,hn.sameBut hs (lm (cne x c hc)),fun j y v' e1 e2 e3=>?_⟩,fun y c' e=>?_,I.free,I.freeC,fun p hp=>?_,tracked ⟨oc,hoc,I.freeC x c hc⟩ hs,by simpa using I.len⟩ ⟨c,hs,.inr hc⟩
  ·exact(hs.2 b (ja (Δ (ik e) (I.ok.cab x c hfn hc)))).trans (I.base.keep b o e n hb hx)
  ·obtain⟨sl,e1⟩:=I.base.slot b o e n hb hx;exact⟨sl,(hs.2 b (ja (Δ (ik e) (I.ok.cab x c hfn hc)))).trans e1⟩
  ·obtain⟨o',e1⟩:=I.base.there b o e hx;exact⟨o',(hs.2 b (ja (Δ (ik e) (I.ok.cab x c hfn hc)))).trans e1⟩
  ·by_cases hj:j=i
   ·subst hj;rw[hi]at e1;cases e1;rw[List.getElem?_set_self hiσ]at e2;cases e2;exact⟨u,r,.inr ⟨.inl hk,c,hc,hc'⟩⟩
   ·rw[List.getElem?_set_ne (lm hj)]at e2;obtain⟨u',r',q⟩:=hl j y v' e1 e2 e3;refine⟨u',r',?_⟩;rcases q with q|⟨k,c',e,z'⟩
    ·exact .inl q
    ·refine .inr ⟨k,c',e,z'.sameBut hs ?_⟩;rintro rfl;exact hj (aBh hN e1 (I.ok.inj _ _ _ e hc ▸ hi))
  ·by_cases hcc:c'=c
   ·subst hcc;exact⟨_,hc'⟩
   ·obtain⟨w2,z2⟩:=I.cell y c' e;exact⟨w2,z2.sameBut hs hcc⟩
  ·obtain⟨e,n,ne,nf,d⟩:=I.pin p hp;refine⟨(hs.2 p.1 ?_).trans e,n,ne,nf,d⟩;intro q;rw[q,hoc]at e;have q':oc=p.2:=kf e;exact d w' (by rw[←q'];exact hocd)
theorem wK{i:Nat}{Q:Unit->ω->Prop}(I:Inv X pins σ H s)(hN:X.N.Nodup)(hi:X.N[i]?=some x)(hx:Loc X.env.scope x)(r:RelV v u)
  (h:∀s',Inv X pins (σ.set i (some v)) H s'->Q () s')(hf:X.fn x=true\/X.env.scope.names.lookup x=some .local:=by first|exact .inl rfl|exact .inr rfl|assumption):iz M A (storeName X.env x u) Q E s :=
 aGp I hN hi hx r (fun s' I' _=>h s' I') hf
end
abbrev XK:=Value->Option Addr->Hp->Prop
abbrev St:=List (Option V)
abbrev VK:=V->Hp->Prop
abbrev TE:=St->Hp->VK->Prop
abbrev TT:=St->Hp->(Bool->Hp->Prop)->Prop
abbrev TA:=St->Hp->(List V->Hp->Prop)->Prop
structure Ends where
 nx:St->Hp->Prop
 rt:VK
 bk:St->Hp->Prop:=fun _ _=>False
 ct:St->Hp->Prop:=fun _ _=>False
abbrev TS:=Ends->St->Hp->Prop
def EP (X:Cx) (pins:List (Addr×Obj)) (σ:St) (Q:VK) (u:Value) (s':ω):Prop:=∃v H',Inv X pins σ H' s'/\RelV v u/\Q v H'
def TP (X:Cx) (pins:List (Addr×Obj)) (σ:St) (Q:Bool->Hp->Prop) (b:Bool) (s':ω):Prop:=∃H',Inv X pins σ H' s'/\Q b H'
def AP (X:Cx) (pins:List (Addr×Obj)) (σ:St) (Q:List V->Hp->Prop) (us:List Value) (s':ω):Prop:=∃vs H',Inv X pins σ H' s'/\kM vs us/\Q vs H'
theorem EP.el{Q:VK}{C:Prop}(h:EP X pins σ Q u s)(f:∀v H,Inv X pins σ H s->RelV v u->Q v H->C):C:=by
 obtain⟨v,H,a,b,c⟩:=h;exact f v H a b c
theorem AP.el{Q:List V->Hp->Prop}{C:Prop}(h:AP X pins σ Q u s)(f:∀v H,Inv X pins σ H s->kM v u->Q v H->C):C:=by
 obtain⟨v,H,a,b,c⟩:=h;exact f v H a b c
def SP (X:Cx) (pins:List (Addr×Obj)) (D:Ends) (f:Flow) (s':ω):Prop :=
 match f with
 |.next=>∃σ' H',Inv X pins σ' H' s'/\D.nx σ' H'
 |.brk=>∃σ' H',Inv X pins σ' H' s'/\D.bk σ' H'
 |.cont=>∃σ' H',Inv X pins σ' H' s'/\D.ct σ' H'
 |.ret u=>∃v σ' H',Inv X pins σ' H' s'/\RelV v u/\D.rt v H'
def PE (X:Cx) (e:Expr) (t:TE):Prop :=
 ∀(pins:List (Addr×Obj)) (s:ω) (σ:St) (H:Hp) (Q:VK),Inv X pins σ H s->t σ H Q->iz (jh X.prog X.w) X.A (eval e X.env) (EP X pins σ Q) X.xe s
def PT (X:Cx) (e:Expr) (t:TT):Prop :=
 ∀(pins:List (Addr×Obj)) (s:ω) (σ:St) (H:Hp) (Q:Bool->Hp->Prop),Inv X pins σ H s->t σ H Q->iz (jh X.prog X.w) X.A (isTrue e X.env (eval e X.env)) (TP X pins σ Q) X.xe s
def PW (X:Cx) (e:Expr) (t:TT):Prop :=
 ∀(whole:Sem Value) (pins:List (Addr×Obj)) (s:ω) (σ:St) (H:Hp) (Q:Bool->Hp->Prop),Inv X pins σ H s->t σ H Q->iz (jh X.prog X.w) X.A (isTrue e X.env whole) (TP X pins σ Q) X.xe s
theorem PW.pt(h:PW X e t):PT X e t:=h _
def PA (X:Cx) (es:List Expr) (t:TA):Prop :=
 ∀(pos:Pos) (pins:List (Addr×Obj)) (s:ω) (σ:St) (H:Hp) (Q:List V->Hp->Prop),Inv X pins σ H s->t σ H Q->iz (jh X.prog X.w) X.A (spliced (wl pos (jl es X.env))) (AP X pins σ Q) X.xe s
def PS (X:Cx) (st:Stmt) (t:TS):Prop :=
 ∀(pins:List (Addr×Obj)) (s:ω) (σ:St) (H:Hp) (D:Ends),Inv X pins σ H s->t D σ H->iz (jh X.prog X.w) X.A (exec st X.env) (SP X pins D) X.xe s
def PSs (X:Cx) (st:List Stmt) (t:TS):Prop :=
 ∀(pins:List (Addr×Obj)) (s:ω) (σ:St) (H:Hp) (D:Ends),Inv X pins σ H s->t D σ H->iz (jh X.prog X.w) X.A (execs st X.env) (SP X pins D) X.xe s
theorem thn{α : Type}{t:Sem α}{Q Q' : α->ω->Prop}{M:Model}{A:mn}{E:Value->ω->Prop}{s:ω}(h:iz M A t Q E s)(hQ:∀a s,Q a s->Q' a s):iz M A t Q' E s:=ny h hQ fun _ _ x=>x
section
variable {X:Cx}
inductive aKz (i:Nat) (σ:St) (H:Hp) (Q:VK):Prop|mk:∀v,σ[i]?=some (some v)->Q v H->aKz i σ H Q
def wC (i:Nat):TE:=fun σ H Q=>aKz i σ H Q
def tC (v:V):TE:=fun _ H Q=>Q v H
theorem aPs{i:Nat}(hN:X.N[i]?=some x)(hv:Vis X.env.scope x)(hd:(x == ("__debug__" : Str))=false:=by decide)(hcd:(x == ("__classdict__" : Str))=false:=by decide):PE X (.Name x pos) (wC i):=by
 intro pins s σ H Q I h;obtain⟨v,e,h⟩:=h;obtain⟨m,hn,hl⟩:=I.loc;obtain⟨u,r,l⟩:=hl i x v hN e hv;have fin:EP X pins σ Q u s:=⟨v,H,I,r,h⟩;rcases l with⟨hk,hm⟩|⟨hk,c,hc,hcell⟩
 ·exact wpAny_Name (wpAny_loadName_local I.ok.kind hk hn hm fin) hd
 ·rcases hk with hk|hk
  ·exact wpAny_Name (wpAny_loadName_cell I.ok.kind hk hc hcell fin) hd
  ·exact wpAny_Name (wpAny_loadName_free I.ok.kind hk hc hcell fin hcd) hd
theorem jE{i j pos}: PE X (.Constant (.int i) j pos) (tC (.int i)):=fun _ _ _ H _ I h=>wpAny_Constant_int ⟨.int i,H,I.tok _,⟨_,rfl⟩,h⟩
theorem aA{b j pos}: PE X (.Constant (.bool b) j pos) (tC (.bl b)):=fun _ _ _ H _ I h=>Constant_bool ⟨.bl b,H,I,rfl,h⟩
theorem lB{j pos}: PE X (.Constant .none j pos) (tC .non):=fun _ _ _ H _ I h=>Constant_none ⟨.non,H,I,rfl,h⟩
theorem jO{x j pos}: PE X (.Constant (.str x) j pos) (tC (.str x)):=fun _ _ _ H _ I h=>Calls.Constant_str ⟨.str x,H,I.tok _,⟨_,rfl⟩,h⟩
def Gl (X:Cx) (x:Str):Prop:=X.env.kindOf x=some .globalImplicit
theorem uM{Q:Value->ω->Prop}(I:Inv X pins σ H s)(hg:Gl X x)(hm:X.mg x=some u)(h:Q u s)
  (hd:(x == ("__debug__" : Str))=false:=by decide):iz (jh X.prog X.w) X.A (eval (.Name x pos) X.env) Q E s :=
 Calls.Name_function_global I.ok.kind hg (Calls.loadGlobal_global (by rw[I.ok.glob];exact I.mod.glob.keeps I.bk) hm h) hd
theorem lA{Q:Value->ω->Prop}(I:Inv X pins σ H s)(hg:Gl X x)(hm:X.mg x=none)(hv:my x=some u)(h:Q u s)
  (hn:x ≠ "__name__":=by decide)(hd:(x == ("__debug__" : Str))=false:=by decide):iz (jh X.prog X.w) X.A (eval (.Name x pos) X.env) Q E s:=by
 obtain⟨mb,h1,h2⟩:=I.mod.blt;exact Calls.Name_function_global I.ok.kind hg (Calls.loadGlobal_builtin (by rw[I.ok.glob];exact I.mod.glob.keeps I.bk) hm (by rw[I.ok.blt];exact h1.keeps I.bk) ((h2 x hn).trans hv) h) hd
theorem qM(hg:Gl X x)(hm:X.mg x=some u)(r:RelV v u)(hd:(x == ("__debug__" : Str))=false:=by decide):PE X (.Name x pos) (tC v) :=
 fun _ _ _ H _ I h=>uM I hg hm ⟨v,H,I,r,h⟩ hd
theorem kT(hg:Gl X x)(hm:X.mg x=none)(hv:my x=some u)(r:RelV v u)(hn:x ≠ "__name__":=by decide)(hd:(x == ("__debug__" : Str))=false:=by decide):PE X (.Name x pos) (tC v) :=
 fun _ _ _ H _ I h=>lA I hg hm hv ⟨v,H,I,r,h⟩ hn hd
variable {a b:Expr}{ta tb:TE}{pos:Pos}
def PC (X:Cx) (op:CmpOp) (a b:Expr) (t:TE):Prop :=
 ∀(pins:List (Addr×Obj)) (s:ω) (σ:St) (H:Hp) (Q:VK),Inv X pins σ H s->t σ H Q →
  iz (jh X.prog X.w) X.A (eval a X.env) (fun v s₁=>iz (jh X.prog X.w) X.A (eval b X.env) (fun u s₂=>iz (jh X.prog X.w) X.A (mj op v u) (EP X pins σ Q) X.xe s₂) X.xe s₁) X.xe s
theorem aAs(b:Expr){op:CmpOp}(h:op≠.In)(h2:op≠.NotIn):uh op b=false:=by
 have e1:(op == CmpOp.In)=false:=by cases op <;> first|rfl|exact absurd rfl h
 have e2:(op == CmpOp.NotIn)=false:=by cases op <;> first|rfl|exact absurd rfl h2
 cases b <;> simp[uh,e1,e2]
def tB (t:TE):TT:=fun σ H Q=>t σ H fun x H1=>∃c,x=.bl c/\Q c H1
theorem aRk(h:PC X op a b t)(h1:uh op b=false:=by first|exact aAs _ (by decide) (by decide)|rfl):PE X (.Compare a [op] [b] pos) t:=fun pins s σ H Q I hw=>wpAny_Compare1 (h pins s σ H Q I hw) h1
theorem aPc(h:PC X op a b t)(h1:uh op b=false:=by first|exact aAs _ (by decide) (by decide)|rfl):PT X (.Compare a [op] [b] pos) (tB t):=by
 intro pins s σ H Q I hw;refine wpAny_isTrue_Compare1 (thn (h pins s σ H _ I hw) fun v s1 h1=>thn h1 fun u s2 h2=>thn h2 fun c s3 zq=>?_) h1;obtain⟨x,H1,I1,r1,q1⟩:=zq;obtain⟨d,rfl,q⟩:=q1;cases r1;exact mq ⟨H1,I1,q⟩
theorem kK(h:PE X e t)(he:∀whole,isTrue e X.env whole=(do let v ←whole;standAt e.pos;holding [v] (truthy v)):=by intro _;rfl):PT X e (tB t):=by
 intro pins s σ H Q I hw;refine isTrue_plain (thn (h pins s σ H _ I hw) fun v s1 zq=>?_) (he _);obtain⟨x,H1,I1,r1,q1⟩:=zq;obtain⟨d,rfl,q⟩:=q1;cases r1;exact mq ⟨H1,I1,q⟩
variable {tA tB':TT}{rest:List Expr}
def tAnd (t u:TT):TT:=fun σ H Q=>t σ H fun c H1=>if c=true then u σ H1 Q else Q false H1
def tOr (t u:TT):TT:=fun σ H Q=>t σ H fun c H1=>if c=true then Q true H1 else u σ H1 Q
def tNot (t:TT):TT:=fun σ H Q=>t σ H fun c H1=>Q (!c) H1
theorem aDt(ha:PT X a tA):PW X (.BoolOp .And [a] pos) tA:=by
 intro wh pins s σ H Q I h;refine isTrue_and (thn (ha pins s σ H Q I h) fun c s1 e=>?_);cases c with
 |true=>exact isTrue_and_nil e
 |false=>exact e
theorem yH(ha:PT X a tA):PW X (.BoolOp .Or [a] pos) tA:=by
 intro wh pins s σ H Q I h;refine isTrue_or (thn (ha pins s σ H Q I h) fun c s1 e=>?_);cases c with
 |false=>exact isTrue_or_nil e
 |true=>exact e
theorem aKv(ha:PT X a tA)(hb:PW X (.BoolOp .And (b::rest) pos) tB'):PW X (.BoolOp .And (a::b::rest) pos) (tAnd tA tB'):=by
 intro wh pins s σ H Q I h;refine isTrue_and (thn (ha pins s σ H _ I h) fun c s1 zq=>?_);obtain⟨H1,I1,q1⟩:=zq;cases c with
 |true=>exact hb wh pins s1 σ H1 Q I1 q1
 |false=>exact⟨H1,I1,q1⟩
theorem yP(ha:PT X a tA)(hb:PW X (.BoolOp .Or (b::rest) pos) tB'):PW X (.BoolOp .Or (a::b::rest) pos) (tOr tA tB'):=by
 intro wh pins s σ H Q I h;refine isTrue_or (thn (ha pins s σ H _ I h) fun c s1 zq=>?_);obtain⟨H1,I1,q1⟩:=zq;cases c with
 |true=>exact⟨H1,I1,q1⟩
 |false=>exact hb wh pins s1 σ H1 Q I1 q1
theorem vH(ha:PT X a tA):PT X (.UnaryOp .Not a pos) (tNot tA):=by
 intro pins s σ H Q I h;exact isTrue_not (ha pins s σ H (fun c H1=>Q (!c) H1) I h)
def tAndV (ta tb:TE):TE:=fun σ H Q=>ta σ H fun x H1=>∃c,x=.bl c/\if c=true then tb σ H1 Q else Q (.bl false) H1
def tOrV (ta tb:TE):TE:=fun σ H Q=>ta σ H fun x H1=>∃c,x=.bl c/\if c=true then Q (.bl true) H1 else tb σ H1 Q
def tNotV (ta:TE):TE:=fun σ H Q=>ta σ H fun x H1=>∃c,x=.bl c/\Q (.bl (!c)) H1
theorem xZ{op}(h:PE X a t):PE X (.BoolOp op [a] pos) t:=fun pins s σ H Q I hw=>BoolOp_one (h pins s σ H Q I hw)
theorem vZ(ha:PE X a ta)(hb:PE X (.BoolOp .And (b::rest) pos) tb):PE X (.BoolOp .And (a::b::rest) pos) (tAndV ta tb):=by
 intro pins s σ H Q I h;refine BoolOp_and (thn (ha pins s σ H _ I h) fun v s1 zq=>?_);obtain⟨x,H1,I1,r1,q1⟩:=zq;obtain⟨c,rfl,q1⟩:=q1;cases r1;refine mq ?_;cases c with
 |true=>exact hb pins s1 σ H1 Q I1 q1
 |false=>exact⟨.bl false,H1,I1,rfl,q1⟩
theorem pe_or(ha:PE X a ta)(hb:PE X (.BoolOp .Or (b::rest) pos) tb):PE X (.BoolOp .Or (a::b::rest) pos) (tOrV ta tb):=by
 intro pins s σ H Q I h;refine BoolOp_or (thn (ha pins s σ H _ I h) fun v s1 zq=>?_);obtain⟨x,H1,I1,r1,q1⟩:=zq;obtain⟨c,rfl,q1⟩:=q1;cases r1;refine mq ?_;cases c with
 |false=>exact hb pins s1 σ H1 Q I1 q1
 |true=>exact⟨.bl true,H1,I1,rfl,q1⟩
theorem aRw(ha:PE X a ta):PE X (.UnaryOp .Not a pos) (tNotV ta):=by
 intro pins s σ H Q I h;refine UnaryOp_ (thn (ha pins s σ H _ I h) fun v s1 zq=>?_);obtain⟨x,H1,I1,r1,q1⟩:=zq;obtain⟨c,rfl,q1⟩:=q1;cases r1;exact not_of (mq ⟨.bl (!c),H1,I1,rfl,q1⟩)
def tIf (t:TT) (ta tb:TE):TE:=fun σ H Q=>t σ H fun c H1=>if c=true then ta σ H1 Q else tb σ H1 Q
theorem aBc(hc:PT X c tA)(ha:PE X a ta)(hb:PE X b tb):PE X (.IfExp c a b pos) (tIf tA ta tb):=by
 intro pins s σ H Q I h;refine wpAny_IfExp (thn (hc pins s σ H _ I h) fun d s1 zq=>?_);obtain⟨H1,I1,q1⟩:=zq;cases d with
 |true=>exact ha pins s1 σ H1 Q I1 q1
 |false=>exact hb pins s1 σ H1 Q I1 q1
end
def SqL (K:Ξ) (H:Hp) (a:Addr) (xs:List V):Prop :=
 Rd H a (.lst xs) ∨
  ∃(o:Obj) (its:Array Value) (n:Nat),K.lookup a=some o/\o.cls=.type "list"/\o.dict=none/\o.data=.seq its n/\its.size<=ψ/\kM xs its.toList
def SqT (K:Ξ) (H:Hp) (a:Addr) (xs:List V):Prop :=
 Rd H a (.tup xs) ∨
  ∃(o:Obj) (its:Array Value) (n:Nat),K.lookup a=some o/\o.cls=.type "tuple"/\o.data=.seq its n/\its.size<=ψ/\kM xs its.toList
def absV:Value->Option V
 |.none=>some .non
 |.bool b=>some (.bl b)
 |.int i _=>some (.int i)
 |.str x _=>some (.str x)
 |.bytes b _=>some (.byt b)
 |.float b _=>some (.flt b)
 |.ref a=>some (.ref a)
 |.type n=>some (.ty n)
 |_=>none
theorem RelV.abs(r:RelV x u):absV u=some x:=by
 cases x with
 |non=>cases r;rfl
 |bl _=>cases r;rfl
 |int _=>obtain⟨t,rfl⟩:=r;rfl
 |str _=>obtain⟨t,rfl⟩:=r;rfl
 |byt _=>obtain⟨t,rfl⟩:=r;rfl
 |flt _=>obtain⟨t,rfl⟩:=r;rfl
 |ref _=>cases r;rfl
 |ty _=>cases r;rfl
theorem RelV.inj(r:RelV x u)(q:RelV y u):x=y:=kf (r.abs.symm.trans q.abs)
theorem kM.inj:∀{xs ys:List V}{us:List Value},kM xs us->kM ys us->xs=ys
 |_,_,_,.nil,.nil=>rfl
 |_,_,_,.cons r t,.cons r' t'=>by rw[r.inj r',kM.inj t t']
section
variable {X:Cx}{pins:List (Addr×Obj)}{σ:St}{H:Hp}{s:ω}{a:Addr}{xs ys:List V}
theorem SqL.of{K:Ξ}(h:H a=some (.lst xs)):SqL K H a xs:=.inl (.inl h)
theorem SqT.of{K:Ξ}(h:H a=some (.tup xs)):SqT K H a xs:=.inl (.inl h)
theorem Inv.list(I:Inv X pins σ H s)(h:SqL X.K H a xs):∃its:List Value,kM xs its/\PlainL s.heap a its.toArray/\xs.length<=ψ:=by
 rcases h with h|⟨o,its,n,hk,hc,hd,hs,hz,r⟩
 ·obtain⟨z,its,n,r,e⟩:=h.ok I.hok;exact⟨its,r,⟨_,n,e,rfl,rfl,rfl⟩,z⟩
 ·refine⟨its.toList,r,⟨o,n,I.kIn a o hk,hc,hd,by simpa using hs⟩,?_⟩;have e:=r.length;simp only[mz]at e;omega
theorem Inv.tuple(I:Inv X pins σ H s)(h:SqT X.K H a xs):∃its:List Value,kM xs its/\IsTup s.heap a its.toArray/\xs.length<=ψ:=by
 rcases h with h|⟨o,its,n,hk,hc,hs,hz,r⟩
 ·obtain⟨z,its,r,p⟩:=h.ok I.hok;exact⟨its,r,p,z⟩
 ·refine⟨its.toList,r,⟨o,I.kIn a o hk,hc,n,by simpa using hs⟩,?_⟩;have e:=r.length;simp only[mz]at e;omega
theorem Inv.list_inj(I:Inv X pins σ H s)(h:SqL X.K H a xs)(h':SqL X.K H a ys):xs=ys:=by
 obtain⟨its,r,⟨o,n,e,_,_,d⟩,_⟩:=I.list h;obtain⟨its',r',⟨o',n',e',_,_,d'⟩,_⟩:=I.list h';rw[e]at e';cases e';rw[d]at d';injection d' with d1 _;have:its=its':=by simpa using congrArg Array.toList d1
 subst this;exact r.inj r'
theorem Inv.tuple_inj(I:Inv X pins σ H s)(h:SqT X.K H a xs)(h':SqT X.K H a ys):xs=ys:=by
 obtain⟨its,r,⟨o,e,_,n,d⟩,_⟩:=I.tuple h;obtain⟨its',r',⟨o',e',_,n',d'⟩,_⟩:=I.tuple h';rw[e]at e';cases e';rw[d]at d';injection d' with d1 _;have:its=its':=by simpa using congrArg Array.toList d1
 subst this;exact r.inj r'
end
abbrev Cx.wish (X:Cx) (E:Value->ω->Prop):Cx:={ X with xe:=E }
abbrev Cx.nox (X:Cx):Cx:=X.wish fun _ _=>False
theorem Cx.Ok.wish{X:Cx}(ok:X.Ok)(E:Value->ω->Prop):(X.wish E).Ok :=
 ⟨ok.mod,ok.kind,ok.glob,ok.blt,ok.above,ok.inj,ok.has,ok.cab,ok.hd,ok.frames,ok.stk,ok.exf,ok.bs,ok.bsz,ok.noex,ok.exfs,ok.funs,ok.frf⟩
theorem Cx.Ok.unwish{X:Cx}(ok:(X.wish E).Ok):X.Ok :=
 ⟨ok.mod,ok.kind,ok.glob,ok.blt,ok.above,ok.inj,ok.has,ok.cab,ok.hd,ok.frames,ok.stk,ok.exf,ok.bs,ok.bsz,ok.noex,ok.exfs,ok.funs,ok.frf⟩
section
variable {X:Cx}{pins:List (Addr×Obj)}{σ:St}{H:Hp}{s:ω}{E:Value->ω->Prop}
theorem Inv.wish(I:Inv X pins σ H s)(E:Value->ω->Prop):Inv (X.wish E) pins σ H s:=⟨I.ok.wish E,I.os,I.bare,I.base,I.loc,I.cell,I.free,I.freeC,I.pin,I.hok,I.len⟩
theorem Inv.unwish(I:Inv (X.wish E) pins σ H s):Inv X pins σ H s:=⟨I.ok.unwish,I.os,I.bare,I.base,I.loc,I.cell,I.free,I.freeC,I.pin,I.hok,I.len⟩
theorem SP.unwish(h:SP (X.wish E) pins D f s'):SP X pins D f s':=by
 cases f with
 |next=>obtain⟨σ',H',I,q⟩:=h;exact⟨σ',H',I.unwish,q⟩
 |brk=>obtain⟨σ',H',I,q⟩:=h;exact⟨σ',H',I.unwish,q⟩
 |cont=>obtain⟨σ',H',I,q⟩:=h;exact⟨σ',H',I.unwish,q⟩
 |ret u=>obtain⟨v,σ',H',I,r,q⟩:=h;exact⟨v,σ',H',I.unwish,r,q⟩
theorem PE.nox(h:PE X.nox e t):PE X e t:=fun pins s σ H Q I hw =>
 ny (h pins s σ H Q (I.wish _) hw) (fun _ _ zq=>zq.el fun v H' I' r q=>⟨v,H',I'.unwish,r,q⟩) fun _ _ z=>kn z
theorem PT.nox(h:PT X.nox e t):PT X e t:=fun pins s σ H Q I hw =>
 ny (h pins s σ H Q (I.wish _) hw) (fun _ _ ⟨H',I',q⟩=>⟨H',I'.unwish,q⟩) fun _ _ z=>kn z
theorem PSs.nox{st:List Stmt}{t:TS}(h:PSs X.nox st t):PSs X st t:=fun pins s σ H D I hw =>
 ny (h pins s σ H D (I.wish _) hw) (fun _ _ q=>q.unwish) fun _ _ z=>kn z
end
section
variable {X:Cx}{st:Stmt}{rest:List Stmt}{t u:TS}{e:Expr}{te:TE}{pos:Pos}
def tNext:TS:=fun D σ H=>D.nx σ H
def vG (t u:TS):TS:=fun D σ H=>t { D with nx:=u D } σ H
theorem jL:PSs X [] tNext:=fun _ _ σ H _ I h=>wpAny_execs_nil ⟨σ,H,I,h⟩
theorem jD(h1:PS X st t)(h2:PSs X rest u):PSs X (st::rest) (vG t u):=by
 intro pins s σ H D I h;refine wpAny_execs_cons (thn (h1 pins s σ H { D with nx:=u D } I h) fun f s1 q=>?_);cases f with
 |next =>
  obtain⟨σ',H',I',q⟩:=q;exact h2 pins s1 σ' H' D I' q
 |ret v=>exact q
 |brk=>exact q
 |cont=>exact q
theorem jC(h1:PS X st t):PSs X [st] t:=by
 intro pins s σ H D I h;refine wpAny_execs_cons (thn (h1 pins s σ H D I h) fun f s1 q=>?_);cases f with
 |next=>exact wpAny_execs_nil q
 |ret v=>exact q
 |brk=>exact q
 |cont=>exact q
theorem Inv.quiet(I:Inv X pins σ H s):interactive X.env=false:=by simp[interactive,I.ok.kind]
def tDrop (te:TE):TS:=fun D σ H=>te σ H fun _ H1=>D.nx σ H1
theorem qX(he:PE X e te)(hs:swapsWith e none pos.line X.env=pure false:=by rfl):PS X (.Expr e pos) (tDrop te):=by
 intro pins s σ H D I h;exact wpAny_Expr_any (thn (he pins s σ H _ I h) fun v s1 zq=>zq.el fun x H1 I1 r1 q1=>⟨σ,H1,I1,q1⟩) I.quiet hs
def tRet (te:TE):TS:=fun D σ H=>te σ H D.rt
theorem jI(he:PE X e te):PS X (.Return (some e) pos) (tRet te):=by
 intro pins s σ H D I h;exact wpAny_Return_some (thn (he pins s σ H _ I h) fun v s1 zq=>zq.el fun x H1 I1 r1 q1=>⟨x,σ,H1,I1,r1,q1⟩)
def aIo (c:TT) (t u:TS):TS:=fun D σ H=>c σ H fun b H1=>if b=true then t D σ H1 else u D σ H1
theorem jX(hc:PT X c tc)(ha:PSs X a t)(hb:PSs X b u):PS X (.If c a b pos) (aIo tc t u):=by
 intro pins s σ H D I h;refine wpAny_If (thn (hc pins s σ H _ I h) fun d s1 zq=>?_);obtain⟨H1,I1,q1⟩:=zq;cases d with
 |true=>exact ha pins s1 σ H1 D I1 q1
 |false=>exact hb pins s1 σ H1 D I1 q1
def aPe:TS:=fun _ _ _=>False
theorem vL:PS X st aPe:=fun _ _ _ _ _ _ h=>h.elim
end
abbrev TG:=V->St->Hp->(St->Hp->Prop)->Prop
abbrev TGs:=List V->St->Hp->(St->Hp->Prop)->Prop
def PG (X:Cx) (target:Expr) (t:TG):Prop :=
 ∀(pins:List (Addr×Obj)) (s:ω) (σ:St) (H:Hp) (v:V) (u:Value) (Q:St->Hp->Prop),Inv X pins σ H s->RelV v u->t v σ H Q →
  iz (jh X.prog X.w) X.A (assign target X.env u) (fun _ s'=>∃σ' H',Inv X pins σ' H' s'/\Q σ' H') X.xe s
def PGs (X:Cx) (ts:List Expr) (t:TGs):Prop :=
 ∀(pins:List (Addr×Obj)) (s:ω) (σ:St) (H:Hp) (vs:List V) (us:List Value) (Q:St->Hp->Prop),Inv X pins σ H s->kM vs us->t vs σ H Q →
  iz (jh X.prog X.w) X.A (assignInOrder ((xh ts X.env).map (·.2)) us) (fun _ s'=>∃σ' H',Inv X pins σ' H' s'/\Q σ' H') X.xe s
abbrev TSet:=V->V->V->Hp->(Hp->Prop)->Prop
def PSet (X:Cx) (t:TSet):Prop :=
 ∀(pins:List (Addr×Obj)) (s:ω) (σ:St) (H:Hp) (o i v:V) (ov iv u:Value) (Q:Hp->Prop),Inv X pins σ H s->RelV o ov->RelV i iv->RelV v u->t o i v H Q →
  iz (jh X.prog X.w) X.A (setItem ov iv u) (fun _ s'=>∃H',Inv X pins σ H' s'/\Q H') X.xe s
section
variable {X:Cx}{pos:Pos}
def zA (i:Nat):TG:=fun v σ H Q=>Q (σ.set i (some v)) H
theorem mU{i:Nat}(hN:X.N.Nodup)(hi:X.N[i]?=some x)(hx:Loc X.env.scope x)(hf:X.fn x=true\/X.env.scope.names.lookup x=some .local:=by first|exact .inl rfl|exact .inr rfl|assumption):PG X (.Name x pos) (zA i):=by
 intro pins s σ H v u Q I r h;exact wpAny_assign_Name (wK I hN hi hx r (fun s' I'=>⟨_,H,I',h⟩) hf)
inductive aKu (vs:List V) (σ:St) (H:Hp) (Q:St->Hp->Prop):Prop|mk:vs=[]->Q σ H->aKu vs σ H Q
def gNil:TGs:=fun vs σ H Q=>aKu vs σ H Q
inductive aFv (t:TG) (u:TGs) (vs:List V) (σ:St) (H:Hp) (Q:St->Hp->Prop):Prop|mk:∀v r,vs=v::r->(t v σ H fun σ' H'=>u r σ' H' Q)->aFv t u vs σ H Q
def gCons (t:TG) (u:TGs):TGs:=fun vs σ H Q=>aFv t u vs σ H Q
theorem qK:PGs X [] gNil:=by
 intro pins s σ H vs us Q I r h;obtain⟨e,h⟩:=h;subst e;cases r;exact assignInOrder_nil ⟨σ,H,I,h⟩
theorem jS(h1:PG X e t)(h2:PGs X es u)
  (hs:(xh (e::es) X.env).map (·.2)=assign e X.env::(xh es X.env).map (·.2):=by rfl):PGs X (e::es) (gCons t u):=by
 intro pins s σ H vs us Q I r h;obtain⟨v,vr,e1,h⟩:=h;subst e1;cases r with
 |cons r rr =>
  rw[hs];refine assignInOrder_cons (thn (h1 pins s σ H _ _ _ I r h) fun _ s1 zq=>?_);obtain⟨σ1,H1,I1,q1⟩:=zq;exact h2 pins s1 σ1 H1 _ _ Q I1 rr q1
inductive aIp (K:Ξ) (n:Nat) (t:TGs) (v:V) (σ:St) (H:Hp) (Q:St->Hp->Prop):Prop|mk:∀a xs,v=.ref a->SqT K H a xs->xs.length=n->t xs σ H Q->aIp K n t v σ H Q
def gTup (K:Ξ) (n:Nat) (t:TGs):TG:=fun v σ H Q=>aIp K n t v σ H Q
theorem xQ{n:Nat}(hc:X.calm=true)(h:PGs X es t)
  (hn:(xh es X.env).length=n:=by rfl)(hst:(xh es X.env).findIdx? (·.1)=none:=by rfl):PG X (.Tuple es k pos) (gTup X.K n t):=by
 intro pins s σ H v u Q I r hw;obtain⟨a,xs,e1,hq,hl,hw⟩:=hw;subst e1;cases r;obtain⟨its,rv,ht,hz⟩:=I.tuple hq;refine assign_Tuple_tuple (I.ok.hd hc) ht (by simp[hn,←hl,rv.length]) hst fun h' hx=>?_;have I1:Inv X pins σ H { s with heap:=h' }:=I.kept (t':=s.toks) fun b o e=>hx b o (ja (ik e)) e;exact h pins _ σ H xs _ Q I1 (by simpa using rv) hw
def gSub (to ti:TE) (t:TSet):TG:=fun v σ H Q=>to σ H fun o H1=>ti σ H1 fun i H2=>t o i v H2 fun H3=>Q σ H3
theorem nF(ho:PE X o to)(hi:PE X i ti)(hs:PSet X t)
  (ha:∀v,assign (.Subscript o i pos) X.env v=(do
   let ov ←holding [v] (eval o X.env)
   let iv ←holding [v,ov] (eval i X.env)
   standAt pos
   holding [v,ov,iv] (setItem ov iv v)
   release [v,ov,iv] []):=by intro _;rfl):PG X (.Subscript o i pos) (gSub to ti t):=by
 intro pins s σ H v u Q I r h;rw[ha];refine ξ (rm (thn (ho pins s σ H _ I h) fun ov s1 zq=>?_));obtain⟨x,H1,I1,r1,q1⟩:=zq;refine ξ (rm (thn (hi pins s1 σ H1 _ I1 q1) fun iv s2 zq=>?_));obtain⟨y,H2,I2,r2,q2⟩:=zq;refine ξ (wpAny_standAt (ξ (rm (thn (hs pins s2 σ H2 x y v ov iv u _ I2 r1 r2 r q2) fun _ s3 zq=>?_))));obtain⟨H3,I3,q3⟩:=zq;exact wpAny_release ⟨σ,H3,I3,q3⟩
def tAsg (te:TE) (g:TG):TS:=fun D σ H=>te σ H fun x H1=>g x σ H1 D.nx
theorem cF(he:PE X e te)(hg:PG X tg g)(hs:swapsWithSole [tg] e pos.line X.env=pure false:=by rfl)(hw:swappedStores [tg] e X.env=pure none:=by rfl)
  (h1:(xh [tg] X.env).map (·.2)=[assign tg X.env]:=by rfl):PS X (.Assign [tg] e pos) (tAsg te g):=by
 intro pins s σ H D I h;refine wpAny_Assign_stores (thn (he pins s σ H _ I h) fun v s1 zq=>?_) hs hw;obtain⟨x,H1,I1,r1,q1⟩:=zq;rw[h1];exact thn (hg pins s1 σ H1 x v _ I1 r1 q1) fun _ s2 q=>q
theorem aLe{i:Nat}(hN:X.N.Nodup)(hi:X.N[i]?=some x)(hx:Loc X.env.scope x)(he:PE X e te)(hs:swapsWith e (some (.Name x pos')) pos.line X.env=pure false:=by rfl)(hf:X.fn x=true\/X.env.scope.names.lookup x=some .local:=by first|exact .inl rfl|exact .inr rfl|assumption):
  PS X (.Assign [.Name x pos'] e pos) (tAsg te (zA i)):=by
 intro pins s σ H D I h;refine wpAny_Assign_Name (thn (he pins s σ H _ I h) fun v s1 zq=>?_) hs;obtain⟨y,H1,I1,r1,q1⟩:=zq;exact wK I1 hN hi hx r1 (fun s2 I2=>⟨_,H1,I2,q1⟩) hf
end
section
variable {X:Cx}{pos:Pos}
def aKr (c:TT) (tb:TS):TS:=fun D σ H=>∃W:Nat->St->Hp->Prop,(∃m,W m σ H)/\∀m σ H,W m σ H →
 c σ H fun b H1=>if b=true then ∃N:St->Hp->Prop,(∀σ' H',N σ' H'->∃m',m'<m/\W m' σ' H')/\tb { D with nx:=N,ct:=N,bk:=D.nx } σ H1 else D.nx σ H1
theorem aJs(hp:PassesOwn (jh X.prog X.w) X.A X.env X.xe)(hc:PT X c tc)(hb:PSs X body tb):PS X (.While c body [] pos) (aKr tc tb):=by
 intro pins s σ H D I h;obtain⟨W,⟨m0,w0⟩,turn⟩:=h;refine wpAny_While (codeAny_whileLoop (fun n s'=>∃σ' H',Inv X pins σ' H' s'/\W n σ' H') ?_ m0 ⟨σ,H,I,w0⟩);rintro n s1 ⟨σ1,H1,I1,w1⟩;refine uf hp (thn (hc pins s1 σ1 H1 _ I1 (turn n σ1 H1 w1)) fun b s2 zq=>?_);obtain⟨H2,I2,q2⟩:=zq;cases b with
 |true =>
  obtain⟨N,hN,q2⟩:=q2;rw[if_pos rfl];refine uf hp (thn (hb pins s2 σ1 H2 _ I2 q2) fun f s3 q3=>?_);cases f with
  |next =>
   obtain⟨σ3,H3,I3,n3⟩:=q3;obtain⟨m',hm,w3⟩:=hN σ3 H3 n3;exact⟨m',hm,σ3,H3,I3,w3⟩
  |cont =>
   obtain⟨σ3,H3,I3,n3⟩:=q3;obtain⟨m',hm,w3⟩:=hN σ3 H3 n3;exact⟨m',hm,σ3,H3,I3,w3⟩
  |brk=>exact q3
  |ret v=>exact q3
 |false =>
  rw[if_neg υ];exact wpAny_execs_nil ⟨σ1,H2,I2,q2⟩
end
structure It where
 go:Nat->Hp->Prop
 yld:Nat->Hp->V->Hp->Prop
 stop:Nat->Hp->Prop
def eN (X:Cx) (pins:List (Addr×Obj)) (H:Hp) (b:Addr):Prop :=
 H b=none/\b≠X.env.locals/\b∉X.fs/\(b∈X.ex\/X.s₀.heap.objs.size<=b)/\(∀x c,X.env.cells.lookup x=some c->c≠b)/\∀p∈X.pn++pins,p.1≠b
theorem Inv.fpOk{H':Hp}{b:Addr}(I:Inv X pins σ H s)(hb:s.heap.objs.size<=b)(hn:H' b=none):eN X pins H' b:=by
 refine⟨hn,we (Δ I.lt hb),I.nofs hb,.inr (ip I.sz hb),fun x c e z=>?_,fun p hp z=>?_⟩
 ·obtain⟨v,q⟩:=I.cell x c e;exact absurd (Δ q.lt (by rw[z];exact hb)) (qc _)
 ·exact absurd (Δ (ik (I.pin p hp).1) (by rw[z];exact hb)) (qc _)
structure Turn (P:mf) (w:oo) (K:Ξ) (tg:Expr) (J:It) (fp:List Addr) (it:Addr) (tn:Nat->mv->Prop):Prop where
 mem:it∈fp
 obj:∀i h,tn i h->∀b∈fp,∃o,h.get? b=some o/\∀v,o.data≠.cell v
 keep:∀i h h',tn i h->(∀b∈fp,∀o,h.get? b=some o->h'.get? b=some o)->tn i h'
 item:∀(X:Cx),X.prog=P->X.w=w->X.K=K->X.calm=true->∀(i:Nat) (pins:List (Addr×Obj)) (s:ω) (σ:St) (H:Hp) (E:Value->ω->Prop),Inv X pins σ H s->(∀b∈fp,eN X pins H b)->tn i s.heap->J.go i H →
  iz (jh P w) X.A (pyNext (.ref it)) (fun r s1=>∃u,r=some u ∧
   iz (jh P w) X.A (xf tg (.ref it) u) (fun _ s2=>∃x H',Inv X pins σ H' s2/\RelV x u/\J.yld i H x H'/\tn (i+1) s2.heap/\∀b∈fp,H' b=none) E s1) E s
 done:∀(X:Cx),X.prog=P->X.w=w->X.K=K->X.calm=true->∀(i:Nat) (pins:List (Addr×Obj)) (s:ω) (σ:St) (H:Hp) (E:Value->ω->Prop),Inv X pins σ H s->(∀b∈fp,eN X pins H b)->tn i s.heap->J.stop i H →
  iz (jh P w) X.A (pyNext (.ref it)) (fun r s1=>r=none/\Inv X pins σ H s1) E s
 self:∀(A:mn) (i:Nat) (s:ω) (Q:Value->ω->Prop) (E:Value->ω->Prop),tn i s.heap->Q (.ref it) s->iz (jh P w) A (pyIter (.ref it)) Q E s
abbrev TI:=St->Hp->(It->Hp->Prop)->Prop
def PIE (X:Cx) (pins:List (Addr×Obj)) (σ:St) (tg:Expr) (R:It->Hp->Prop) (itv:Value) (s2:ω):Prop :=
 ∃(it:Addr) (fp:List Addr) (tn:Nat->mv->Prop) (J:It) (H':Hp),itv=.ref it/\Inv X pins σ H' s2/\Turn X.prog X.w X.K tg J fp it tn/\tn 0 s2.heap/\(∀b∈fp,eN X pins H' b)/\R J H'
def PI (X:Cx) (tg iter:Expr) (wi:TI):Prop :=
 ∀(pins:List (Addr×Obj)) (s:ω) (σ:St) (H:Hp) (R:It->Hp->Prop),Inv X pins σ H s->wi σ H R →
  iz (jh X.prog X.w) X.A (eval iter X.env) (fun v s1=>iz (jh X.prog X.w) X.A (pyIter v) (PIE X pins σ tg R) X.xe s1) X.xe s
theorem aEw{s:ω}{it:Addr}{Q:Unit->ω->Prop}(ho:s.heap.get? it=some o)(hc:o.cls=.type n)(hd:o.data=.fields vs)
  (hn : ["enumerate","zip","dict_itemiterator","dict_reverseitemiterator","odict_iterator","itertools.zip_longest","itertools.pairwise"].contains n=false)(hQ:Q () s):iz M A (xf tg (.ref it) u) Q E s:=by
 unfold xf;cases tg <;> first
  |exact iy hQ
  | (cases u <;> first
      |exact iy hQ
      | (refine ξ (wpAny_load ho ?_)
         rw[hc,hd];show iz M A (if (["enumerate","zip","dict_itemiterator","dict_reverseitemiterator","odict_iterator","itertools.zip_longest","itertools.pairwise"].contains n&&vs[0]? == some (rawInt _))=true then _ else _) Q E s;rw[if_neg (by intro h;rw[hn,sm]at h;cases h)];exact iy hQ))
def Itl (K:Ξ) (a:Addr):It :=
 ⟨fun i H=>∃xs x,SqL K H a xs/\xs[i]?=some x,fun i H x H'=>H'=H/\∀xs,SqL K H a xs->xs[i]?=some x,fun i H=>∃xs,SqL K H a xs/\xs.length<=i⟩
def Itt (K:Ξ) (a:Addr):It :=
 ⟨fun i H=>∃xs x,SqT K H a xs/\xs[i]?=some x,fun i H x H'=>H'=H/\∀xs,SqT K H a xs->xs[i]?=some x,fun i H=>∃xs,SqT K H a xs/\xs.length<=i⟩
def Itr (lo:Int) (n:Nat):It:=⟨fun i _=>i<n,fun i H x H'=>H'=H/\x=.int (lo+i),fun i _=>n<=i⟩
theorem sU{K:Ξ}(a it:Addr):Turn P w K tg (Itl K a) [it] it (fun i h=>h.IsListIter it a i) where
 mem:=by simp
 obj:=fun i h st b hb=>by
  have e:b=it:=by simpa using hb
  subst e;obtain⟨o,e,c,d⟩:=st;exact⟨o,e,fun v z=>by rw[d]at z;cases z⟩
 keep:=fun i h h' st k=>st.at fun o e=>k it (by simp) o e
 item:=by
  intro X hP hw hK hc i pins s σ H E I hf st hg;subst hP hw hK;obtain⟨xs,x,hq,hx⟩:=hg;obtain⟨its,rv,p,hz⟩:=I.list hq;obtain⟨u,hu,ru⟩:=rv.get hx;obtain⟨f0,f1,f2,f3,f4,f5⟩:=hf it (by simp);refine wpAny_pyNext_list_item st p.isList (x:=u) (by simpa using hu) fun h' st' sb=>?_;have I1:Inv X pins σ H { s with heap:=h' }:=I.turned (t':=s.toks) (fun b o hb e=>(sb.2 b hb).trans e) f0 f1 f3 f4 f5;obtain⟨o,e,c,d⟩:=id st';exact⟨u,rfl,aEw (s:={ s with heap:=h' }) e c d (by decide) ⟨x,H,I1,ru,⟨rfl,fun ys hy=>by rw[I.list_inj hy hq];exact hx⟩,st',fun b hb=>(hf b hb).1⟩⟩
 done:=by
  intro X hP hw hK hc i pins s σ H E I hf st hg;subst hP hw hK;obtain⟨xs,hq,hx⟩:=hg;obtain⟨its,rv,p,hz⟩:=I.list hq;obtain⟨f0,f1,f2,f3,f4,f5⟩:=hf it (by simp);have hl:=rv.length;exact wpAny_pyNext_list_end (I.ok.hd hc) st p.isList (by simp;omega) fun h' eb=>⟨rfl,I.turned (t':=s.toks) (fun b o hb e=>eb b o hb e) f0 f1 f3 f4 f5⟩
 self:=fun _ _ _ _ _ st h=>wpAny_pyIter_listiter st h
theorem nB{K:Ξ}(a it:Addr):Turn P w K tg (Itt K a) [it] it (fun i h=>h.IsTupleIter it a i) where
 mem:=by simp
 obj:=fun i h st b hb=>by
  have e:b=it:=by simpa using hb
  subst e;obtain⟨o,e,c,d⟩:=st;exact⟨o,e,fun v z=>by rw[d]at z;cases z⟩
 keep:=fun i h h' st k=>st.at fun o e=>k it (by simp) o e
 item:=by
  intro X hP hw hK hc i pins s σ H E I hf st hg;subst hP hw hK;obtain⟨xs,x,hq,hx⟩:=hg;obtain⟨its,rv,p,hz⟩:=I.tuple hq;obtain⟨u,hu,ru⟩:=rv.get hx;obtain⟨f0,f1,f2,f3,f4,f5⟩:=hf it (by simp);refine wpAny_pyNext_tuple_item st (show s.heap.IsTuple a its.toArray from p) (x:=u) (by simpa using hu) fun h' st' sb=>?_;have I1:Inv X pins σ H { s with heap:=h' }:=I.turned (t':=s.toks) (fun b o hb e=>(sb.2 b hb).trans e) f0 f1 f3 f4 f5;obtain⟨o,e,c,d⟩:=id st';exact⟨u,rfl,aEw (s:={ s with heap:=h' }) e c d (by decide) ⟨x,H,I1,ru,⟨rfl,fun ys hy=>by rw[I.tuple_inj hy hq];exact hx⟩,st',fun b hb=>(hf b hb).1⟩⟩
 done:=by
  intro X hP hw hK hc i pins s σ H E I hf st hg;subst hP hw hK;obtain⟨xs,hq,hx⟩:=hg;obtain⟨its,rv,p,hz⟩:=I.tuple hq;obtain⟨f0,f1,f2,f3,f4,f5⟩:=hf it (by simp);have hl:=rv.length;exact wpAny_pyNext_tuple_end (I.ok.hd hc) st (show s.heap.IsTuple a its.toArray from p) (by simp;omega) fun h' eb=>⟨rfl,I.turned (t':=s.toks) (fun b o hb e=>eb b o hb e) f0 f1 f3 f4 f5⟩
 self:=fun _ _ _ _ _ st h=>wpAny_pyIter_tupleiter st h
theorem aDk{K:Ξ}(it:Addr)(lo:Int)(n:Nat):Turn P w K tg (Itr lo n) [it] it (fun i h=>IsRangeIter h it (lo+(i:Nat)*1) ((n:Int)-(i:Nat)) 1) where
 mem:=by simp
 obj:=fun i h st b hb=>by
  have e:b=it:=by simpa using hb
  subst e;exact⟨_,st,fun v z=>by
   have z':Data.fields _=Data.cell v:=z;cases z'⟩
 keep:=fun i h h' st k=>k it (by simp) _ st
 item:=by
  intro X hP hw hK hc i pins s σ H E I hf st hg;subst hP hw hK;obtain⟨f0,f1,f2,f3,f4,f5⟩:=hf it (by simp);have W:=Walks.range (prog:=X.prog) (w:=X.w) (I.ok.hd hc) it lo 1 n;refine W.item i s _ _ hg st fun v h' tk hv st' kk=>?_;obtain⟨t,rfl⟩:=hv;have I1:Inv X pins σ H { s with heap:=h',toks:=tk }:=I.turned (fun b o hb e=>kk b o (by simpa using hb) e) f0 f1 f3 f4 f5;refine⟨_,rfl,aEw (s:={ s with heap:=h',toks:=tk }) (n:="range_iterator") st' rfl rfl (by decide) ⟨.int (lo+i),H,I1,⟨t,?_⟩,⟨rfl,rfl⟩,st',fun b hb=>(hf b hb).1⟩⟩;rw[Int.mul_one]
 done:=by
  intro X hP hw hK hc i pins s σ H E I hf st hg;subst hP hw hK;obtain⟨f0,f1,f2,f3,f4,f5⟩:=hf it (by simp);exact wpAny_pyNext_range_end (I.ok.hd hc) st (by have:n<=i:=hg;omega) fun h' eb=>⟨rfl,I.turned (t':=s.toks) (fun b o hb e=>eb b o hb e) f0 f1 f3 f4 f5⟩
 self:=fun _ _ _ _ _ st h=>wpAny_pyIter_rangeiter st h
section
variable {X:Cx}{tg:Expr}
inductive aFk (K:Ξ) (R:It->Hp->Prop) (x:V) (H1:Hp):Prop|mk:∀a,x=.ref a->((∃xs,SqL K H1 a xs))->R (Itl K a) H1->aFk K R x H1
def iList (K:Ξ) (tl:TE):TI:=fun σ H R=>tl σ H fun x H1=>aFk K R x H1
def iTup (K:Ξ) (tl:TE):TI:=fun σ H R=>tl σ H fun x H1=>∃a,x=.ref a/\(∃xs,SqT K H1 a xs)/\R (Itt K a) H1
theorem kU(hl:PE X l tl):PI X tg l (iList X.K tl):=by
 intro pins s σ H R I h;refine thn (hl pins s σ H _ I h) fun v s1 zq=>?_;obtain⟨x,H1,I1,r1,q1⟩:=zq;obtain⟨a,e,⟨xs,hq⟩,q⟩:=q1;subst e;cases r1;obtain⟨its,rv,p,hz⟩:=I1.list hq;refine qt p.isList ?_;refine⟨s1.heap.objs.size,[s1.heap.objs.size],_,_,H1,rfl,I1.kept (t':=s1.toks) fun b o e=>τ _ e,sU a _,⟨_,ij _ rfl,rfl,rfl⟩,fun b hb=>?_,q⟩;have e:b=s1.heap.objs.size:=by simpa using hb
 subst e;exact I1.fpOk (ν _) (I1.hok.fresh (ν _))
theorem dN(hl:PE X l tl):PI X tg l (iTup X.K tl):=by
 intro pins s σ H R I h;refine thn (hl pins s σ H _ I h) fun v s1 zq=>?_;obtain⟨x,H1,I1,r1,q1⟩:=zq;obtain⟨a,e,⟨xs,hq⟩,q⟩:=q1;subst e;cases r1;obtain⟨its,rv,p,hz⟩:=I1.tuple hq;refine sx (show s1.heap.IsTuple a its.toArray from p) ?_;refine⟨s1.heap.objs.size,[s1.heap.objs.size],_,_,H1,rfl,I1.kept (t':=s1.toks) fun b o e=>τ _ e,nB a _,⟨_,ij _ rfl,rfl,rfl⟩,fun b hb=>?_,q⟩;have e:b=s1.heap.objs.size:=by simpa using hb
 subst e;exact I1.fpOk (ν _) (I1.hok.fresh (ν _))
theorem aIb{s:ω}{R:It->Hp->Prop}{lo hi:Int}{tk:Nat}(I:Inv X pins σ H s)(h1 : -(2 ^ 62)<=lo)(h2:lo<2 ^ 62)(h3 : -(2 ^ 62)<=hi)(h4:hi<2 ^ 62)
  (q:R (Itr lo (hi-lo).toNat) H):iz (jh X.prog X.w) X.A (pyIter (.ref s.heap.objs.size)) (PIE X pins σ tg R) E { s with heap:=s.heap.push { cls:=.type "range",data:=.fields #[.int lo t,.int hi u,.int 1 v] },toks:=tk }:=by
 refine wpAny_pyIter_range (IsRange.new ..) (small_one h1 h2 h3 h4) ?_;have I1:Inv X pins σ H { s with heap:=s.heap.push { cls:=.type "range",data:=.fields #[.int lo t,.int hi u,.int 1 v] },toks:=tk }:=I.kept fun b o e=>τ _ e;refine⟨(s.heap.push { cls:=.type "range",data:=.fields #[.int lo t,.int hi u,.int 1 v] }).objs.size,[(s.heap.push { cls:=.type "range",data:=.fields #[.int lo t,.int hi u,.int 1 v] }).objs.size],_,_,H,rfl,
  I1.kept (t':=tk) fun b o e=>τ _ e,aDk _ lo (hi-lo).toNat,?_,fun b hb=>?_,q⟩
 ·have e1:lo+((0:Nat):Int)*1=lo:=by simp
  have e2:(((hi-lo).toNat:Nat):Int)-((0:Nat):Int)=pw lo hi 1:=by rw[rangeSize_one];split <;> omega
  show IsRangeIter _ _ (lo+((0:Nat):Int)*1) ((((hi-lo).toNat:Nat):Int)-((0:Nat):Int)) 1;rw[e1,e2];exact ij _ rfl
 ·have e:b=(s.heap.push { cls:=.type "range",data:=.fields #[.int lo t,.int hi u,.int 1 v] }).objs.size:=by simpa using hb
  subst e;exact I1.fpOk (ν _) (I1.hok.fresh (ν _))
inductive aFz (R:It->Hp->Prop) (vs:List V) (H1:Hp):Prop|mk:∀j:Int,vs=[.int j]->-(2 ^ 62)<=j->j<2 ^ 62->R (Itr 0 j.toNat) H1->aFz R vs H1
def iRng1 (ta:TA):TI:=fun σ H R=>ta σ H fun vs H1=>aFz R vs H1
theorem vJ{a:Expr}(hg:Gl X "range")(hm:X.mg "range" = none)(ha:PA X [a] ta)(hs:jl [a] X.env=[(false,eval a X.env)]:=by rfl):PI X tg (.Call (.Name "range" p) [a] [] pos) (iRng1 ta):=by
 intro pins s σ H R I h;refine Call_ (lA I hg hm boot_range (qy (thn (ha pos pins s σ H _ I h) fun us s1 zq=>?_) hs rfl));obtain⟨vs,H1,I1,r1,q1⟩:=zq;obtain⟨j,e,q1,q2,q⟩:=q1;subst e;cases r1 with
 |cons r rr =>
  cases rr;obtain⟨t,rfl⟩:=r;exact call_range_1 (aIb I1 (by omega) (by omega) q1 q2 (by simpa using q))
def tFor (wi:TI) (g:TG) (tb:TS):TS:=fun D σ H=>wi σ H fun J H1=>∃W:Nat->Nat->St->Hp->Prop,(∃m,W 0 m σ H1)/\∀i m σ H,W i m σ H →
 (J.stop i H/\D.nx σ H)\/(J.go i H/\∃N:St->Hp->Prop,(∀σ' H',N σ' H'->∃m',m'<m/\W (i+1) m' σ' H')/\∀x H',J.yld i H x H'->g x σ H' fun σ2 H2=>tb { D with nx:=N,ct:=N,bk:=D.nx } σ2 H2)
def dO (fp:List Addr) (h:mv):List (Addr×Obj):=fp.filterMap fun b=>(h.get? b).map fun o=>(b,o)
theorem yF{fp:List Addr}{h:mv}{b:Addr}(hb:b∈fp)(e:h.get? b=some o):(b,o)∈dO fp h:=List.mem_filterMap.mpr ⟨b,hb,by rw[e];rfl⟩
theorem aHb{p:Addr×Obj}(hp:p∈dO fp h):p.1∈fp/\h.get? p.1=some p.2:=by
 obtain⟨b,hb,e⟩:=List.mem_filterMap.mp hp;cases q:h.get? b with
 |none=>rw[q]at e;cases e
 |some o =>
  rw[q]at e;have e':(b,o)=p:=kf e;subst e';exact⟨hb,q⟩
theorem Inv.pinned{fp:List Addr}(I:Inv X pins σ H s)(hf:∀b∈fp,eN X pins H b)(ho:∀b∈fp,∃o,s.heap.get? b=some o/\∀v,o.data≠.cell v):Inv X (pins++dO fp s.heap) σ H s :=
 I.pins_of fun p hp=>(ji.mp hp).elim (fun z=>I.pin p (Ψ _ z)) fun z=>by
  obtain⟨hb,e⟩:=aHb z;obtain⟨f0,f1,f2,_⟩:=hf p.1 hb;obtain⟨o,e',d⟩:=ho p.1 hb;rw[e]at e';cases e';exact⟨e,f0,f1,f2,d⟩
theorem Inv.unpinned{pins pl:List (Addr×Obj)}(I:Inv X (pins++pl) σ H s):Inv X pins σ H s:=I.pins_of fun p hp=>I.pin p (Ψ _ (jd _ hp))
theorem vF(hp:PassesOwn (jh X.prog X.w) X.A X.env X.xe)(hc:X.calm=true)(hi:PI X tg iter wi)(hg:PG X tg g)(hb:PSs X body tb)
  (hs:∀x,foldedSetIterable iter X.env x=pure x:=by intro _;rfl):PS X (.For tg iter body [] pos) (tFor wi g tb):=by
 intro pins s σ H D I h;refine wpAny_For (thn (hi pins s σ H _ I h) fun v s1 h1=>thn h1 fun itv s2 h2=>?_) hs;obtain⟨it,fp,tn,J,H2,e,I2,T,st2,f2,W,⟨m0,w0⟩,turn⟩:=h2;subst e;have stat:∀{H':Hp},(∀b∈fp,H' b=none)->∀b∈fp,eN X pins H' b:=fun hn b hb=>⟨hn b hb,(f2 b hb).2⟩;refine codeAny_forLoop_any (fun n s'=>∃i σ' H',Inv X pins σ' H' s'/\tn i s'.heap/\(∀b∈fp,H' b=none)/\W i n σ' H') ?_ m0 ⟨0,σ,H2,I2,st2,fun b hb=>(f2 b hb).1,w0⟩;rintro n s3 ⟨i,σ3,H3,I3,st3,fr3,w3⟩;rcases turn i n σ3 H3 w3 with⟨stop,qn⟩|⟨go,N,hN,step⟩
 ·refine uf hp (thn (T.done X rfl rfl rfl hc i pins s3 σ3 H3 X.xe I3 (stat fr3) st3 stop) fun r s4 zq=>?_);obtain⟨hr,I4⟩:=zq;subst hr;exact wpAny_execs_nil ⟨σ3,H3,I4,qn⟩
 ·refine uf hp (thn (T.item X rfl rfl rfl hc i pins s3 σ3 H3 X.xe I3 (stat fr3) st3 go) fun r s4 zq=>?_);obtain⟨u,hr,h4⟩:=zq;subst hr;refine uf hp (thn h4 fun _ s5 zq=>?_);obtain⟨x,H5,I5,r5,y5,st5,fr5⟩:=zq;have I5':=I5.pinned (stat fr5) (T.obj _ _ st5);refine uf hp (thn (hg _ s5 σ3 H5 x u _ I5' r5 (step x H5 y5)) fun _ s6 zq=>?_);obtain⟨σ6,H6,I6,q6⟩:=zq;refine uf hp (thn (hb _ s6 σ6 H6 _ I6 q6) fun f s7 q7=>?_);have again:∀{σ7:St}{H7:Hp},Inv X (pins++dO fp s5.heap) σ7 H7 s7->N σ7 H7->∃m,m<n/\∃i σ' H',Inv X pins σ' H' s7/\tn i s7.heap/\(∀b∈fp,H' b=none)/\W i m σ' H':=fun {σ7 H7} I7 n7=>by
   obtain⟨m',hm,w7⟩:=hN σ7 H7 n7;refine⟨m',hm,i+1,σ7,H7,I7.unpinned,T.keep _ _ _ st5 fun b hb o e=>(I7.pin (b,o) (Ψ _ (Ψ _ (yF hb e)))).1,fun b hb=>?_,w7⟩;obtain⟨o,e,d⟩:=T.obj _ _ st5 b hb;exact(I7.pin (b,o) (Ψ _ (Ψ _ (yF hb e)))).2.1
  cases f with
  |next=>obtain⟨σ7,H7,I7,n7⟩:=q7;exact again I7 n7
  |cont=>obtain⟨σ7,H7,I7,n7⟩:=q7;exact again I7 n7
  |brk=>obtain⟨σ7,H7,I7,q7⟩:=q7;exact⟨σ7,H7,I7.unpinned,q7⟩
  |ret v=>obtain⟨x7,σ7,H7,I7,r7,q7⟩:=q7;exact⟨x7,σ7,H7,I7.unpinned,r7,q7⟩
end
theorem qU{K:Ξ}{xs:List V}{g:TG}{tb:TS}{D:Ends}{σ:St}(Pv:Nat->St->Hp->Prop)(h0:Pv 0 σ H)(hl:∀i σ H,i<=xs.length->Pv i σ H->SqL K H a xs)
  (hs:∀i x σ H,xs[i]?=some x->Pv i σ H->LpL (let D2:Ends:={ D with nx:=Pv (i+1),ct:=Pv (i+1),bk:=D.nx };g x σ H fun σ2 H2=>tb D2 σ2 H2))(hd:∀σ H,Pv xs.length σ H->D.nx σ H):
  ∃W:Nat->Nat->St->Hp->Prop,(∃m,W 0 m σ H)/\∀i m σ H,W i m σ H →
   ((Itl K a).stop i H/\D.nx σ H)\/((Itl K a).go i H/\∃N:St->Hp->Prop,(∀σ' H',N σ' H'->∃m',m'<m/\W (i+1) m' σ' H')/\∀x H',(Itl K a).yld i H x H'->g x σ H' fun σ2 H2=>tb { D with nx:=N,ct:=N,bk:=D.nx } σ2 H2):=by
 refine⟨fun i m σ H=>m=xs.length-i/\i<=xs.length/\Pv i σ H,⟨xs.length,by simp,io _,h0⟩,?_⟩;rintro i m σ H ⟨rfl,hi,p⟩;have q:=hl i σ H hi p
 by_cases hlt:i<xs.length
 ·refine .inr ⟨⟨xs,xs[i],q,by simp[hlt]⟩,Pv (i+1),fun σ' H' p'=>⟨xs.length-(i+1),by omega,rfl,hlt,p'⟩,fun x H' y=>?_⟩;obtain⟨e,y⟩:=y;subst e;exact hs i x σ _ (y xs q) p
 ·have e:i=xs.length:=by omega
  subst e;exact .inl ⟨⟨xs,q,ν _⟩,hd σ H p⟩
theorem bE{lo:Int}{n:Nat}{g:TG}{tb:TS}{D:Ends}{σ:St}(Pv:Nat->St->Hp->Prop)(h0:Pv 0 σ H)
  (hs:∀i σ H,i<n->Pv i σ H->LpL (let D2:Ends:={ D with nx:=Pv (i+1),ct:=Pv (i+1),bk:=D.nx };g (.int (lo+i)) σ H fun σ2 H2=>tb D2 σ2 H2))(hd:∀σ H,Pv n σ H->D.nx σ H):
  ∃W:Nat->Nat->St->Hp->Prop,(∃m,W 0 m σ H)/\∀i m σ H,W i m σ H →
   ((Itr lo n).stop i H/\D.nx σ H)\/((Itr lo n).go i H/\∃N:St->Hp->Prop,(∀σ' H',N σ' H'->∃m',m'<m/\W (i+1) m' σ' H')/\∀x H',(Itr lo n).yld i H x H'->g x σ H' fun σ2 H2=>tb { D with nx:=N,ct:=N,bk:=D.nx } σ2 H2):=by
 refine⟨fun i m σ H=>m=n-i/\i<=n/\Pv i σ H,⟨n,by simp,io _,h0⟩,?_⟩;rintro i m σ H ⟨rfl,hi,p⟩
 by_cases hlt:i<n
 ·refine .inr ⟨hlt,Pv (i+1),fun σ' H' p'=>⟨n-(i+1),by omega,rfl,hlt,p'⟩,fun x H' y=>?_⟩;obtain⟨e,y⟩:=y;subst e y;exact hs i σ _ hlt p
 ·have e:i=n:=by omega
  subst e;exact .inl ⟨ν _,hd σ H p⟩
theorem aJo{c:TT}{tb:TS}{D:Ends}{σ:St}(Pv:St->Hp->Prop)(μ : St->Hp->Nat)(h0:Pv σ H)
  (hs:∀σ H,Pv σ H->c σ H fun b H1=>if b=true then tb { D with nx:=fun σ' H'=>Pv σ' H'/\μ σ' H'<μ σ H,ct:=fun σ' H'=>Pv σ' H'/\μ σ' H'<μ σ H,bk:=D.nx } σ H1 else D.nx σ H1)
  (mono:∀σ H Q Q',(∀b H1,Q b H1->Q' b H1)->c σ H Q->c σ H Q'):aKr c tb D σ H:=by
 refine⟨fun m σ H=>m = μ σ H/\Pv σ H,⟨_,rfl,h0⟩,?_⟩;rintro m σ H ⟨rfl,p⟩;refine mono σ H _ _ (fun b H1 q=>?_) (hs σ H p);cases b with
 |true=>exact⟨_,fun σ' H' ⟨p',l⟩=>⟨_,l,rfl,p'⟩,q⟩
 |false=>exact q
abbrev R2:=V->V->Hp->VK->Prop
def OpR (X:Cx) (f:Value->Value->Sem Value) (r:R2):Prop :=
 ∀(pins:List (Addr×Obj)) (s:ω) (σ:St) (H:Hp) (x y:V) (v u:Value) (Q:VK),Inv X pins σ H s->RelV x v->RelV y u->r x y H Q →
  iz (jh X.prog X.w) X.A (f v u) (EP X pins σ Q) X.xe s
def UnR (X:Cx) (f:Value->Sem Value) (r:V->Hp->VK->Prop):Prop :=
 ∀(pins:List (Addr×Obj)) (s:ω) (σ:St) (H:Hp) (x:V) (v:Value) (Q:VK),Inv X pins σ H s->RelV x v->r x H Q →
  iz (jh X.prog X.w) X.A (f v) (EP X pins σ Q) X.xe s
def vK (X:Cx) (f:Value) (r:List V->Hp->VK->Prop):Prop :=
 ∀(pins:List (Addr×Obj)) (s:ω) (σ:St) (H:Hp) (xs:List V) (us:List Value) (Q:VK),Inv X pins σ H s->kM xs us->r xs H Q →
  iz (jh X.prog X.w) X.A (call f us) (EP X pins σ Q) X.xe s
def TruR (X:Cx) (r:V->Hp->(Bool->Hp->Prop)->Prop):Prop :=
 ∀(pins:List (Addr×Obj)) (s:ω) (σ:St) (H:Hp) (x:V) (v:Value) (Q:Bool->Hp->Prop),Inv X pins σ H s->RelV x v->r x H Q →
  iz (jh X.prog X.w) X.A (truthy v) (TP X pins σ Q) X.xe s
def tOp (r:R2) (ta tb:TE):TE:=fun σ H Q=>ta σ H fun x H1=>tb σ H1 fun y H2=>r x y H2 Q
def tUn (r:V->Hp->VK->Prop) (ta:TE):TE:=fun σ H Q=>ta σ H fun x H1=>r x H1 Q
inductive rI_i (C:Int->Int->Prop) (g:Int->Int->V) (x:V) (y:V) (H:Hp) (Q:VK):Prop|mk:∀i j,x=.int i->y=.int j->C i j->Q (g i j) H->rI_i C g x y H Q
def rI (C:Int->Int->Prop) (g:Int->Int->V):R2:=fun x y H Q=>rI_i C g x y H Q
inductive aOm (g:Int->Int->V) (x:V) (y:V) (H:Hp) (Q:VK):Prop|mk:∀i j,x=.int i->y=.int j->Q (g i j) H->aOm g x y H Q
def rI0 (g:Int->Int->V):R2:=fun x y H Q=>aOm g x y H Q
def rU (g:Int->V):V->Hp->VK->Prop:=fun x H Q=>∃i,x=.int i/\Q (g i) H
section
variable {X:Cx}{a b c:Expr}{ta tb tc:TE}{pos:Pos}
theorem binT(ha:PE X a ta)(hb:PE X b tb){R:V->V->Hp->Prop}(I:Inv X pins σ H s)
  (h:ta σ H fun x H1=>tb σ H1 fun y H2=>R x y H2){f:Value->Value->Sem Value}
  (hf:∀v u s2 x y H2,Inv X pins σ H2 s2->RelV x v->RelV y u->R x y H2->iz (jh X.prog X.w) X.A (f v u) Q X.xe s2):
  iz (jh X.prog X.w) X.A (eval a X.env) (fun v s₁=>iz (jh X.prog X.w) X.A (eval b X.env) (fun u s₂=>iz (jh X.prog X.w) X.A (f v u) Q X.xe s₂) X.xe s₁) X.xe s:=by
 refine thn (ha pins s σ H _ I h) fun v s1 zq=>?_;obtain⟨x,H1,I1,r1,q1⟩:=zq;refine thn (hb pins s1 σ H1 _ I1 q1) fun u s2 zq=>?_;obtain⟨y,H2,I2,r2,q2⟩:=zq;exact hf v u s2 x y H2 I2 r1 r2 q2
theorem jV(ho:OpR X (qo op) r)(ha:PE X a ta)(hb:PE X b tb):PE X (.BinOp a op b pos) (tOp r ta tb):=by
 intro pins s σ H Q I h;exact wpAny_BinOp (binT ha hb I h fun v u s2 x y H2 I2 rx ry q=>ho pins s2 σ H2 x y v u Q I2 rx ry q)
theorem oA(ho:UnR X (unaryOp op) r)(ha:PE X a ta):PE X (.UnaryOp op a pos) (tUn r ta):=by
 intro pins s σ H Q I h;exact UnaryOp_ (thn (ha pins s σ H _ I h) fun v s1 zq=>zq.el fun x H1 I1 r1 q1=>ho pins s1 σ H1 x v Q I1 r1 q1)
theorem opI{f:Value->Value->Sem Value}{C:Int->Int->Prop}{g:Int->Int->Int}
  (rule:∀(i j:Int) (t u:Tok) (s:ω) (Q:Value->ω->Prop) (E:Value->ω->Prop),C i j->Q (.int (g i j) s.toks) { s with toks:=s.toks+1 }->iz (jh X.prog X.w) X.A (f (.int i t) (.int j u)) Q E s):
  OpR X f (rI C fun i j=>.int (g i j)):=by
 intro pins s σ H x y v u Q I rx ry h;obtain⟨i,j,rfl,rfl,hc,q⟩:=h;obtain⟨t,rfl⟩:=rx;obtain⟨t',rfl⟩:=ry;exact rule i j t t' s _ _ hc ⟨.int (g i j),H,I.tok _,⟨_,rfl⟩,q⟩
theorem opI0{f:Value->Value->Sem Value}{g:Int->Int->Int}
  (rule:∀(i j:Int) (t u:Tok) (s:ω) (Q:Value->ω->Prop) (E:Value->ω->Prop),Q (.int (g i j) s.toks) { s with toks:=s.toks+1 }->iz (jh X.prog X.w) X.A (f (.int i t) (.int j u)) Q E s):
  OpR X f (rI0 fun i j=>.int (g i j)):=by
 intro pins s σ H x y v u Q I rx ry h;obtain⟨i,j,rfl,rfl,q⟩:=h;obtain⟨t,rfl⟩:=rx;obtain⟨t',rfl⟩:=ry;exact rule i j t t' s _ _ ⟨.int (g i j),H,I.tok _,⟨_,rfl⟩,q⟩
theorem opB0{f:Value->Value->Sem Value}{g:Int->Int->Bool}
  (rule:∀(i j:Int) (t u:Tok) (s:ω) (Q:Value->ω->Prop) (E:Value->ω->Prop),Q (.bool (g i j)) s->iz (jh X.prog X.w) X.A (f (.int i t) (.int j u)) Q E s):
  OpR X f (rI0 fun i j=>.bl (g i j)):=by
 intro pins s σ H x y v u Q I rx ry h;obtain⟨i,j,rfl,rfl,q⟩:=h;obtain⟨t,rfl⟩:=rx;obtain⟨t',rfl⟩:=ry;exact rule i j t t' s _ _ ⟨.bl (g i j),H,I,rfl,q⟩
def CDiv (i j:Int):Prop:=0<j/\j<1073741824
def CPow (i j:Int):Prop:=0<=j/\j<=1000000/\i.natAbs<2 ^ 64
def CMul (i j:Int):Prop:=(-(2 ^ 64)<i/\i<2 ^ 64)\/(-(2 ^ 64)<j/\j<2 ^ 64)
theorem CMul.ok(h:CMul i j):IntMulOk i j:=by
 rcases h with⟨h1,h2⟩|⟨h1,h2⟩
 ·exact .of_left (intBits_le_64 h1 h2)
 ·exact .of_right (intBits_le_64 h1 h2)
theorem qG:OpR X (qo .Add) (rI0 fun i j=>.int (i+j)):=opI0 fun _ _ _ _ _ _ _ q=>add_int q
theorem cQ:OpR X (qo .Sub) (rI0 fun i j=>.int (i-j)):=opI0 fun _ _ _ _ _ _ _ q=>sub_int q
theorem zU:OpR X (qo .Mult) (rI CMul fun i j=>.int (i*j)):=opI fun _ _ _ _ _ _ _ hc q=>mul_int q hc.ok
theorem aMz:OpR X (qo .FloorDiv) (rI CDiv fun i j=>.int (i / j)):=opI fun i j _ _ _ _ _ hc q=>by
 have h1:(0:Int)<j:=hc.1;have h2:j<1073741824:=hc.2;exact floordiv_int (by omega) (by rw[Int.fdiv_eq_ediv_of_nonneg i (by omega)];exact q) (.inl (PyProof.noPylong_small (by omega)))
theorem xT:OpR X (qo .Mod) (rI (fun _ j=>0<j) fun i j=>.int (i % j)):=opI fun i j _ _ _ _ _ hc q=>by
 have h1:(0:Int)<j:=hc;exact mod_int' (by omega) (by rw[Int.fmod_eq_emod_of_nonneg i (by omega)];exact q)
theorem aQz:OpR X (qo .Pow) (rI CPow fun i j=>.int (i ^ j.toNat)):=opI fun _ _ _ _ _ _ _ hc q=>pow_int_small hc.1 hc.2.1 hc.2.2 q
theorem aIs:OpR X (qo .LShift) (rI CPow fun i j=>.int (i*2 ^ j.toNat)):=opI fun _ _ _ _ _ _ _ hc q=>lshift_int_small hc.1 hc.2.1 hc.2.2 q
theorem unI{f:Value->Sem Value}{g:Int->Int}
  (rule:∀(i:Int) (t:Tok) (s:ω) (Q:Value->ω->Prop) (E:Value->ω->Prop),Q (.int (g i) s.toks) { s with toks:=s.toks+1 }->iz (jh X.prog X.w) X.A (f (.int i t)) Q E s):
  UnR X f (rU fun i=>.int (g i)):=by
 intro pins s σ H x v Q I rx h;obtain⟨i,rfl,q⟩:=h;obtain⟨t,rfl⟩:=rx;exact rule i t s _ _ ⟨.int (g i),H,I.tok _,⟨_,rfl⟩,q⟩
theorem fT:UnR X (unaryOp .USub) (rU fun i=>.int (-i)):=unI fun _ _ _ _ _ q=>neg_int q
end
def scal:V->V->Bool
 |.non,.non=>true | .non,.int _=>true | .int _,.non=>true | .non,.bl _=>true | .bl _,.non=>true | .non,.str _=>true | .str _,.non=>true
 |.int _,.int _=>true | .bl _,.bl _=>true | .str _,.str _=>true | .byt _,.byt _=>true
 |.int _,.str _=>true | .str _,.int _=>true | .bl _,.str _=>true | .str _,.bl _=>true
 |_,_=>false
inductive aOo (x:V) (y:V) (H:Hp) (Q:VK):Prop|mk:scal x y=true->Q (.bl (decide (x=y))) H->aOo x y H Q
def rEq:R2:=fun x y H Q=>aOo x y H Q
inductive aOw (x:V) (y:V) (H:Hp) (Q:VK):Prop|mk:scal x y=true->Q (.bl (!decide (x=y))) H->aOw x y H Q
def rNe:R2:=fun x y H Q=>aOw x y H Q
theorem aFc : decide (V.int i=V.int j)=(i == j):=by
 rw[qv];simp
theorem aIk : decide (V.bl i=V.bl j)=(i == j):=by
 rw[qv];simp
theorem aDm : decide (V.str i=V.str j)=(i == j):=by
 rw[qv];simp
theorem aDx : decide (V.byt i=V.byt j)=(i.toList == j.toList):=by
 rw[qv];cases i;cases j;simp
section
variable {X:Cx}{a b c:Expr}{ta tb tc:TE}{pos:Pos}
theorem qI{Q:VK}{k':Bool}(I:Inv X pins σ H s)(q:Q (.bl k) H)(e:k=k'):EP X pins σ Q (.bool k') s:=by
 subst e;exact⟨.bl k,H,I,rfl,q⟩
theorem qQ:OpR X (mj .Eq) rEq:=by
 intro pins s σ H x y v u Q I rx ry h;obtain⟨hs,q⟩:=h;cases x with
 |non =>
  cases rx;cases y with
  |non=>cases ry;exact PySem.EqNone.eq_none_none (qI I q (by simp))
  |bl j=>cases ry;exact PySem.EqNone.eq_none_bool (qI I q (by simp))
  |int j=>obtain⟨t',rfl⟩:=ry;exact PySem.EqNone.eq_none_int (qI I q (by simp))
  |str j=>obtain⟨t',rfl⟩:=ry;exact PySem.EqNone.eq_none_str (qI I q (by simp))
  |_=>exact absurd (show false=true from hs) υ
 |bl i =>
  cases rx;cases y with
  |non=>cases ry;exact PySem.EqNone.eq_bool_none (qI I q (by simp))
  |bl j=>cases ry;exact eq_bool (qI I q aIk)
  |str j=>obtain⟨t',rfl⟩:=ry;exact PySem.EqMixed.eq_bool_str (qI I q (by simp))
  |_=>exact absurd (show false=true from hs) υ
 |int i =>
  obtain⟨t,rfl⟩:=rx;cases y with
  |non=>cases ry;exact PySem.EqNone.eq_int_none (qI I q (by simp))
  |int j=>obtain⟨t',rfl⟩:=ry;exact eq_int (qI I q aFc)
  |str j=>obtain⟨t',rfl⟩:=ry;exact PySem.EqMixed.eq_int_str (qI I q (by simp))
  |_=>exact absurd (show false=true from hs) υ
 |str i =>
  obtain⟨t,rfl⟩:=rx;cases y with
  |non=>cases ry;exact PySem.EqNone.eq_str_none (qI I q (by simp))
  |bl j=>cases ry;exact PySem.EqMixed.eq_str_bool (qI I q (by simp))
  |int j=>obtain⟨t',rfl⟩:=ry;exact PySem.EqMixed.eq_str_int (qI I q (by simp))
  |str j=>obtain⟨t',rfl⟩:=ry;exact eq_str (qI I q aDm)
  |_=>exact absurd (show false=true from hs) υ
 |byt i =>
  obtain⟨t,rfl⟩:=rx;cases y with
  |byt j=>obtain⟨t',rfl⟩:=ry;exact PySem.W.eq_bytes (qI I q aDx)
  |_=>exact absurd (show false=true from hs) υ
 |_=>cases y <;> exact absurd (show false=true from hs) υ
theorem eR:OpR X (mj .NotEq) rNe:=by
 intro pins s σ H x y v u Q I rx ry h;obtain⟨hs,q⟩:=h;cases x with
 |non =>
  cases rx;cases y with
  |non=>cases ry;exact PySem.EqNone.ne_none_none (qI I q (by simp))
  |bl j=>cases ry;exact PySem.EqNone.ne_none_bool (qI I q (by simp))
  |int j=>obtain⟨t',rfl⟩:=ry;exact PySem.EqNone.ne_none_int (qI I q (by simp))
  |str j=>obtain⟨t',rfl⟩:=ry;exact PySem.EqNone.ne_none_str (qI I q (by simp))
  |_=>exact absurd (show false=true from hs) υ
 |bl i =>
  cases rx;cases y with
  |non=>cases ry;exact PySem.EqNone.ne_bool_none (qI I q (by simp))
  |bl j=>cases ry;exact ne_bool (qI I q (congrArg not aIk))
  |str j=>obtain⟨t',rfl⟩:=ry;exact PySem.EqMixed.ne_bool_str (qI I q (by simp))
  |_=>exact absurd (show false=true from hs) υ
 |int i =>
  obtain⟨t,rfl⟩:=rx;cases y with
  |non=>cases ry;exact PySem.EqNone.ne_int_none (qI I q (by simp))
  |int j=>obtain⟨t',rfl⟩:=ry;exact ne_int (qI I q (congrArg not aFc))
  |str j=>obtain⟨t',rfl⟩:=ry;exact PySem.EqMixed.ne_int_str (qI I q (by simp))
  |_=>exact absurd (show false=true from hs) υ
 |str i =>
  obtain⟨t,rfl⟩:=rx;cases y with
  |non=>cases ry;exact PySem.EqNone.ne_str_none (qI I q (by simp))
  |bl j=>cases ry;exact PySem.EqMixed.ne_str_bool (qI I q (by simp))
  |int j=>obtain⟨t',rfl⟩:=ry;exact PySem.EqMixed.ne_str_int (qI I q (by simp))
  |str j=>obtain⟨t',rfl⟩:=ry;exact ne_str (qI I q (congrArg not aDm))
  |_=>exact absurd (show false=true from hs) υ
 |byt i =>
  obtain⟨t,rfl⟩:=rx;cases y with
  |byt j=>obtain⟨t',rfl⟩:=ry;exact PySem.W.ne_bytes (qI I q (congrArg not aDx))
  |_=>exact absurd (show false=true from hs) υ
 |_=>cases y <;> exact absurd (show false=true from hs) υ
theorem aDw:OpR X (mj .Lt) (rI0 fun i j=>.bl (decide (i<j))):=opB0 fun _ _ _ _ _ _ _ q=>lt_int q
theorem eO:OpR X (mj .LtE) (rI0 fun i j=>.bl (decide (i<=j))):=opB0 fun _ _ _ _ _ _ _ q=>le_int q
theorem eU:OpR X (mj .Gt) (rI0 fun i j=>.bl (decide (j<i))):=opB0 fun _ _ _ _ _ _ _ q=>gt_int q
theorem op_ge:OpR X (mj .GtE) (rI0 fun i j=>.bl (decide (j<=i))):=opB0 fun _ _ _ _ _ _ _ q=>ge_int q
theorem aHh:OpR X (mj .In) (fun x y H Q=>∃i j,x=.str i/\y=.str j/\Q (.bl (!(px j i 0 j.length 1).isEmpty)) H):=by
 intro pins s σ H x y v u Q I rx ry h;obtain⟨i,j,rfl,rfl,q⟩:=h;obtain⟨t,rfl⟩:=rx;obtain⟨t',rfl⟩:=ry;exact in_str (qI I q rfl)
theorem aFu:OpR X (mj .IsNot) (fun x y H Q=>y=.non/\Q (.bl (!decide (x=.non))) H):=by
 intro pins s σ H x y v u Q I rx ry h;obtain⟨rfl,q⟩:=h;cases ry;refine isnot_none_gen (qI I q ?_);cases x <;> first
  | (cases rx;rfl)
  | (obtain⟨t,rfl⟩:=rx;rfl)
theorem OpR.or{r r':R2}(h:OpR X f r)(h':OpR X f r'):OpR X f (fun x y H Q=>r x y H Q\/r' x y H Q):=by
 intro pins s σ H x y v u Q I rx ry q;rcases q with q|q
 ·exact h pins s σ H x y v u Q I rx ry q
 ·exact h' pins s σ H x y v u Q I rx ry q
theorem vW(b:Expr){op:CmpOp}(h:op≠.In:=by decide)(h2:op≠.NotIn:=by decide):uh op b=false:=by
 have e1:(op == CmpOp.In)=false:=by cases op <;> first|rfl|exact absurd rfl h
 have e2:(op == CmpOp.NotIn)=false:=by cases op <;> first|rfl|exact absurd rfl h2
 cases b <;> simp[uh,e1,e2]
theorem qY(ho:OpR X (mj op) r)(ha:PE X a ta)(hb:PE X b tb)(hm:uh op b=false):PE X (.Compare a [op] [b] pos) (tOp r ta tb):=by
 intro pins s σ H Q I h;exact wpAny_Compare1 (binT ha hb I h fun v u s2 x y H2 I2 rx ry q=>ho pins s2 σ H2 x y v u Q I2 rx ry q) hm
inductive aEg (Q:Bool->Hp->Prop) (x:V) (H':Hp):Prop|mk:∀k,x=.bl k->Q k H'->aEg Q x H'
def aJt (t:TE):TT:=fun σ H Q=>t σ H fun x H'=>aEg Q x H'
theorem mP(ho:OpR X (mj op) r)(ha:PE X a ta)(hb:PE X b tb)(hm:uh op b=false):PT X (.Compare a [op] [b] pos) (aJt (tOp r ta tb)):=by
 intro pins s σ H Q I h;refine wpAny_isTrue_Compare1 (thn (ha pins s σ H _ I h) fun v s1 zq=>zq.el fun x H1 I1 r1 q1=>thn (hb pins s1 σ H1 _ I1 q1) fun u s2 zq=>zq.el fun y H2 I2 r2 q2=>
  thn (ho pins s2 σ H2 x y v u _ I2 r1 r2 q2) fun c s3 ⟨z,H3,I3,r3,k,e,q3⟩=>?_) hm
 subst e;cases r3;exact mq ⟨H3,I3,q3⟩
def aKl (r r':R2) (ta tb tc:TE):TE:=fun σ H Q=>ta σ H fun x H1=>tb σ H1 fun y H2=>r x y H2 fun z H3=>∃k,z=.bl k ∧
 (if k=true then tc σ H3 fun w' H4=>r' y w' H4 Q else Q (.bl false) H3)
theorem aAv(ho:OpR X (mj op) r)(ho':OpR X (mj op') r')(ha:PE X a ta)(hb:PE X b tb)(hc:PE X c tc)
  (hm:lastMarks [op,op'] [b,c]=false:=by with_unfolding_all rfl):PE X (.Compare a [op,op'] [b,c] pos) (aKl r r' ta tb tc):=by
 intro pins s σ H Q I h;refine Compare_chain (thn (ha pins s σ H _ I h) fun v s1 zq=>zq.el fun x H1 I1 r1 q1=>chain_link (thn (hb pins s1 σ H1 _ I1 q1) fun u s2 zq=>zq.el fun y H2 I2 r2 q2=>
  thn (ho pins s2 σ H2 x y v u _ I2 r1 r2 q2) fun d s3 ⟨z,H3,I3,r3,k,e,q3⟩=>?_)) hm
 subst e;cases r3;refine mq ?_;cases k with
 |false=>exact ite_ff ⟨.bl false,H3,I3,rfl,q3⟩
 |true=>exact ite_tt (chain_last (thn (hc pins s3 σ H3 _ I3 q3) fun w' s4 zq=>zq.el fun z' H4 I4 r4 q4=>ho' pins s4 σ H4 y z' u w' Q I4 r2 r4 q4))
theorem oH(ho:OpR X (mj op) r)(ho':OpR X (mj op') r')(ha:PE X a ta)(hb:PE X b tb)(hc:PE X c tc)
  (hm:lastMarks [op,op'] [b,c]=false:=by with_unfolding_all rfl):PT X (.Compare a [op,op'] [b,c] pos) (aJt (aKl r r' ta tb tc)):=by
 intro pins s σ H Q I h;refine isTrue_chain (thn (ha pins s σ H _ I h) fun v s1 zq=>zq.el fun x H1 I1 r1 q1=>test_link (thn (hb pins s1 σ H1 _ I1 q1) fun u s2 zq=>zq.el fun y H2 I2 r2 q2=>
  thn (ho pins s2 σ H2 x y v u _ I2 r1 r2 q2) fun d s3 ⟨z,H3,I3,r3,k,e,q3⟩=>?_)) hm
 subst e;cases r3;refine mq ?_;cases k with
 |false =>
  obtain⟨k',e',q'⟩:=q3;cases e';exact ite_ff ⟨H3,I3,q'⟩
 |true =>
  refine ite_tt (test_last (thn (hc pins s3 σ H3 _ I3 q3) fun w' s4 zq=>zq.el fun z' H4 I4 r4 q4=>thn (ho' pins s4 σ H4 y z' u w' _ I4 r2 r4 q4) fun d' s5 zq=>?_));obtain⟨z2,H5,I5,r5,k2,e2,q5⟩:=zq;subst e2;cases r5;exact mq ⟨H5,I5,q5⟩
def TruV (K:Ξ) (x:V) (H:Hp) (k:Bool):Prop :=
 match x with
 |.non=>k=false
 |.bl b=>k=b
 |.int i=>k=(i != 0)
 |.str y=>y.length<=ψ/\k=((y.length:Int) != 0)
 |.byt y=>y.size<=ψ/\k=((y.size:Int) != 0)
 |.ref p=>(∃xs,SqL K H p xs/\k = !xs.isEmpty)\/(∃xs,SqT K H p xs/\k = !xs.isEmpty)\/∃kvs,H p=some (.dK kvs)/\k = !kvs.isEmpty
 |_=>False
theorem aBz{κ : Type}{kvs:List (κ×V)}{vs:List (κ×Value)}(r:KV kvs vs):(!vs.isEmpty) = !kvs.isEmpty:=by
 cases r <;> rfl
theorem nW(r:kM xs its):(!its.toArray.isEmpty) = !xs.isEmpty:=by
 cases r <;> simp
theorem fR:(ψ:Nat)<2 ^ 63:=by rw[jf];decide
theorem aPi:TruR X (fun x H Q=>∃k,TruV X.K x H k/\Q k H):=by
 intro pins s σ H x v Q I rx h;obtain⟨k,e,q⟩:=h;have hl:=fR;have hs:ψ=16777216:=jf;cases x with
 |non =>
  cases rx;have e':k=false:=e;subst e';exact truthy_none ⟨H,I,q⟩
 |bl b =>
  cases rx;have e':k=b:=e;subst e';exact mq ⟨H,I,q⟩
 |int i =>
  obtain⟨t,rfl⟩:=rx;have e':k=(i != 0):=e;subst e';exact PySem.P.truthy_int ⟨H,I,q⟩
 |str y =>
  obtain⟨t,rfl⟩:=rx;obtain⟨hy,e'⟩ : y.length<=ψ/\k=((y.length:Int) != 0):=e;subst e';exact PySem.P.truthy_str (by omega) ⟨H,I.tok _,q⟩
 |byt y =>
  obtain⟨t,rfl⟩:=rx;obtain⟨hy,e'⟩ : y.size<=ψ/\k=((y.size:Int) != 0):=e;subst e';exact PySem.W.truthy_bytes (by omega) ⟨H,I.tok _,q⟩
 |ref p =>
  cases rx;have e':(∃xs,SqL X.K H p xs/\k = !xs.isEmpty)\/(∃xs,SqT X.K H p xs/\k = !xs.isEmpty)\/∃kvs,H p=some (.dK kvs)/\k = !kvs.isEmpty:=e;rcases e' with⟨xs,hx,e'⟩|⟨xs,hx,e'⟩|⟨kvs,hx,e'⟩
  ·subst e';obtain⟨its,r,pl,hz⟩:=I.list hx;have hlen:=r.length;exact wpAny_truthy_list pl.isList (by simp only[Φ];omega) ⟨H,I.tok _,by rw[nW r];exact q⟩
  ·subst e';obtain⟨its,r,pl,hz⟩:=I.tuple hx;have hlen:=r.length;exact truthy_tuple pl (by simp only[Φ];omega) ⟨H,I.tok _,by rw[nW r];exact q⟩
  ·subst e';obtain⟨hz,hS,vs,r,m⟩ : kvs.length<=ψ/\(p == ky)=false/\∃vs,KV kvs vs/\s.heap.DictOf (qN X.prog X.w) p vs:=I.hok p _ hx;have hlen:kvs.length=vs.length:=qb r;exact wpAny_truthy_dict hS m (by omega) ⟨H,I.tok _,by rw[aBz r];exact q⟩
 |_=>exact(show False from e).elim
theorem cV(ha:PE X a ta)(he:∀whole,isTrue a X.env whole=(do let v ←whole;standAt a.pos;holding [v] (truthy v))):
  PT X a (fun σ H Q=>ta σ H fun x H'=>∃k,TruV X.K x H' k/\Q k H'):=by
 intro pins s σ H Q I h;exact isTrue_plain (thn (ha pins s σ H _ I h) fun v s1 zq=>zq.el fun x H1 I1 r1 q1=>aPi pins s1 σ H1 x v Q I1 r1 q1) (he _)
theorem vA:OpR X (qo .Add) (fun x y H Q=>∃i j,x=.str i/\y=.str j/\i.length+j.length<=ψ/\Q (.str (i++j)) H):=by
 intro pins s σ H x y v u Q I rx ry h;obtain⟨i,j,rfl,rfl,hz,q⟩:=h;obtain⟨t,rfl⟩:=rx;obtain⟨t',rfl⟩:=ry;exact add_str (fun t' tk=>⟨.str (i++j),H,I.tok _,⟨_,rfl⟩,q⟩) hz
theorem vals1{x:V}(r:kM [x] us):∃u,us=[u]/\RelV x u:=by
 cases r with
 |cons r1 r2=>cases r2;exact⟨_,rfl,r1⟩
theorem vals2{x y:V}(r:kM [x,y] us):∃u w',us=[u,w']/\RelV x u/\RelV y w':=by
 cases r with
 |cons r1 r2 =>
  cases r2 with
  |cons r3 r4=>cases r4;exact⟨_,_,rfl,r1,r3⟩
theorem sP(hc:X.calm=true):vK X (.builtin "max") (fun xs H Q=>∃i j,xs=[.int i,.int j]/\Q (.int (if j > i then j else i)) H):=by
 intro pins s σ H xs us Q I r h;obtain⟨i,j,rfl,q⟩:=h;obtain⟨u,w',rfl,⟨t,rfl⟩,⟨t',rfl⟩⟩:=vals2 r;refine max_two_ints (I.ok.hd hc) fun h' tk k=>⟨_,H,I.kept k,?_,q⟩
 by_cases hj:j > i
 ·rw[if_pos hj,if_pos hj];exact⟨_,rfl⟩
 ·rw[if_neg hj,if_neg hj];exact⟨_,rfl⟩
theorem sM(hc:X.calm=true):vK X (.builtin "min") (fun xs H Q=>∃i j,xs=[.int i,.int j]/\Q (.int (if j<i then j else i)) H):=by
 intro pins s σ H xs us Q I r h;obtain⟨i,j,rfl,q⟩:=h;obtain⟨u,w',rfl,⟨t,rfl⟩,⟨t',rfl⟩⟩:=vals2 r;refine min_two_ints (I.ok.hd hc) fun h' tk k=>⟨_,H,I.kept k,?_,q⟩
 by_cases hj:j<i
 ·rw[if_pos hj,if_pos hj];exact⟨_,rfl⟩
 ·rw[if_neg hj,if_neg hj];exact⟨_,rfl⟩
theorem bR:vK X (.type "str") (fun xs H Q=>∃i,xs=[.int i]/\i.natAbs.log2<1920/\Q (.str (toString i)) H):=by
 intro pins s σ H xs us Q I r h;obtain⟨i,rfl,hz,q⟩:=h;obtain⟨u,rfl,t,rfl⟩:=vals1 r;exact PySem.P.str_of_int hz ⟨.str _,H,I.tok _,⟨_,rfl⟩,q⟩
def LenV (K:Ξ) (x:V) (H:Hp) (n:Nat):Prop :=
 match x with
 |.str y=>y.length<=ψ/\n=y.length
 |.byt y=>y.size<=ψ/\n=y.size
 |.ref p=>(∃xs,SqL K H p xs/\n=xs.length)\/∃xs,SqT K H p xs/\n=xs.length
 |_=>False
theorem aAz:vK X (.builtin "len") (fun xs H Q=>∃x n,xs=[x]/\LenV X.K x H n/\Q (.int n) H):=by
 intro pins s σ H xs us Q I r h;obtain⟨x,n,rfl,e,q⟩:=h;obtain⟨u,rfl,rx⟩:=vals1 r;have hl:=fR;have hs:ψ=16777216:=jf;cases x with
 |str y =>
  obtain⟨t,rfl⟩:=rx;obtain⟨hy,e'⟩ : y.length<=ψ/\n=y.length:=e;subst e';exact len_str (by omega) ⟨.int _,H,I.tok _,⟨_,rfl⟩,q⟩
 |byt y =>
  obtain⟨t,rfl⟩:=rx;obtain⟨hy,e'⟩ : y.size<=ψ/\n=y.size:=e;subst e';exact PySem.W.len_bytes (by omega) ⟨.int _,H,I.tok _,⟨_,rfl⟩,q⟩
 |ref p =>
  cases rx;have e':(∃xs,SqL X.K H p xs/\n=xs.length)\/∃xs,SqT X.K H p xs/\n=xs.length:=e;rcases e' with⟨xs,hx,e'⟩|⟨xs,hx,e'⟩
  ·subst e';obtain⟨its,r',pl,hz⟩:=I.list hx;have hlen:=r'.length;exact Calls.call_len_list pl.isList (by simp only[Φ];omega) ⟨.int xs.length,H,I.tok _,⟨_,by simp only[Φ];rw[hlen]⟩,q⟩
  ·subst e';obtain⟨its,r',pl,hz⟩:=I.tuple hx;have hlen:=r'.length;exact len_tuple pl (by simp only[Φ];omega) ⟨.int xs.length,H,I.tok _,⟨_,by simp only[Φ];rw[hlen]⟩,q⟩
 |_=>exact(show False from e).elim
end
structure aCz (h:mv) (x dx C:Addr) (mA:Str->Option Value):Prop where
 obj:h.get? x=some (qu C dx)
 ns:h.Ns1 dx mA
 ne:dx≠x
theorem aGx{h:mv}{mA:Str->Option Value}(n:h.Ns1 dx mA):∃od,h.get? dx=some od/\∀name,PySem.W.lookIn name od=some (mA name):=by
 obtain⟨o,es,ep,ho,hd,hk,_,hm⟩:=n;refine⟨o,ho,fun name=>?_⟩;have e:=hm name;unfold nsFind findBy at e;rw[←Array.find?_toList]at e;unfold PySem.W.lookIn;rw[hd];dsimp only
 split
 ·rename_i y q;rw[q]at e;exact congrArg some e
 ·rename_i q;rw[q]at e;have a:es.toList.any (·.refKey)=false:=by
   rw[List.any_eq_false];intro y hy;obtain⟨z,t,hkey⟩:=hk y (Array.mem_toList_iff.mp hy);simp[DictEntry.refKey,hkey]
  have a':¬ es.toList.any (·.refKey)=true:=by rw[a];exact υ
  rw[if_neg a'];exact congrArg some e
theorem aCz.look{mA:Str->Option Value}(I:aCz h x dx C mA):∃od,PySem.W.InstAt h x (qu C dx) C (some od)/\∀name,PySem.W.lookIn name od=some (mA name) :=
 let ⟨od,ho,hl⟩:=aGx I.ns
 ⟨od,⟨I.obj,rfl,rfl,ho⟩,hl⟩
section
variable {prog:mf}{w:oo}{A:mn}{E:Value->ω->Prop}{s:ω}{K:Ξ}{x dx C f:Addr}{mA:Str->Option Value}{name:Str}{v:Value}
theorem aMr{Q:Value->ω->Prop}(X:K.In s.heap)(I:aCz s.heap x dx C mA)(hg:yi K C name=true)(hh:PySem.W.hasDictIn K C=true)
  (ha:ud K (.ref C) name=some none)(hv:mA name=some v)(hv':PySem.W.handedIn v=true)(h:Q v { s with toks:=s.toks+1 }):
  iz (jh prog w) A (getAttr (.ref x) name expr) Q E s:=by
 obtain⟨od,J,hl⟩:=I.look;exact PySem.W.get_value X J (PySem.W.plainGet_of hg).1 (PySem.W.findObj_own hh ha rfl (by rw[hl,hv])) hv' h
theorem aKt{Q:Value×List Value->ω->Prop}(X:K.In s.heap)(I:aCz s.heap x dx C mA)(hg:yi K C name=true)
  (hf:ud K (.ref C) name=some (some (.ref f)))(ht:isFn K (.ref f)=true)(hv:mA name=none)(h:Q (.ref f,[.ref x]) s):
  iz (jh prog w) A (getMethod (.ref x) name pl) Q E s:=by
 obtain⟨od,J,hl⟩:=I.look;exact PySem.W.method_fn X J (PySem.W.plainGet_of hg).1 (PySem.W.plainGet_of hg).2 hf (beq_iff_eq.mp ht) (by show(PySem.W.lookIn name od).map (·.isSome)=some false;rw[hl,hv];rfl) h
theorem aNb{Q:Unit->ω->Prop}(X:K.In s.heap)(I:aCz s.heap x dx C mA)
  (hs:ud K (.ref C) "__setattr__" = some (some (.builtin "object.__setattr__")))(hp:PySem.W.plainOver K C=true)(ht:PySem.W.takerIn K C name=some none)(hh:PySem.W.hasDictIn K C=true)
  (hw:PySem.Within mA ns)(hsz:ns.length<=ψ)
  (h:∀h',aCz h' x dx C (fun y=>if y=name then some v else mA y)->pq dx s.heap h'->Q () { s with heap:=h',toks:=s.toks+2 }):
  iz (jh prog w) A (setAttr (.ref x) name v) Q E s:=by
 obtain⟨od,J,hl⟩:=I.look;refine PySem.W.set_plain X J hs (PySem.W.osa_open (s:={ s with toks:=s.toks+1 }) (r:=none) X J hp ht fun b=>?_);obtain⟨cd,hc,hd'⟩:=PySem.W.any_some hh;have hx:s.heap.get? x=some ⟨.ref C,some dx,.plain,#[]⟩:=I.obj;refine ξ (iy (ξ (ξ (wpAny_loadPart hx (ξ (PySem.W.Looks.here (s:={ s with toks:=s.toks+1 }) (PySem.W.looks_clsIn X hc) ?_))))));rw[hd'];refine iy (a:=some dx) (ξ (iy (ξ ?_)));refine wpAny_nsSet1 (s:={ s with toks:=s.toks+1 }) I.ns fun h' hn2 hs2=>?_;obtain⟨oD,esD,epD,hoD,hdD,hcD⟩:=hn2.count (PySem.Within.cons name v hw);refine ξ (wpAny_lookBehind hoD (by rw[hdD];exact pastItsLine_dict (ip hcD (by rw[Ω];omega))) ?_);exact iy (h _ ⟨(hs2.2 _ (lm I.ne)).trans I.obj,hn2,I.ne⟩ hs2)
theorem aKo{vs:List Value}{kw:List (Str×Value)}(X:K.In s.heap)(hm:PySem.W.makesIn K C=true)
  (hi:ud K (.ref C) "__init__" = some (some (.ref f)))(hf:PySem.W.typeIn K (.ref f)=some (.type "function"))
  (h:codeAny (jh prog w) (A.under (.builtin "type.__call__" ⟨.ref C::vs,kw⟩)) (.call (.ref f) ⟨.ref (s.heap.objs.size+1)::vs,kw⟩) (PySem.W.InitBack (s.heap.objs.size+1) R)
   { s with heap:=(s.heap.push PySem.W.emptyDict).push (qu C s.heap.objs.size) }):
  codeAny (jh prog w) A (.call (.ref C) ⟨vs,kw⟩) R s:=by
 obtain⟨hh,g,d,t,os⟩:=s;exact PySem.W.make_core (PySem.W.makes_of X hm) (PySem.W.looks_findIn X hi) (fun self=>PySem.W.bind_fn X self hf) (.inl rfl) h
end
def bI (f:Str) (v:V):List (Str×V)->List (Str×V)
 |[]=>[(f,v)]
 | (g,x)::r=>if g=f then (g,v)::r else (g,x)::bI f v r
theorem lO(f g:Str)(v:V):∀fs:List (Str×V),(bI f v fs).lookup g=if g=f then some v else fs.lookup g
 |[]=>by
  show xm g [(f,v)]=_
  by_cases h:g=f
  ·have hb:(g == f)=true:=beq_iff_eq.mpr h;simp only[xm,hb,if_pos h]
  ·have hb:(g == f)=false:=beq_eq_false_iff_ne.mpr h;simp only[xm,hb,if_neg h]
 | (k,x)::r=>by
  have ih:=lO f g v r;rw[show bI f v ((k,x)::r)=(if k=f then (k,v)::r else (k,x)::bI f v r) from rfl]
  by_cases hk:k=f
  ·rw[if_pos hk]
   by_cases h:g=k
   ·have hb:(g == k)=true:=beq_iff_eq.mpr h;simp only[xm,hb,if_pos (h.trans hk)]
   ·have hb:(g == k)=false:=beq_eq_false_iff_ne.mpr h;simp only[xm,hb,if_neg (fun e:g=f=>h (e.trans hk.symm))]
  ·rw[if_neg hk]
   by_cases h:g=k
   ·have hb:(g == k)=true:=beq_iff_eq.mpr h;simp only[xm,hb,if_neg (fun e:g=f=>hk (h.symm.trans e))]
   ·have hb:(g == k)=false:=beq_eq_false_iff_ne.mpr h;simp only[xm,hb];exact ih
theorem iQ(f:Str)(v:V):∀fs:List (Str×V),f∈(bI f v fs).map (·.1)/\∀g,g∈fs.map (·.1)->g∈(bI f v fs).map (·.1)
 |[]=>⟨by simp[bI],fun g h=>by simp at h⟩
 | (k,x)::r=>by
  obtain⟨i1,i2⟩:=iQ f v r;rw[show bI f v ((k,x)::r)=(if k=f then (k,v)::r else (k,x)::bI f v r) from rfl]
  by_cases hk:k=f
  ·rw[if_pos hk];subst hk;exact⟨by simp,fun g h=>by simpa using h⟩
  ·rw[if_neg hk];refine⟨?_,fun g h=>?_⟩
   ·rw[jx];exact ς _ i1
   ·rw[jx]at h ⊢;rcases π.mp h with e|e
    ·exact π.mpr (.inl e)
    ·exact ς _ (i2 g e)
theorem lN(f:Str)(v:V):∀fs:List (Str×V),(bI f v fs).length<=fs.length+1
 |[]=>by simp[bI]
 | (k,x)::r=>by
  have ih:=lN f v r;rw[show bI f v ((k,x)::r)=(if k=f then (k,v)::r else (k,x)::bI f v r) from rfl]
  by_cases hk:k=f
  ·rw[if_pos hk,Ω,Ω];omega
  ·rw[if_neg hk,Ω,Ω];omega
theorem cP.some_of(r:cP (some v) o):∃u,o=some u/\RelV v u:=by
 cases o with
 |none=>exact(show False from r).elim
 |some u=>exact⟨u,rfl,r⟩
theorem cP.none_of(r:cP none o):o=none:=by
 cases o with
 |none=>rfl
 |some u=>exact(show False from r).elim
theorem aGg(r:RelV v u):PySem.W.handedIn u=true:=by
 cases v with
 |non=>cases (show u=sg from r);rfl
 |bl b=>cases (show u=Value.bool b from r);rfl
 |int i=>obtain⟨t,e⟩:=(show ∃t,u=Value.int i t from r);cases e;rfl
 |str x=>obtain⟨t,e⟩:=(show ∃t,u=Value.str x t from r);cases e;rfl
 |byt b=>obtain⟨t,e⟩:=(show ∃t,u=Value.bytes b t from r);cases e;rfl
 |flt b=>obtain⟨t,e⟩:=(show ∃t,u=Value.float b t from r);cases e;rfl
 |ref a=>cases (show u=km a from r);rfl
 |ty n=>cases (show u=Value.type n from r);rfl
section
variable {P:mf}{w:oo}{H H':Hp}{h h':mv}{a C dx:Addr}{fs fs':List (Str×V)}
theorem mR(hok:HOk P w H h)(e:H a=some (.ins C dx fs)):∃mA,aCz h a dx C mA/\(∀f,cP (fs.lookup f) (mA f))/\PySem.Within mA (fs.map (·.1))/\fs.length<=1000/\H dx=some (.own a):=by
 obtain⟨d,z,ne,ob,mA,n,r,q⟩:=(show qZ P w H h a (.ins C dx fs) from hok a _ e);exact⟨mA,⟨ob,n,ne⟩,r,q,z,d⟩
end
structure Cls (K:Ξ) (C:Addr):Prop where
 pg:yi K C Str.empty=true
 hd:PySem.W.hasDictIn K C=true
 po:PySem.W.plainOver K C=true
 sa:ud K (.ref C) "__setattr__" = some (some (.builtin "object.__setattr__"))
theorem Cls.get{K:Ξ}(c:Cls K C)(f:Str):yi K C f=true:=c.pg
def yZ (K:Ξ) (C:Addr) (f:Str):Prop:=ud K (.ref C) f=some none
theorem yZ.taker{K:Ξ}(n:yZ K C f):PySem.W.takerIn K C f=some none:=by
 unfold PySem.W.takerIn;rw[show ud K (.ref C) f=some none from n];rfl
structure Meth (K:Ξ) (C:Addr) (m:Str) (f:Addr):Prop where
 at_:ud K (.ref C) m=some (some (.ref f))
 fn:isFn K (.ref f)=true
 kp:keepIn K (.ref f)=true
section
variable {X:Cx}{pins:List (Addr×Obj)}{σ:St}{H:Hp}{s:ω}{a C dx:Addr}{fs:List (Str×V)}{f:Str}{v:V}{A:mn}{E:Value->ω->Prop}
theorem aCw{Q:Value->ω->Prop}(I:Inv X pins σ H s)(e:H a=some (.ins C dx fs))(c:Cls X.K C)(n:yZ X.K C f)(l:fs.lookup f=some v)
  (h:∀u s',Inv X pins σ H s'->RelV v u->Q u s'):iz (jh X.prog X.w) A (getAttr (.ref a) f b) Q E s:=by
 obtain⟨mA,O,r,_,_,_⟩:=mR I.hok e;obtain⟨u,hu,ru⟩:=cP.some_of (v:=v) (o:=mA f) (by rw[←l];exact r f);exact aMr I.kIn O (c.get f) c.hd n hu (aGg ru) (h u _ (I.tok _) ru)
theorem fJ{Q:Value×List Value->ω->Prop}(I:Inv X pins σ H s)(e:H a=some (.ins C dx fs))(c:Cls X.K C)(k:Meth X.K C m g)(l:fs.lookup m=none)
  (h:Q (.ref g,[.ref a]) s):iz (jh X.prog X.w) A (getMethod (.ref a) m pl) Q E s:=by
 obtain⟨mA,O,r,_,_,_⟩:=mR I.hok e;have hn:mA m=none:=cP.none_of (by rw[←l];exact r m);exact aKt I.kIn O (c.get m) k.at_ k.fn hn h
theorem aCk{Q:Unit->ω->Prop}(I:Inv X pins σ H s)(e:H a=some (.ins C dx fs))(c:Cls X.K C)(n:yZ X.K C f)(hl:fs.length<1000)(ry:RelV y u)
  (h:∀s',Inv X pins σ (upd H a (.ins C dx (bI f y fs))) s'->Q () s'):iz (jh X.prog X.w) A (setAttr (.ref a) f u) Q E s:=by
 obtain⟨mA,O,r,wi,_,ho⟩:=mR I.hok e;have hz:(fs.map (·.1)).length<=ψ:=by rw[δ,jf];omega
 refine aNb I.kIn O c.sa c.po n.taker c.hd wi hz fun h' O' sb=>h _ ?_;have hd:∃o,h'.get? dx=some o:=let ⟨o,_,_,e',_⟩:=O'.ns; ⟨o,e'⟩;refine I.write (x:=a) (e:=dx) (by rw[e];exact jm) (.inr ho) (fun b q hb z=>(sb.2 b hb).trans z) hd ?_;refine⟨by rw[jT O.ne];exact ho,?_,O.ne,O'.obj,_,O'.ns,fun g=>?_,fun g hg=>?_⟩
 ·have:=lN f y fs;omega
 ·show cP ((bI f y fs).lookup g) (if g=f then some u else mA g);rw[lO]
  by_cases q:g=f
  ·rw[if_pos q,if_pos q];exact ry
  ·rw[if_neg q,if_neg q];exact r g
 ·by_cases q:g=f
  ·rw[q];exact(iQ f y fs).1
  ·refine(iQ f y fs).2 g (wi g fun z=>hg ?_);show(if g=f then some u else mA g)=none;rw[if_neg q];exact z
theorem Inv.made(I:Inv X pins σ H s):Inv X pins σ (upd (upd H s.heap.objs.size (.own (s.heap.objs.size+1))) (s.heap.objs.size+1) (.ins C s.heap.objs.size []))
  { s with heap:=(s.heap.push PySem.W.emptyDict).push (qu C s.heap.objs.size) }:=by
 have e1:(s.heap.push PySem.W.emptyDict).get? s.heap.objs.size=some PySem.W.emptyDict:=ij s.heap rfl;have e2:((s.heap.push PySem.W.emptyDict).push (qu C s.heap.objs.size)).get? (s.heap.objs.size+1)=some (qu C s.heap.objs.size):=by
  have:=ij (s.heap.push PySem.W.emptyDict) (o:=qu C s.heap.objs.size) rfl
  rwa [sy]at this
 have e3:(s.heap.push PySem.W.emptyDict).Ns s.heap.objs.size (fun _=>none):=⟨PySem.W.emptyDict,#[],_,e1,rfl,(fun e he=>absurd he (by simp)),fun _=>rfl⟩;have I1:=I.laid (a:=s.heap.objs.size) (o:=.own (s.heap.objs.size+1)) (h':=s.heap.push PySem.W.emptyDict) (t':=s.toks) (fun b u q=>τ _ q) (ν _) ⟨_,e1⟩;refine I1.laid (a:=s.heap.objs.size+1) (o:=.ins C s.heap.objs.size []) (t':=s.toks) (fun b u q=>τ _ q) (Nat.le_of_eq (sy _ _)) ?_;have ne:s.heap.objs.size≠s.heap.objs.size+1:=ja (wf _);refine⟨by rw[jT ne,jP],io _,ne,e2,fun _=>none,(mv.Ns1.of_empty e3).at fun o q=>τ _ q,fun _=>jm,fun y hy=>absurd rfl hy⟩
theorem aLq(hb:wu e f env (eval e env)=eval e env)
  (h:iz (jh prog w) A (eval e env) (fun o s₁=>iz (jh prog w) A (getAttr o f true) Q E s₁) E s):iz (jh prog w) A (eval (.Attribute e f pos) env) Q E s :=
 Attribute_any_ h (by rw[arm_eval_Attribute,hb])
end
inductive aKy (K:Ξ) (f:Str) (Q:VK) (x:V) (H1:Hp):Prop|mk:∀a C dx fs v,x=.ref a->H1 a=some (.ins C dx fs)->Cls K C->yZ K C f->fs.lookup f=some v->Q v H1->aKy K f Q x H1
def tFld (K:Ξ) (ta:TE) (f:Str):TE:=fun σ H Q=>ta σ H fun x H1=>aKy K f Q x H1
def sFld (K:Ξ) (ta tv:TE) (f:Str):TS:=fun D σ H=>tv σ H fun y H1=>ta σ H1 fun x H2=>∃a C dx fs,x=.ref a/\H2 a=some (.ins C dx fs)/\Cls K C/\yZ K C f/\fs.length<1000 ∧
 D.nx σ (upd H2 a (.ins C dx (bI f y fs)))
section
variable {X:Cx}{o e value:Expr}{f:Str}{pos pos' tpos:Pos}{ta tv:TE}
theorem qF(he:PE X e ta)(hb:wu e f X.env (eval e X.env)=eval e X.env):PE X (.Attribute e f pos) (tFld X.K ta f):=by
 intro pins s σ H Q I h;refine aLq hb (thn (he pins s σ H _ I h) fun u s1 zq=>?_);obtain⟨x,H1,I1,rx,a,C,dx,fs,v,ex,ea,c,n,l,q⟩:=zq;subst ex;obtain rfl:u=km a:=rx;exact aCw I1 ea c n l fun u' s2 I2 ru=>⟨v,H1,I2,ru,q⟩
theorem dM(ha:PE X o ta)(hv:PE X value tv)(hs:swapsWith value (some (.Attribute o f pos')) pos.line X.env=pure false):PS X (.Assign [.Attribute o f pos'] value pos) (sFld X.K ta tv f):=by
 intro pins s σ H D I h;refine plainObj_wpAny_Assign_Attribute (thn (hv pins s σ H _ I h) fun u s1 zq=>zq.el fun y H1 I1 ry q=>thn (ha pins s1 σ H1 _ I1 q) fun ov s2 zq=>?_) hs;obtain⟨x,H2,I2,rx,a,C,dx,fs,ex,ea,c,n,l,q2⟩:=zq;subst ex;obtain rfl:ov=km a:=rx;exact aCk I2 ea c n l ry fun s3 I3=>⟨σ,_,I3,q2⟩
end
section
variable {X:Cx}{pins:List (Addr×Obj)}{σ:St}{H:Hp}{s:ω}{A:mn}{E:Value->ω->Prop}{Q:Value->ω->Prop}{c:Value}{b:Bool}
inductive gI (K:Ξ) (H:Hp):V->Value->Prop where
 |non:gI K H .non (.type "NoneType")
 |bl (x:Bool):gI K H (.bl x) (.type "bool")
 |int (i:Int):gI K H (.int i) (.type "int")
 |str (x:Str):gI K H (.str x) (.type "str")
 |flt (x:UInt64):gI K H (.flt x) (.type "float")
 |lst {a:Addr}{xs:List V}(e:H a=some (.lst xs)):gI K H (.ref a) (.type "list")
 |frz {a:Addr}{o:Obj}{xs:List V}(e:H a=some (.frz o (.lst xs))):gI K H (.ref a) (.type "list")
 |tup {a:Addr}{xs:List V}(e:H a=some (.tup xs)):gI K H (.ref a) (.type "tuple")
 |dK {a:Addr}{kvs:List (Key×V)}(e:H a=some (.dK kvs)):gI K H (.ref a) (.type "dict")
 |dT {a:Addr}{kvs:List (List Key×V)}(e:H a=some (.dT kvs)):gI K H (.ref a) (.type "dict")
 |ins {a C dx:Addr}{fs:List (Str×V)}(e:H a=some (.ins C dx fs)) (cl:Cls K C) (ha:ud K (.ref C) "__class__" = some (some (.builtin "object.__class__")))
   (hn:PySem.W.specialIn K (.builtin "object.__class__") "__get__" = some (some (.builtin "getset_descriptor.__get__"))) (htk:PySem.W.takesIn K (.builtin "object.__class__")=some true)
   (hm:ww K C (.type "object")=some true):gI K H (.ref a) (.ref C)
theorem aGw(I:Inv X pins σ H s)(rx:RelV x u)(ty:gI X.K H x t)(e:ki X.K t c=some b)(h:∀tk,Q (.bool b) { s with toks:=tk }):
  iz (jh X.prog X.w) A (call (.builtin "isinstance") [u,c]) Q E s:=by
 cases ty with
 |non=>cases (show u=sg from rx);exact ot PySem.W.kitx_none I.kIn jm e (fun z=>nomatch z) h
 |bl y=>cases (show u=Value.bool y from rx);exact ot PySem.W.kitx_bool I.kIn jm e (fun z=>nomatch z) h
 |int i=>obtain⟨t,q⟩:=(show ∃t,u=Value.int i t from rx);cases q;exact ot PySem.W.kitx_int I.kIn jm e (fun z=>nomatch z) h
 |str y=>obtain⟨t,q⟩:=(show ∃t,u=Value.str y t from rx);cases q;exact ot PySem.W.kitx_str I.kIn jm e (fun z=>nomatch z) h
 |flt y=>obtain⟨t,q⟩:=(show ∃t,u=Value.float y t from rx);cases q;exact ot PySem.W.kitx_float I.kIn jm e (fun z=>nomatch z) h
 | @lst a xs ea =>
  cases (show u=km a from rx);obtain⟨_,_,n,_,h1⟩:=(show qZ X.prog X.w H s.heap a (.lst xs) from I.hok a _ ea);exact ot PySem.W.kitx_list I.kIn ⟨_,h1,rfl⟩ e (fun z=>nomatch z) h
 | @frz a ob xs ea =>
  cases (show u=km a from rx);obtain⟨_,_,_,n,_,h1⟩:=(show qZ X.prog X.w H s.heap a (.frz ob (.lst xs)) from I.hok a _ ea);exact ot PySem.W.kitx_list I.kIn ⟨_,h1,rfl⟩ e (fun z=>nomatch z) h
 | @tup a xs ea =>
  cases (show u=km a from rx);obtain⟨_,_,_,p⟩:=(show qZ X.prog X.w H s.heap a (.tup xs) from I.hok a _ ea);obtain⟨o,h1,h2,_⟩:=p;exact ot PySem.W.kitx_tuple I.kIn ⟨o,h1,h2⟩ e (fun z=>nomatch z) h
 | @dK a kvs ea =>
  cases (show u=km a from rx);obtain⟨_,_,vs,_,p⟩:=(show qZ X.prog X.w H s.heap a (.dK kvs) from I.hok a _ ea);obtain⟨o,es,ep,h1,h2,_⟩:=p;exact ot PySem.W.kitx_dict I.kIn ⟨o,h1,h2.1⟩ e (fun z=>nomatch z) h
 | @dT a kvs ea =>
  cases (show u=km a from rx);obtain⟨_,_,xs,_,o,es,ep,h1,h2,_⟩:=(show qZ X.prog X.w H s.heap a (.dT kvs) from I.hok a _ ea);exact ot PySem.W.kitx_dict I.kIn ⟨o,h1,h2.1⟩ e (fun z=>nomatch z) h
 | @ins a C dx fs ea cl ha hn htk hm =>
  cases (show u=km a from rx);obtain⟨mA,O,_⟩:=mR I.hok ea;obtain⟨od,J,_⟩:=O.look;exact ot (PySem.W.kitx_own (cl.get _) cl.hd ha hn htk hm) I.kIn J e (fun z=>nomatch z) h
end
structure xH (k:Nat) (A:mn):Prop where
 hd:A.handled=none
 dp:A.depth+3*k+5<recursionLimit
 un:A.units+16*k+200<qj
 gd:A.guards=some []
theorem xH.mono{j:Nat}(r:xH k A)(h:j<=k):xH j A:=⟨r.hd,by have:=r.dp;omega,by have:=r.un;omega,r.gd⟩
theorem xH.deeper{k:Nat}(r:xH (k+1) A)(env:Env):xH k (A.deeper env) :=
 ⟨r.hd,by have:=r.dp;show A.depth+1+3*k+5<_;omega,by have:=r.un;show A.units+3+16*k+200<_;omega,r.gd⟩
theorem xH.in1{k:Nat}(r:xH (k+1) A):xH k A.in1 :=
 ⟨r.hd,by have:=r.dp;show A.depth+3*k+5<_;omega,by have:=r.un;show A.units+1+16*k+200<_;omega,r.gd⟩
theorem aDj{A:mn}{us:List Value}{kw:List (Str×Value)}: (A.under (.builtin "type.__call__" ⟨.ref C::us,kw⟩)).depth=A.depth+1:=by
 first|rfl|simp[mn.under,Code.weight,Code.isCreation,Code.isGuard,Code.isCaller,Code.frames,Code.isFrame,guardIds]
theorem aCc{A:mn}{us:List Value}{kw:List (Str×Value)}: (A.under (.builtin "type.__call__" ⟨.ref C::us,kw⟩)).units=A.units+1:=by
 first|rfl|simp[mn.under,Code.cUnits,Code.frames,Code.isFrame]
theorem wB{A:mn}{us:List Value}{kw:List (Str×Value)}: (A.under (.builtin "type.__call__" ⟨.ref C::us,kw⟩)).guards=A.guards:=by
 have hg:guardIds.contains "type.__call__" = false:=by ac_rfl
 have e:Code.guards (.builtin "type.__call__" ⟨.ref C::us,kw⟩)=[]:=by
  unfold Code.guards;rw[if_neg (fun z=>by rw[show Code.isGuard (.builtin "type.__call__" ⟨.ref C::us,kw⟩)=guardIds.contains "type.__call__" from rfl,hg]at z;cases z)]
 unfold mn.under;rw[e];rfl
theorem xH.make{k:Nat}(r:xH (k+1) A)(C:Addr)(us:List Value)(kw:List (Str×Value)):xH k (A.under (.builtin "type.__call__" ⟨.ref C::us,kw⟩)) :=
 ⟨r.hd,by have:=r.dp;rw[aDj];omega,by have:=r.un;rw[aCc];omega,wB.trans r.gd⟩
theorem xH.depth(r:xH k A):A.depth<recursionLimit:=by have:=r.dp;omega
theorem xH.units(r:xH k A):A.units+64<qj:=by have:=r.un;omega
def aJp:TA:=fun _ H Q=>Q [] H
def aOv (ta:TE) (tr:TA):TA:=fun σ H Q=>ta σ H fun x H1=>tr σ H1 fun xs H2=>Q (x::xs) H2
section
variable {X:Cx}{e:Expr}{es:List Expr}{te:TE}{t:TA}{pos:Pos}
theorem jB:PA X [] aJp:=fun _ _ _ _ H Q I h=>Calls.spliced_nil ⟨[],H,I,.nil,h⟩
theorem jA(ha:PE X e te)(hr:PA X es t)(hs:jl (e::es) X.env=(false,eval e X.env)::jl es X.env:=by rfl):PA X (e::es) (aOv te t):=by
 intro pos pins s σ H Q I h;rw[hs];show iz _ _ (spliced ((false,eval e X.env)::wl pos (jl es X.env))) _ _ s;refine Calls.spliced_cons (thn (ha pins s σ H _ I h) fun u s1 zq=>?_);obtain⟨x,H1,I1,r1,q1⟩:=zq;exact thn (hr pos pins s1 σ H1 _ I1 q1) fun us s2 zq=>zq.el fun xs H2 I2 r2 q2=>⟨x::xs,H2,I2,.cons r1 r2,q2⟩
inductive aKq (Q:VK) (xs:List V) (H1:Hp):Prop|mk:xs.length<=ψ->(∀p,H1 p=none->Q (.ref p) (upd H1 p (.tup xs)))->aKq Q xs H1
def tTup (t:TA):TE:=fun σ H Q=>t σ H fun xs H1=>aKq Q xs H1
inductive aJz (Q:VK) (xs:List V) (H1:Hp):Prop|mk:xs.length<=ψ->(∀p,H1 p=none->Q (.ref p) (upd H1 p (.lst xs)))->aJz Q xs H1
def tLst (t:TA):TE:=fun σ H Q=>t σ H fun xs H1=>aJz Q xs H1
theorem kW{x1}(h:PA X es t):PE X (.Tuple es x1 pos) (tTup t):=by
 intro pins s σ H Q I hq;refine wpAny_Tuple_spliced (thn (h pos pins s σ H _ I hq) fun us s1 ⟨xs,H1,I1,r,z,q⟩=>⟨by rw[←r.length];exact z,?_⟩);have hf:H1 s1.heap.objs.size=none:=I1.hok.fresh (ν _);refine⟨.ref s1.heap.objs.size,upd H1 s1.heap.objs.size (.tup xs),I1.laid (t':=s1.toks) (fun b u e=>τ _ e) (ν _) ?_,rfl,q _ hf⟩;exact⟨z,us,r,⟨_,ij _ rfl,rfl,_,rfl⟩⟩
theorem qE(h:PA X es t):PE X (.List es pos) (tLst t):=by
 intro pins s σ H Q I hq;refine wpAny_List_spliced (thn (h pos pins s σ H _ I hq) fun us s1 ⟨xs,H1,I1,r,z,q⟩=>⟨by rw[←r.length];exact z,?_⟩);have hf:H1 s1.heap.objs.size=none:=I1.hok.fresh (ν _);refine⟨.ref s1.heap.objs.size,upd H1 s1.heap.objs.size (.lst xs),I1.laid (t':=s1.toks) (fun b u e=>τ _ e) (ν _) ?_,rfl,q _ hf⟩;exact⟨z,us,0,r,ij _ rfl⟩
end
abbrev Sp:=List V->Hp->VK->XK->Prop
abbrev CXT:=List Env->Hp->ω->XK->Value->ω->Prop
structure rC (P:mf) (w:oo) (K:Ξ) (mg:Str->Option Value) (base:mv) (A:mn) (outer:List Env) (s:ω) (H:Hp):Prop where
 frames:A.frames=some outer
 mod:Mod K mg base
 bs:∀b o,base.get? b=some o->s.heap.get? b=some o/\H b=none
 bsz:base.objs.size<=s.heap.objs.size
 funs:s.heap.FunFrames base outer
 frf:∀b∈frs outer,H b=none
 hok:HOk P w H s.heap
 bare:AllBare s.gens
def CE (outer:List Env) (P:mf) (w:oo) (H:Hp) (s:ω) (Q:VK) (u:Value) (s':ω):Prop :=
 ∃v H',s'.os=s.os/\AllBare s'.gens/\Un (frs outer) [] H H' s.heap s'.heap/\HOk P w H' s'.heap/\RelV v u/\Q v H'
def CR (CX:CXT) (outer:List Env) (P:mf) (w:oo) (H:Hp) (s:ω) (Q:VK) (E:XK) (r:Result) (s':ω):Prop :=
 match r with
 |.ok (.ret u)=>CE outer P w H s Q u s'
 |.ok _=>False
 |.error e=>CX outer H s E e s'
structure kH (P:mf) (w:oo) (K:Ξ) (mg:Str->Option Value) (base:mv) (CX:CXT) (k:Nat) (f:Addr) (fd:uo) (ps:List Str) (sp:Sp):Prop where
 len:∀vs H Q E,sp vs H Q E->vs.length=ps.length
 run:∀(A:mn) (outer:List Env) (s:ω) (H:Hp) (args:Args) (us:List Value) (vs:List V) (Q:VK) (E:XK),xH k A->rC P w K mg base A outer s H->BindsTo s fd args (ps.zip us)->kM vs us->sp vs H Q E →
  codeAny (jh P w) A (.call (.ref f) args) (CR CX outer P w H s Q E) s
theorem kH.mono{K:Ξ}{k:Nat}(F:kH P w K mg base CX j f fd ps sp)(h:j<=k):
  kH P w K mg base CX k f fd ps sp:=⟨F.len,fun A outer s H args us vs Q E hr=>F.run A outer s H args us vs Q E (hr.mono h)⟩
theorem kH.imp{K:Ξ}{sp sp':Sp}(F:kH P w K mg base CX k f fd ps sp)
  (h:∀vs H Q E,sp' vs H Q E->sp vs H Q E):kH P w K mg base CX k f fd ps sp' :=
 ⟨fun vs H Q E q=>F.len vs H Q E (h _ _ _ _ q),fun A outer s H args us vs Q E hr he hb hv hs=>F.run A outer s H args us vs Q E hr he hb hv (h _ _ _ _ hs)⟩
theorem rC.make{K:Ξ}(e:rC P w K mg base A outer s H)(C:Addr)(us:List Value)(kw:List (Str×Value)):
  rC P w K mg base (A.under (.builtin "type.__call__" ⟨.ref C::us,kw⟩)) outer s H:=⟨by first|exact e.frames|(simpa [mn.under,Code.envs,Code.isFrame,pushEnvs] using e.frames),e.mod,e.bs,e.bsz,e.funs,e.frf,e.hok,e.bare⟩
theorem rC.in1{K:Ξ}(e:rC P w K mg base A outer s H):
  rC P w K mg base A.in1 outer s H:=⟨e.frames,e.mod,e.bs,e.bsz,e.funs,e.frf,e.hok,e.bare⟩
section
variable {X:Cx}{pins:List (Addr×Obj)}{σ:St}{H:Hp}{s s':ω}
theorem Inv.env0(I:Inv X pins σ H s):rC X.prog X.w X.K X.mg X.base X.A X.stack s H :=
 ⟨I.ok.frames,I.ok.mod,I.bs,ip I.ok.bsz I.sz,I.stack,I.stkFree,I.hok,I.bare⟩
theorem Inv.after(I:Inv X pins σ H s)(h:CE X.stack X.prog X.w H s Q u s'):EP X pins σ Q u s':=by
 obtain⟨v,H',os,bare,un,hok,r,q⟩:=h;obtain⟨hh,g,d,t,os'⟩:=s';obtain rfl:os'=s.os:=os;exact⟨v,H',I.call (h':=hh) (g':=g) (d':=d) (t':=t) (ch:=[]) un hok bare (fun b z=>absurd z (by simp)),r,q⟩
end
def aKd (sp:Sp) (dvs:List V) (E:XK) (t:TA):TE:=fun σ H Q=>t σ H fun vs H1=>sp (vs++dvs) H1 Q E
def aPa (C:Addr) (m:Str) (sp:Sp) (dvs:List V) (E:XK) (ta:TE) (t:TA):TE:=fun σ H Q=>ta σ H fun x H1=>∃a dx fs,x=.ref a/\H1 a=some (.ins C dx fs)/\fs.lookup m=none ∧
 t σ H1 fun vs H2=>sp (x::(vs++dvs)) H2 Q E
def aNx (C:Addr) (sp:Sp) (dvs:List V) (E:XK) (t:TA):TE:=fun σ H Q=>t σ H fun vs H1=>∀x dx,H1 x=none->H1 dx=none->dx≠x →
 sp (.ref x::(vs++dvs)) (upd (upd H1 dx (.own x)) x (.ins C dx [])) (fun v H2=>v=.non/\Q (.ref x) H2) E
def Binds (K:Ξ) (fd:uo) (ps:List Str) (ds:List Value):Prop :=
 ∀(s:ω) (us:List Value),K.In s.heap->(us++ds).length=ps.length->BindsTo s fd ⟨us,[]⟩ (ps.zip (us++ds))
theorem Binds.all{K:Ξ}{ps:List Str}(h:∀us:List Value,us.length=ps.length->bindArgs fd ⟨us,[]⟩=pure (ps.zip us)):Binds K fd ps []:=fun s us _ hl=>by
 rw[jy]at hl ⊢;exact .of_eq (h us hl)
def zT (CX:CXT) (X:Cx) (E:XK):Prop:=∀(pins:List (Addr×Obj)) (σ:St) (H:Hp) (s:ω) (e:Value) (s':ω),Inv X pins σ H s->CX X.stack H s E e s'->X.xe e s'
section
variable {X:Cx}{CX:CXT}{k:Nat}{f C:Addr}{fd:uo}{ps:List Str}{sp:Sp}{dvs:List V}{ds:List Value}{E:XK}{x m:Str}{p pos apos:Pos}{e o:Expr}{es:List Expr}{ta:TE}{t:TA}
theorem tE{Q:VK}(F:kH X.prog X.w X.K X.mg X.base CX k f fd ps sp)(hr:xH k X.A)(hb:Binds X.K fd ps ds)(hd:kM dvs ds)(hx:zT CX X E)
  (I:Inv X pins σ H s)(r:kM vs us)(h:sp (vs++dvs) H Q E):iz (jh X.prog X.w) X.A (call (.ref f) us) (EP X pins σ Q) X.xe s:=by
 have r2:kM (vs++dvs) (us++ds):=r.append hd;have hl:(us++ds).length=ps.length:=by rw[←r2.length];exact F.len _ _ _ _ h
 refine wpAny_call (codeAny_mono (F.run X.A X.stack s H ⟨us,[]⟩ (us++ds) (vs++dvs) Q E hr I.env0 (hb s us I.kIn hl) r2 h) fun r s' hq=>?_);cases r with
 |error e=>exact hx pins σ H s e s' I hq
 |ok fl =>
  cases fl with
  |ret u=>exact I.after hq
  |next=>exact kn hq
  |brk=>exact kn hq
  |cont=>exact kn hq
theorem aNc(F:kH X.prog X.w X.K X.mg X.base CX k f fd ps sp)(hr:xH k X.A)(hg:Gl X x)(hm:X.mg x=some (.ref f))(hk:keepIn X.K (.ref f)=true)(hb:Binds X.K fd ps ds)(hd:kM dvs ds)(hx:zT CX X E)
  (ha:PA X (e::es) t)(hdb:(x == ("__debug__" : Str))=false:=by decide)(he:jl (e::es) X.env=(false,eval e X.env)::jl es X.env:=by rfl)(hpl:(wl pos (jl es X.env)).any (·.1)=false:=by rfl):
  PE X (.Call (.Name x p) (e::es) [] pos) (aKd sp dvs E t):=by
 intro pins s σ H Q I h;refine xi (uM I hg hm ?_ hdb);refine PySem.W.callWith_K (h₀:=X.base) I.ok.mod.kin hk (thn (ha pos pins s σ H _ I h) fun us s1 zq=>zq.el fun vs H1 I1 r q=>⟨I1.kIn,?_⟩) he hpl;exact tE F hr hb hd hx I1 r q
theorem aJy(he:PE X o ta)(c:Cls X.K C)(hm:Meth X.K C m f)(F:kH X.prog X.w X.K X.mg X.base CX k f fd ps sp)(hr:xH k X.A)(hb:Binds X.K fd ps ds)(hd:kM dvs ds)(hx:zT CX X E)
  (ht:eval (.Call (.Attribute o m apos) [] [] pos) X.env=(do
   let ov ←eval o X.env
   standAt apos.atName
   let (f,first) ←holding [ov] (getMethod ov m pl)
   callWith pos f first (wl pos (jl [] X.env)) (backToKw pos (keywordEach [] X.env))):=by rfl):
  PE X (.Call (.Attribute o m apos) [] [] pos) (aPa C m sp dvs E ta aJp):=by
 intro pins s σ H Q I h;refine yc (pl:=pl) (thn (he pins s σ H _ I h) fun u s1 zq=>?_) ht;obtain⟨x,H1,I1,rx,a,dx,fs,ex,ea,l,q⟩:=zq;subst ex;obtain rfl:u=km a:=rx;refine fJ I1 ea c hm l ?_;exact PySem.W.callWith_K0 (first:=[.ref a]) I1.kIn hm.kp (tE (us:=[.ref a]) (vs:=[.ref a]) F hr hb hd hx I1 (.cons rfl .nil) q)
structure Mk (K:Ξ) (C f:Addr):Prop where
 makes:PySem.W.makesIn K C=true
 init:ud K (.ref C) "__init__" = some (some (.ref f))
 fn:isFn K (.ref f)=true
 kp:keepIn K (.ref C)=true
theorem aHw{H:Hp}{Q:VK}(M:Mk X.K C f)(F:kH X.prog X.w X.K X.mg X.base CX k f fd ps sp)(hr:xH (k+1) X.A)(hb:Binds X.K fd ps ds)(hd:kM dvs ds)
  (hx:zT CX X E)(I:Inv X pins σ H s)(r:kM vs us)
  (h:∀x dx,H x=none->H dx=none->dx≠x->sp (.ref x::(vs++dvs)) (upd (upd H dx (.own x)) x (.ins C dx [])) (fun v H2=>v=.non/\Q (.ref x) H2) E):
  iz (jh X.prog X.w) X.A (call (.ref C) us) (EP X pins σ Q) X.xe s:=by
 have hq:=h (s.heap.objs.size+1) s.heap.objs.size (I.hok.fresh (ug _)) (I.hok.fresh (ν _)) (ja (wf _));have I2:=Inv.made (C:=C) I;have r2:kM (V.ref (s.heap.objs.size+1)::(vs++dvs)) (km (s.heap.objs.size+1)::(us++ds)):=.cons rfl (r.append hd);have hl:(km (s.heap.objs.size+1)::us++ds).length=ps.length:=by
  have e:=r2.length;rw[F.len _ _ _ _ hq]at e;exact e.symm
 refine wpAny_call (aKo (f:=f) I.kIn M.makes M.init (beq_iff_eq.mp M.fn) (codeAny_mono (F.run _ X.stack _ _ ⟨km (s.heap.objs.size+1)::us,[]⟩ (km (s.heap.objs.size+1)::(us++ds)) _ _ E (hr.make C us [])
  (I2.env0.make C us []) (hb _ (km (s.heap.objs.size+1)::us) I2.kIn hl) r2 hq) fun r s' hq'=>?_))
 cases r with
 |error e=>exact hx pins σ _ _ e s' I2 hq'
 |ok fl =>
  cases fl with
  |ret u =>
   obtain⟨v,H',I3,rv,ev,q3⟩:=I2.after hq';subst ev;exact⟨rv,⟨V.ref (s.heap.objs.size+1),H',I3,rfl,q3⟩⟩
  |next=>exact kn hq'
  |brk=>exact kn hq'
  |cont=>exact kn hq'
theorem aNg(M:Mk X.K C f)(F:kH X.prog X.w X.K X.mg X.base CX k f fd ps sp)(hr:xH (k+1) X.A)(hg:Gl X x)(hm:X.mg x=some (.ref C))(hb:Binds X.K fd ps ds)(hd:kM dvs ds)(hx:zT CX X E)
  (ha:PA X (e::es) t)(hdb:(x == ("__debug__" : Str))=false:=by decide)(he:jl (e::es) X.env=(false,eval e X.env)::jl es X.env:=by rfl)(hpl:(wl pos (jl es X.env)).any (·.1)=false:=by rfl):
  PE X (.Call (.Name x p) (e::es) [] pos) (aNx C sp dvs E t):=by
 intro pins s σ H Q I h;refine xi (uM I hg hm ?_ hdb);refine PySem.W.callWith_K (h₀:=X.base) I.ok.mod.kin M.kp (thn (ha pos pins s σ H _ I h) fun us s1 zq=>zq.el fun vs H1 I1 r q=>⟨I1.kIn,?_⟩) he hpl;exact aHw M F hr hb hd hx I1 r q
end
structure jM (N P:List Str) (sc:Scope):Prop where
 kind:sc.kind=.function
 co:sc.isCoroutine=false
 gen:sc.isGenerator=false
 nd:N.Nodup
 pre:N.take P.length=P
 par:∀x∈P,sc.names.lookup x=some .local\/sc.names.lookup x=some .cell
 nofree:∀y∈sc.names,y.2≠.free
theorem sC{kindOf:Str->Option NameKind}{x:Str}: ∀{binds:List (Str×Value)}{m:Str->Option Value},(∀v,(x,v)∉binds)->bindL kindOf binds m x=m x
 |[],_,_=>rfl
 | (n,v)::r,m,h=>by
  unfold bindL;rw[sC fun w hw=>h w (ς _ hw)]
  split
  ·have:x≠n:=by rintro rfl;exact h v ρ
   simp[this]
  ·rfl
theorem sI{kindOf:Str->Option NameKind}{x:Str}: ∀{binds:List (Str×Value)}{m:Str->Option Value},(∀v,(x,v)∉binds)->bindC kindOf binds m x=m x
 |[],_,_=>rfl
 | (n,v)::r,m,h=>by
  unfold bindC;rw[sI fun w hw=>h w (ς _ hw)]
  split
  ·rfl
  ·have:x≠n:=by rintro rfl;exact h v ρ
   simp[this]
theorem rQ{kindOf:Str->Option NameKind}: ∀{P:List Str}{vs:List Value}{i:Nat}{m:Str->Option Value},P.Nodup->P[i]?=some x->vs[i]?=some v->kindOf x=some .local →
  bindL kindOf (P.zip vs) m x=some v
 |[],_,_,_,_,h,_,_=>by simp at h
 |_::_,[],_,_,_,_,h,_=>by simp at h
 |p::P,w::vs,0,m,nd,h1,h2,hk=>by
  simp at h1 h2;subst h1;subst h2;show bindL kindOf ((p,w)::P.zip vs) m p=_;unfold bindL;rw[sC fun v hv=>(md.mp nd).1 (List.of_mem_zip hv).1,if_pos hk];simp
 |p::P,w::vs,i+1,m,nd,h1,h2,hk=>by
  show bindL kindOf ((p,w)::P.zip vs) m x=_;unfold bindL;exact rQ (i:=i) (md.mp nd).2 (by simpa using h1) (by simpa using h2) hk
theorem sR{kindOf:Str->Option NameKind}: ∀{P:List Str}{vs:List Value}{i:Nat}{m:Str->Option Value},P.Nodup->P[i]?=some x->vs[i]?=some v->kindOf x≠some .local →
  bindC kindOf (P.zip vs) m x=some v
 |[],_,_,_,_,h,_,_=>by simp at h
 |_::_,[],_,_,_,_,h,_=>by simp at h
 |p::P,w::vs,0,m,nd,h1,h2,hk=>by
  simp at h1 h2;subst h1;subst h2;show bindC kindOf ((p,w)::P.zip vs) m p=_;unfold bindC;rw[sI fun v hv=>(md.mp nd).1 (List.of_mem_zip hv).1,if_neg hk];simp
 |p::P,w::vs,i+1,m,nd,h1,h2,hk=>by
  show bindC kindOf ((p,w)::P.zip vs) m x=_;unfold bindC;exact sR (i:=i) (md.mp nd).2 (by simpa using h1) (by simpa using h2) hk
def start (N:List Str) (vs:List V):St:=vs.map some++jz (N.length-vs.length) none
def aDc (CX:CXT) (P:mf) (w:oo) (K:Ξ) (mg:Str->Option Value) (base:mv) (N:List Str) (qual:Str) (scope:Scope) (f:Addr) (cd:Value) (A:mn) (outer:List Env) (s:ω) (H:Hp) (E:XK):Cx where
 prog:=P
 w:=w
 K:=K
 mg:=mg
 base:=base
 A:=A.deeper (envOfC qual scope s.heap.objs.size f cd)
 N:=N
 s₀:=s
 H₀:=H
 env:=envOfC qual scope s.heap.objs.size f cd
 outer:=outer
 stack:=envOfC qual scope s.heap.objs.size f cd::outer
 ex:=[]
 calm:=true
 fn:=fun _=>true
 pn:=[]
 xe:=fun e s'=>iz (jh P w) (A.deeper (envOfC qual scope s.heap.objs.size f cd)) (leaving (envOfC qual scope s.heap.objs.size f cd) e) (fun _ s''=>CX outer H s E e s'') (fun e' s''=>CX outer H s E e' s'') s'
theorem aBk{sc:Scope}(h:sc.names.lookup x=some .cell):∃c,(cellsFrom n sc.names []).lookup x=some c:=by
 have q:=PySem.W.cellsFrom_some sc.names n [] (.inl h);exact qm.mp q
theorem aGr{K:Ξ}{A:mn}{vs:List V}
  (S:jM N ps scope)(hd:A.handled=none)(e0:rC P w K mg base A outer s H)(hl:vs.length=ps.length)(r:kM vs us)
  (x:InCallC s s.heap.objs.size (bindL (envOfC qual scope s.heap.objs.size f cd).kindOf (ps.zip us) fun _=>none) (cellsFrom (s.heap.objs.size+1) scope.names []) (bindC (envOfC qual scope s.heap.objs.size f cd).kindOf (ps.zip us) fun _=>none) s1):
  Inv (aDc CX P w K mg base N qual scope f cd A outer s H E) [] (start N vs) H s1:=by
 have hpl:ps.length<=N.length:=by have:=congrArg List.length S.pre;rw[Θ]at this;omega
 obtain⟨h1,tk,rfl,hk⟩:=x.done;have noA:∀b:Addr,b∉(aDc CX P w K mg base N qual scope f cd A outer s H E).ex:=fun b z=>absurd (show b∈([]:List Addr) from z) (by simp);refine⟨⟨e0.mod,S.kind,rfl,rfl,ν _,fun y z c h1 h2=>?_,fun y hy=>?_,fun y c _ h=>?_,fun _=>hd,mn.frames_deeper e0.frames,.inr ⟨rfl,rfl⟩,fun b z=>absurd z (noA b),e0.bs,e0.bsz,fun b _ _=>noA b,fun b z=>absurd z (noA b),e0.funs,e0.frf⟩,
  rfl,e0.bare,Un.kept hk,⟨_,x.toInCall.ns,fun i y v h1 h2 h3=>?_⟩,fun y c h=>⟨_,x.cell y c h⟩,e0.hok.fresh (ν _),fun y c h=>?_,fun p hp=>absurd (show p∈([]:List (Addr×Obj)) from hp) (by simp),e0.hok.kept hk,?_⟩
 ·exact name_of_addr x.apart (nh h1) (nh h2)
 ·have hy:scope.names.lookup y=some .cell\/scope.names.lookup y=some .free:=hy;rcases hy with hy|hy
  ·exact aBk hy
  ·exact absurd rfl (S.nofree _ (nh hy))
 ·exact ql (x.above y c (nh h))
 ·have hi:i<vs.length:=by
   unfold start at h2
   by_cases hi:i<vs.length
   ·exact hi
   ·rw[ie (by simpa using hi)]at h2;rw[List.getElem?_replicate]at h2
    split at h2 <;> cases h2
  have ha:vs[i]?=some v:=by
   unfold start at h2;rw[ir (by simpa using hi),ig]at h2;cases e:vs[i]? with
   |none=>rw[e]at h2;cases h2
   |some a=>rw[e]at h2;cases h2;rfl
  obtain⟨u,hu,rv⟩:=r.get ha;have hp:ps[i]?=some y:=by
   rw[←S.pre,oy (by omega)];exact h1
  have ndP:ps.Nodup:=by rw[←S.pre];exact S.nd.sublist (List.take_sublist _ _)
  refine⟨u,rv,?_⟩;rcases S.par y (ι hp) with k|k
  ·exact .inl ⟨k,rQ ndP hp hu k⟩
  ·obtain⟨c,e⟩:=aBk (n:=s.heap.objs.size+1) k;refine .inr ⟨.inl k,c,e,?_⟩;have q:=x.cell y c e;rw[sR ndP hp hu (by show scope.names.lookup y≠_;rw[k];decide)]at q;exact q
 ·exact e0.hok.fresh (ql (x.above y c (nh h)))
 ·unfold start;show _=N.length;rw[θ,δ,mw];omega
theorem fn_of{CX:CXT}{P:mf}{w:oo}{K:Ξ}{mg:Str->Option Value}{base:mv}{k:Nat}{f:Addr}{name qual:Str}{params:Arguments}{body:List Stmt}{scope:Scope}{dV kV doc pm cdv ct oc:Value}{an od:Option Addr}
  {osl:Array (Option Value)}{N ps:List Str}{sp:Sp}(lk:K.lookup f=some ⟨oc,od,.func (fnOf name qual params body scope dV kV doc pm an cdv ct),osl⟩)(hcd:codeIn K cdv qual=true)(S:jM N ps scope)
  (len:∀vs H Q E,sp vs H Q E->vs.length=ps.length)
  (hbody:∀(A:mn) (outer:List Env) (s:ω) (H:Hp) (vs:List V) (Q:VK) (E:XK),xH k (A.deeper (envOfC qual scope s.heap.objs.size f cdv))->sp vs H Q E →
   ∃t,PSs (aDc CX P w K mg base N qual scope f cdv A outer s H E) body t/\t { nx:=fun _ H'=>Q .non H',rt:=Q } (start N vs) H):
  kH P w K mg base CX (k+1) f (fnOf name qual params body scope dV kV doc pm an cdv ct) ps sp:=by
 refine⟨len,fun A outer s H args us vs Q E hr e0 hb r hsp=>?_⟩;have hl:=len _ _ _ _ hsp;have KX:K.In s.heap:=e0.mod.kin.keeps fun b o e=>(e0.bs b o e).1;have lim:s.heap.NoLimit:=e0.mod.nolimit.keeps fun b o e=>(e0.bs b o e).1;have hkind:∀y∈ps.zip us,scope.names.lookup y.1=some .local\/(scope.names.lookup y.1=some .cell/\((cellsFrom (s.heap.objs.size+1) scope.names []).lookup y.1).isSome=true):=fun ⟨n,v⟩ hy=>by
  rcases S.par n (List.of_mem_zip hy).1 with q|q
  ·exact .inl q
  ·exact .inr ⟨q,PySem.W.cellsFrom_some _ _ _ (.inl q)⟩
 refine codeAny_call_function hr.depth (KX _ _ lk) rfl S.co S.gen rfl (PySem.W.codeRec_of KX hcd) (hb _ _ _ _ ?_);refine wpAny_newFunctionEnv_cells S.kind hkind fun env he s1 x=>?_;subst he;refine⟨lim.keeps x.toInCall.keep,codeAny_func ?_⟩;obtain⟨t,ht,hq⟩:=hbody A outer s H vs Q E (hr.deeper _) hsp;have I:Inv (aDc CX P w K mg base N qual scope f cdv A outer s H E) [] (start N vs) H s1:=aGr S hr.hd e0 hl r x;refine ny (ht [] s1 (start N vs) H _ I hq) (fun fl s' hs=>?_) fun e s' hs=>hs;have fin:∀{σ':St}{H':Hp}{v:V}{u:Value},Inv (aDc CX P w K mg base N qual scope f cdv A outer s H E) [] σ' H' s'->RelV v u->Q v H'->CE outer P w H s Q u s' :=
  fun {σ' H' v u} J rv q=>⟨v,H',J.os,J.bare,J.base,J.hok,rv,q⟩
 cases fl with
 |ret u =>
  obtain⟨v,σ',H',J,rv,q⟩:=hs;exact fin J rv q
 |next =>
  obtain⟨σ',H',J,q⟩:=hs;exact fin (v:=V.non) (u:=sg) J rfl q
 |brk =>
  obtain⟨_,_,_,q⟩:=hs;exact kn q
 |cont =>
  obtain⟨_,_,_,q⟩:=hs;exact kn q
section
variable {X:Cx}{x:Str}{p pos:Pos}{e:Expr}{es:List Expr}{t:TA}{id T:String}{r:List V->Hp->VK->Prop}
def tCB (r:List V->Hp->VK->Prop) (t:TA):TE:=fun σ H Q=>t σ H fun vs H1=>r vs H1 Q
theorem jG(hc:vK X (.builtin id) r)(hg:Gl X x)(hm:X.mg x=none)(hv:my x=some (.builtin id))(ha:PA X (e::es) t)(hn:x ≠ "__name__":=by decide)(hdb:(x == ("__debug__" : Str))=false:=by decide)
  (he:jl (e::es) X.env=(false,eval e X.env)::jl es X.env:=by rfl)(hpl:(wl pos (jl es X.env)).any (·.1)=false:=by rfl):PE X (.Call (.Name x p) (e::es) [] pos) (tCB r t):=by
 intro pins s σ H Q I h;refine xi (lA I hg hm hv ?_ hn hdb);exact PyProof.Rows.callWith_builtin1 (thn (ha pos pins s σ H _ I h) fun us s1 zq=>zq.el fun vs H1 I1 r1 q1=>hc pins s1 σ H1 vs us Q I1 r1 q1) he hpl
theorem kY(hc:vK X (.type T) r)(hg:Gl X x)(hm:X.mg x=none)(hv:my x=some (.type T))(ha:PA X (e::es) t)(hn:x ≠ "__name__":=by decide)(hdb:(x == ("__debug__" : Str))=false:=by decide)
  (he:jl (e::es) X.env=(false,eval e X.env)::jl es X.env:=by rfl)(hpl:(wl pos (jl es X.env)).any (·.1)=false:=by rfl):PE X (.Call (.Name x p) (e::es) [] pos) (tCB r t):=by
 intro pins s σ H Q I h;refine xi (lA I hg hm hv ?_ hn hdb);exact qy (thn (ha pos pins s σ H _ I h) fun us s1 zq=>zq.el fun vs H1 I1 r1 q1=>hc pins s1 σ H1 vs us Q I1 r1 q1) he hpl
end
end L2
namespace HT
open PySem PyProof.Rows
section
open PySem.SeqAt
open PySem.AutoSeq1 (wpAny_loadPart')
open PySem.MeetsSeq PySem.MeetsSeq2 PySem.MeetsSeq3
end
section
variable {prog:mf}{w:oo}{A:mn}{E:Value->ω->Prop}{s:ω}
theorem cat_tup{vs ws:List Value}{Q:Value->ω->Prop}(ht:IsTup s.heap t vs.toArray)(hb:IsTup s.heap b ws.toArray)(hv:vs≠[])
  (h1:ws=[]->Q (.ref t) s)(h2:ws≠[]->Q (.ref s.heap.objs.size) { s with heap:=s.heap.push { cls:=.type "tuple",data:=.seq (vs++ws).toArray } })
  (hsz:vs.length+ws.length<=ψ):iz (jh prog w) A (qo .Add (.ref t) (.ref b)) Q E s:=by
 obtain⟨⟨cls,dd,data,sl⟩,ho,hc,n,hd⟩:=id ht;obtain⟨⟨cls2,dd2,data2,sl2⟩,ho2,hc2,n2,hd2⟩:=id hb;simp only at hc hd hc2 hd2;subst hc hd hc2 hd2;have e:vs.toArray++ws.toArray=(vs++ws).toArray:=by simp
 by_cases hw:ws=[]
 ·exact concat_meets ⟨_,ho,rfl⟩ ⟨_,ho2,rfl⟩ noFill_tuple_add seq_tuple_add xp xn (wx _ _)
   (tuple_addW1 t b vs.toArray ws.toArray n n2 dd dd2 sl sl2 (by simpa using hv) (by simp[hw])) ⟨ho,ho2,h1 hw⟩
 ·refine concat_meets ⟨_,ho,rfl⟩ ⟨_,ho2,rfl⟩ noFill_tuple_add seq_tuple_add xp xn (wx _ _)
   (tuple_addW2 t b vs.toArray ws.toArray n n2 dd dd2 sl sl2 (by simpa using hv) (by simpa using hw) (by rw[Φ,Φ];exact hsz)) ⟨ho,ho2,?_⟩
  rw[e];exact h2 hw
def sIx (n d:Nat):Option Int->Nat
 |none=>d
 |some v=>if v<0 then (v+(n:Int)).toNat else min v.toNat n
theorem sIx_none(n d:Nat):sIx n d none=d:=rfl
theorem sIx_nat(n d k:Nat):sIx n d (some (k:Int))=min k n:=by
 show(if (k:Int)<0 then ((k:Int)+(n:Int)).toNat else min (k:Int).toNat n)=min k n;rw[if_neg (by omega),oe]
end
end HT
namespace L2
open PySem PySem.Spec PyProof.Rows
abbrev TO:=St->Hp->(Option Int->Hp->Prop)->Prop
def PO (X:Cx) (e:Option Expr) (t:TO):Prop :=
 ∀(pins:List (Addr×Obj)) (s:ω) (σ:St) (H:Hp) (Q:Option Int->Hp->Prop),Inv X pins σ H s->t σ H Q →
  iz (jh X.prog X.w) X.A (evalPart e X.env) (fun u s'=>∃o H',Inv X pins σ H' s'/\IsPart u o/\Q o H') X.xe s
def aMo:TO:=fun _ H Q=>Q none H
inductive aGb (Q:Option Int->Hp->Prop) (x:V) (H1:Hp):Prop|mk:∀i,x=.int i->Q (some i) H1->aGb Q x H1
def tPart (t:TE):TO:=fun σ H Q=>t σ H fun x H1=>aGb Q x H1
theorem intsAre_of{ns:List Int}: ∀{us:List Value},kM (ns.map V.int) us->IntsAre us ns:=by
 induction ns with
 |nil=>intro us r;rw[List.map_nil]at r;cases r;exact .nil
 |cons n ns ih =>
  intro us r;rw[jx]at r;cases r with
  |cons r1 r2 =>
   obtain⟨t,e⟩:=r1;subst e;exact .cons n t (ih r2)
section
variable {X:Cx}{e:Expr}{te:TE}{lo hi:Option Expr}{tl th:TO}{pos p2:Pos}
theorem yJ:PO X none aMo:=by
 intro pins s σ H Q I h;rw[evalPart_none];exact iy ⟨none,H,I,.none,h⟩
theorem yL(h:PE X e te):PO X (some e) (tPart te):=by
 intro pins s σ H Q I hw;rw[evalPart_some];refine thn (h pins s σ H _ I hw) fun u s1 zq=>?_;obtain⟨x,H1,I1,r1,q1⟩:=zq;obtain⟨i,rfl,q⟩:=q1;obtain⟨t,rfl⟩:=r1;exact⟨some i,H1,I1,.int i t,q⟩
def SlR (X:Cx) (r:V->Option Int->Option Int->Hp->VK->Prop):Prop :=
 ∀(pins:List (Addr×Obj)) (s:ω) (σ:St) (H:Hp) (x:V) (v vl vu:Value) (lo hi:Option Int) (sl:Addr) (Q:VK),Inv X pins σ H s->RelV x v->s.heap.IsSliceOf sl vl vu .none->IsPart vl lo->IsPart vu hi->r x lo hi H Q →
  ∃T id,typeLookup (.type T) "__getitem__" = pure (some (.builtin id))/\s.TypeIs v T/\iz (jh X.prog X.w) X.A (getItem v (.ref sl)) (EP X pins σ Q) X.xe s
theorem SlR.or{r r':V->Option Int->Option Int->Hp->VK->Prop}(h:SlR X r)(h':SlR X r'):SlR X (fun x lo hi H Q=>r x lo hi H Q\/r' x lo hi H Q):=by
 intro pins s σ H x v vl vu lo hi sl Q I rx hs pl pu q;rcases q with q|q
 ·exact h pins s σ H x v vl vu lo hi sl Q I rx hs pl pu q
 ·exact h' pins s σ H x v vl vu lo hi sl Q I rx hs pl pu q
def tSl (r:V->Option Int->Option Int->Hp->VK->Prop) (te:TE) (tl th:TO):TE:=fun σ H Q=>te σ H fun x H1=>tl σ H1 fun l H2=>th σ H2 fun u H3=>r x l u H3 Q
theorem xJ(hr:SlR X r)(he:PE X e te)(hl:PO X lo tl)(hu:PO X hi th):PE X (.Subscript e (.Slice lo hi none p2) pos) (tSl r te tl th):=by
 intro pins s σ H Q I h;refine Subscript_ (thn (he pins s σ H _ I h) fun v s1 zq=>?_);obtain⟨x,H1,I1,r1,q1⟩:=zq;refine wpAny_Slice (thn (hl pins s1 σ H1 _ I1 q1) fun vl s2 ⟨l,H2,I2,pl,q2⟩=>thn (hu pins s2 σ H2 _ I2 q2) fun vu s3 zq=>?_);obtain⟨u,H3,I3,pu,q3⟩:=zq;rw[evalPart_none];refine iy ?_;have I4:Inv X pins σ H3 { s3 with heap:=s3.heap.push { cls:=.type "slice",data:=.fields #[vl,vu,.none] } }:=I3.kept (t':=s3.toks) fun b ob q=>τ _ q;obtain⟨T,id,hT,ht,hg⟩:=hr pins { s3 with heap:=s3.heap.push { cls:=.type "slice",data:=.fields #[vl,vu,.none] } } σ H3 x v vl vu l u s3.heap.objs.size Q I4 r1 (mv.IsSliceOf.new ..) pl pu q3;show iz (jh X.prog X.w) X.A (subscriptTail e (.Slice lo hi none p2) v (.ref s3.heap.objs.size)) (EP X pins σ Q) X.xe { s3 with heap:=s3.heap.push { cls:=.type "slice",data:=.fields #[vl,vu,.none] } };exact tail_any (ops:=[.ref s3.heap.objs.size,v]) ht hT hg (by with_unfolding_all rfl)
def eK (xs:List V) (lo hi:Option Int):List V:=(xs.drop (HT.sIx xs.length 0 lo)).take (HT.sIx xs.length xs.length hi-HT.sIx xs.length 0 lo)
theorem aAw(xs:List V)(lo hi:Option Int):(eK xs lo hi).length<=xs.length:=by
 unfold eK;rw[Θ,wg];omega
def rCatT (K:Ξ):R2:=fun x y H Q=>∃a b xs ys,x=.ref a/\y=.ref b/\SqT K H a xs/\SqT K H b ys/\xs≠[]/\xs.length+ys.length<=ψ ∧
 (ys=[]->Q (.ref a) H)/\(ys≠[]->∀p,H p=none->Q (.ref p) (upd H p (.tup (xs++ys))))
theorem kM.nil_iff(r:kM xs us):us=[] ↔ xs=[]:=by
 cases r with
 |nil=>simp
 |cons _ _=>simp
theorem aMn:OpR X (qo .Add) (rCatT X.K):=by
 intro pins s σ H x y v u Q I rx ry h;obtain⟨a,b,xs,ys,rfl,rfl,ha,hb,hx,hz,q1,q2⟩:=h;cases rx;cases ry;obtain⟨its,r1,p1,_⟩:=I.tuple ha;obtain⟨its2,r2,p2,_⟩:=I.tuple hb;refine HT.cat_tup p1 p2 (fun z=>hx (r1.nil_iff.mp z)) (fun z=>⟨.ref a,H,I,rfl,q1 (r2.nil_iff.mp z)⟩) (fun z=>?_) (by rw[←r1.length,←r2.length];exact hz);refine⟨.ref s.heap.objs.size,_,I.laid (t':=s.toks) (o:=.tup (xs++ys)) (fun b ob q=>τ _ q) (ν _) ?_,rfl,q2 (fun w=>z (r2.nil_iff.mpr w)) _ (I.hok.fresh (ν _))⟩;exact⟨by rw[θ];exact hz,_,r1.append r2,IsTup.new _ _⟩
end
def ixN (n:Nat) (i:Int):Option Nat:=if 0<=i then (if i<n then some i.toNat else none) else if -(n:Int)<=i then some (i+n).toNat else none
def atI {α : Type}(xs:List α) (i:Int):Option α:=(ixN xs.length i).bind fun j=>xs[j]?
theorem aEf{i:Int}(h:ixN n i=some j):seqIndex? i n=some j/\j<n/\-(n:Int)<=i/\i<n:=by
 unfold ixN at h
 by_cases h0 : 0<=i
 ·rw[if_pos h0]at h
  by_cases h1:i<n
  ·rw[if_pos h1]at h;have e:i.toNat=j:=kf h;exact⟨by rw[seqIndex_of h0 h1,e],by omega,by omega,h1⟩
  ·rw[if_neg h1]at h;cases h
 ·rw[if_neg h0]at h
  by_cases h1 : -(n:Int)<=i
  ·rw[if_pos h1]at h;have e:(i+n).toNat=j:=kf h;exact⟨by rw[seqIndex_neg (by omega) h1,e],by omega,h1,by omega⟩
  ·rw[if_neg h1]at h;cases h
theorem sW{α : Type}{xs:List α}{i:Int}{v : α}(h:atI xs i=some v):∃j,seqIndex? i xs.length=some j/\xs[j]?=some v/\j<xs.length/\-(xs.length:Int)<=i/\i<xs.length:=by
 unfold atI at h;cases e:ixN xs.length i with
 |none=>rw[e]at h;cases h
 |some j =>
  rw[e]at h;obtain⟨h1,h2,h3,h4⟩:=aEf e;exact⟨j,h1,h,h2,h3,h4⟩
theorem qR{α : Type}{xs:List α}{j:Nat}{v : α}(h:xs[j]?=some v):atI xs (j:Int)=some v:=by
 have hj:j<xs.length:=(ε.mp h).1;have e:ixN xs.length (j:Int)=some j:=by
  unfold ixN;rw[if_pos (by omega),if_pos (by omega)];simp
 unfold atI;rw[e];exact h
def uZ (b:Expr):Prop:=∀o i,subscripted b false o i=operate [o,i] (getItem o i)
def IxR (X:Cx) (r:R2):Prop :=
 ∀(value slice:Expr) (pins:List (Addr×Obj)) (s:ω) (σ:St) (H:Hp) (x y:V) (v u:Value) (Q:VK),Inv X pins σ H s->RelV x v->RelV y u->r x y H Q →
  subscripted slice false v u=operate [v,u] (getItem v u)->iz (jh X.prog X.w) X.A (subscriptTail value slice v u) (EP X pins σ Q) X.xe s
def MtR (X:Cx) (id:String) (r:V->List V->Hp->VK->Prop):Prop :=
 ∀(pins:List (Addr×Obj)) (s:ω) (σ:St) (H:Hp) (x:V) (xs:List V) (v:Value) (us:List Value) (Q:VK),Inv X pins σ H s->RelV x v->kM xs us->r x xs H Q →
  iz (jh X.prog X.w) X.A (call (.builtin id) (v::us)) (EP X pins σ Q) X.xe s
section
variable {X:Cx}{a b:Expr}{ta tb:TE}{pos:Pos}
theorem IxR.or{r r':R2}(h:IxR X r)(h':IxR X r'):IxR X (fun x y H Q=>r x y H Q\/r' x y H Q):=by
 intro value slice pins s σ H x y v u Q I rx ry q hs;rcases q with q|q
 ·exact h value slice pins s σ H x y v u Q I rx ry q hs
 ·exact h' value slice pins s σ H x y v u Q I rx ry q hs
theorem MtR.or{id:String}{r r':V->List V->Hp->VK->Prop}(h:MtR X id r)(h':MtR X id r'):MtR X id (fun x xs H Q=>r x xs H Q\/r' x xs H Q):=by
 intro pins s σ H x xs v us Q I rx rs q;rcases q with q|q
 ·exact h pins s σ H x xs v us Q I rx rs q
 ·exact h' pins s σ H x xs v us Q I rx rs q
theorem aOy(hr:IxR X r)(ha:PE X a ta)(hb:PE X b tb)(hs:uZ b):PE X (.Subscript a b pos) (tOp r ta tb):=by
 intro pins s σ H Q I h;exact Subscript_ (binT ha hb I h fun v u s2 x y H2 I2 rx ry q=>hr a b pins s2 σ H2 x y v u Q I2 rx ry q (hs _ _))
inductive aHv (K:Ξ) (x:V) (y:V) (H:Hp) (Q:VK):Prop|mk:∀p xs i v,x=.ref p->y=.int i->SqL K H p xs->atI xs i=some v->Q v H->aHv K x y H Q
def aJg (K:Ξ):R2:=fun x y H Q=>aHv K x y H Q
inductive aIx (K:Ξ) (x:V) (y:V) (H:Hp) (Q:VK):Prop|mk:∀p xs i v,x=.ref p->y=.int i->SqT K H p xs->atI xs i=some v->Q v H->aIx K x y H Q
def rIxT (K:Ξ):R2:=fun x y H Q=>aIx K x y H Q
def rIxS:R2:=fun x y H Q=>∃z i c,x=.str z/\y=.int i/\z.length<=ψ/\atI z.cps.toList i=some c/\Q (.str ⟨#[c]⟩) H
theorem jU:IxR X (aJg X.K):=by
 intro value slice pins s σ H x y v u Q I rx ry h hs;obtain⟨p,xs,i,z,rfl,rfl,hq,he,q⟩:=h;cases rx;obtain⟨t,rfl⟩:=ry;obtain⟨its,r,pl,hz⟩:=I.list hq;obtain⟨j,h1,h2,h3,h4,h5⟩:=sW he;obtain⟨w,ew,rw'⟩:=r.get h2;have hl:=r.length;have hn:=fR;have fin:EP X pins σ Q w s:=⟨z,H,I,rw',q⟩
 by_cases h0 : 0<=i
 ·have hj:i.toNat=j:=by
   rw[seqIndex_of h0 h5]at h1;exact kf h1
  exact item_listR pl.isList h0 (by omega) (by rw[hj];simpa using ew) fin hs
 ·have hj:(i+(its.toArray.size:Int)).toNat=j:=by
   rw[seqIndex_neg (by omega) h4]at h1;rw[Φ,←hl];exact kf h1
  exact subscriptTail_builtinR (x:=w) pl.isList.typeIs slot_list_getitem.lookup
   (wpAny_getItem_list_neg (Q:=fun r s'=>r=w/\EP X pins σ Q r s') pl.isList (by omega) (by rw[Φ] <;> omega) (by omega) (by rw[hj];simpa using ew) ⟨rfl,fin⟩) hs
theorem jY:IxR X (rIxT X.K):=by
 intro value slice pins s σ H x y v u Q I rx ry h hs;obtain⟨p,xs,i,z,rfl,rfl,hq,he,q⟩:=h;cases rx;obtain⟨t,rfl⟩:=ry;obtain⟨its,r,pl,hz⟩:=I.tuple hq;obtain⟨j,h1,h2,h3,h4,h5⟩:=sW he;obtain⟨w,ew,rw'⟩:=r.get h2;have hl:=r.length;have hn:=fR;have fin:EP X pins σ Q w s:=⟨z,H,I,rw',q⟩;exact subscriptTail_builtinR (x:=w) pl.typeIs slot_tuple_getitem.lookup
  (getItem_tuple (j:=j) (Q:=fun r s'=>r=w/\EP X pins σ Q r s') pl (by omega) (by omega) (by rw[Φ,←hl];exact h1) (by simpa using ew) ⟨rfl,fin⟩) hs
theorem aDf:IxR X rIxS:=by
 intro value slice pins s σ H x y v u Q I rx ry h hs;obtain⟨z,i,c,rfl,rfl,hz,he,q⟩:=h;obtain⟨t,rfl⟩:=rx;obtain⟨t',rfl⟩:=ry;obtain⟨j,h1,h2,h3,h4,h5⟩:=sW he;have hl:z.cps.toList.length=z.length:=by simp[Str.length]
 rw[hl]at h1 h4 h5;have hn:=fR;exact tail_any (typeIs_str s z t) slot_str_getitem.lookup (getItem_str (c:=c) (by
  have e1:decide (i < -(2 ^ 63:Int))=false:=decide_eq_false (by omega);have e2:decide (i≥2 ^ 63)=false:=decide_eq_false (by omega);rw[e1,e2,Bool.or_false]) (by rw[h1];simpa using h2) ⟨.str ⟨#[c]⟩,H,I.tok _,⟨_,rfl⟩,q⟩) hs
theorem aCp(its:List Value)(n j:Nat)(u:Value):ux (·.setIfInBounds j u) { cls:=.type "list",data:=.seq its.toArray n }={ cls:=.type "list",data:=.seq (its.set j u).toArray n }:=by
 simp[ux]
theorem Inv.lst{pins:List (Addr×Obj)}{σ:St}{H:Hp}{s:ω}{p:Addr}{xs:List V}(I:Inv X pins σ H s)(h:H p=some (.lst xs)):
  ∃(its:List Value) (n:Nat),kM xs its/\s.heap.get? p=some { cls:=.type "list",data:=.seq its.toArray n }/\xs.length<=ψ:=by
 obtain⟨z,its,n,r,e⟩:=I.hok p _ h;exact⟨its,n,r,e,z⟩
theorem Inv.lstUpd{H:Hp}{s:ω}{its its':List Value}{f:Obj->Obj}(I:Inv X pins σ H s)(h:H p=some (.lst xs))
  (ho:s.heap.get? p=some { cls:=.type "list",data:=.seq its.toArray n })(hf:f { cls:=.type "list",data:=.seq its.toArray n }={ cls:=.type "list",data:=.seq its'.toArray n' })(r:kM ys its')(hz:ys.length<=ψ)(t:Nat):
  Inv X pins σ (upd H p (.lst ys)) { s with heap:=s.heap.update p f,toks:=t }:=by
 have e:(s.heap.update p f).get? p=some { cls:=.type "list",data:=.seq its'.toArray n' }:=by
  rw[ua f ho (by rw[hf] <;> rfl),hf]
 refine I.write (x:=p) (e:=p) (by rw[h];trivial) (.inl rfl) (fun b u hb q=>(lw _ _ (lm hb)).trans q) ⟨_,e⟩ ?_;exact⟨hz,its',n',r,e⟩
def rSetL:V->V->V->Hp->(Hp->Prop)->Prop:=fun o i v H Q=>∃p xs k j,o=.ref p/\i=.int k/\H p=some (.lst xs)/\ixN xs.length k=some j/\Q (upd H p (.lst (xs.set j v)))
theorem set_list:PSet X rSetL:=by
 intro pins s σ H o i v ov iv u Q I ro ri rv h;obtain⟨p,xs,k,j,rfl,rfl,hp,hj,q⟩:=h;cases ro;obtain⟨t,rfl⟩:=ri;obtain⟨its,n,r,ho,hz⟩:=I.lst hp;obtain⟨h1,h2,h3,h4⟩:=aEf hj;have hl:=r.length;have hn:=fR;have I':Inv X pins σ (upd H p (.lst (xs.set j v))) { s with heap:=s.heap.update p (ux (·.setIfInBounds j u)) } :=
  I.lstUpd hp ho (aCp its n j u) (r.set rv j) (by rw[List.length_set];exact hz) s.toks
 by_cases h0 : 0<=k
 ·have hk:k.toNat=j:=by
   rw[seqIndex_of h0 h4]at h1;exact kf h1
  exact PySem.W.ki_setAt ho h0 (by omega) (by rw[Φ,←hl];exact h4) (by rw[hk];exact⟨_,I',q⟩)
 ·have hk:(k+(its.toArray.size:Int)).toNat=j:=by
   rw[seqIndex_neg (by omega) h3]at h1;rw[Φ,←hl];exact kf h1
  exact PySem.W.ki_setBack ho (by omega) (by rw[Φ,←hl];exact h3) (by omega) (by rw[hk];exact⟨_,I',q⟩)
theorem uY(lo hi:Option Int)(n:Nat):(xo lo hi none n).1=((HT.sIx n 0 lo:Nat):Int)/\(xo lo hi none n).2.1=((HT.sIx n n hi:Nat):Int)/\(xo lo hi none n).2.2=1:=by
 refine⟨?_,?_,rfl⟩
 ·cases lo with
  |none=>simp[xo,HT.sIx]
  |some i =>
   simp only[xo,HT.sIx,Option.getD_none,show(1:Int) > 0 by decide,if_true]
   by_cases h:i<0
   ·simp only[h,if_true] <;> omega
   ·simp only[h,if_false] <;> omega
 ·cases hi with
  |none=>simp[xo,HT.sIx]
  |some i =>
   simp only[xo,HT.sIx,Option.getD_none,show(1:Int) > 0 by decide,if_true]
   by_cases h:i<0
   ·simp only[h,if_true] <;> omega
   ·simp only[h,if_false] <;> omega
theorem pJ(its:List Value)(lo hi:Option Int):slicePick its.toArray lo hi none=((its.drop (HT.sIx its.length 0 lo)).take (HT.sIx its.length its.length hi-HT.sIx its.length 0 lo)).toArray:=by
 obtain⟨h1,h2,h3⟩:=uY lo hi its.toArray.size;unfold slicePick;rw[h1,h2,h3];simp only[sliceRange_one,pick_run,Φ] <;> rfl
inductive aIa (K:Ξ) (x:V) (lo:Option Int) (hi:Option Int) (H:Hp) (Q:VK):Prop|mk:∀a xs,x=.ref a->SqL K H a xs->(∀p,H p=none->Q (.ref p) (upd H p (.lst (eK xs lo hi))))->aIa K x lo hi H Q
def rSlL (K:Ξ):V->Option Int->Option Int->Hp->VK->Prop:=fun x lo hi H Q=>aIa K x lo hi H Q
theorem zH:SlR X (rSlL X.K):=by
 intro pins s σ H x v vl vu lo hi sl Q I rx hs pl pu h;obtain⟨a,xs,rfl,hx,q⟩:=h;cases rx;obtain⟨its,r,ht,hz⟩:=I.list hx;have hlen:=r.length;refine⟨"list",_,slot_list_getitem.lookup,ht.isList.typeIs,?_⟩;refine wpAny_getItem_list_slice ht.isList hs pl pu .none (by simp) ?_ (by rw[Φ] <;> omega);rw[pJ,←hlen];refine⟨.ref s.heap.objs.size,_,I.laid (t':=s.toks) (o:=.lst (eK xs lo hi)) (fun b ob q=>τ _ q) (ν _) ?_,rfl,q _ (I.hok.fresh (ν _))⟩;exact⟨ip (aAw xs lo hi) hz,_,0,(r.drop (HT.sIx xs.length 0 lo)).take (HT.sIx xs.length xs.length hi-HT.sIx xs.length 0 lo),ij _ rfl⟩
def iD:V->Bool
 |.non=>true
 |.bl _=>true
 |.int _=>true
 |.str _=>true
 |_=>false
def eqV:V->V->Bool
 |.non,.non=>true
 |.bl a,.bl b=>a == b
 |.bl a,.int b=>(if a then 1 else 0) == b
 |.int a,.bl b=>a == (if b then 1 else 0)
 |.int a,.int b=>a == b
 |.str a,.str b=>a == b
 |_,_=>false
theorem aRb(ry:RelV y u)(rx:RelV x v)(fy:iD y=true)(fx:iD x=true):ol A s u v (eqV y x):=by
 cases y with
 |non =>
  cases ry;cases x with
  |non=>cases rx;exact ol.same _
  |bl b=>cases rx;exact ol.none_bool b
  |int b=>obtain⟨t,rfl⟩:=rx;exact ol.none_int b t
  |str b=>obtain⟨t,rfl⟩:=rx;exact ol.none_str b t
  |_=>exact absurd (show false=true from fx) υ
 |bl a =>
  cases ry;cases x with
  |non=>cases rx;exact ol.bool_none a
  |bl b=>cases rx;exact ol.bool_bool a b
  |int b=>obtain⟨t,rfl⟩:=rx;exact ol.bool_int a b t
  |str b=>obtain⟨t,rfl⟩:=rx;exact ol.bool_str a b t
  |_=>exact absurd (show false=true from fx) υ
 |int a =>
  obtain⟨t',rfl⟩:=ry;cases x with
  |non=>cases rx;exact ol.int_none a t'
  |bl b=>cases rx;exact ol.int_bool a t' b
  |int b=>obtain⟨t,rfl⟩:=rx;exact ol.int_int a t' b t
  |str b=>obtain⟨t,rfl⟩:=rx;exact ol.int_str a t' b t
  |_=>exact absurd (show false=true from fx) υ
 |str a =>
  obtain⟨t',rfl⟩:=ry;cases x with
  |non=>cases rx;exact ol.str_none a t'
  |bl b=>cases rx;exact ol.str_bool a t' b
  |int b=>obtain⟨t,rfl⟩:=rx;exact ol.str_int a t' b t
  |str b=>obtain⟨t,rfl⟩:=rx;exact ol.str_str a t' b t
  |_=>exact absurd (show false=true from fx) υ
 |_=>exact absurd (show false=true from fy) υ
def eqU (x:V) (u:Value):Bool:=match u with
 |.none=>eqV .non x
 |.bool b=>eqV (.bl b) x
 |.int i _=>eqV (.int i) x
 |.str z _=>eqV (.str z) x
 |_=>false
theorem aJc(r:RelV y u)(f:iD y=true):eqU x u=eqV y x:=by
 cases y with
 |non=>cases r;rfl
 |bl b=>cases r;rfl
 |int i=>obtain⟨t,rfl⟩:=r;rfl
 |str z=>obtain⟨t,rfl⟩:=r;rfl
 |_=>exact absurd (show false=true from f) υ
theorem iE : ∀{xs:List V}{us:List Value},kM xs us->xs.all iD=true->us.any (eqU x)=xs.any fun y=>eqV y x
 |_,_,.nil,_=>rfl
 |y::xs,u::us,.cons r t,f=>by
  rw[List.all_cons,ke]at f;rw[yo,yo,aJc r f.1,iE t f.2]
theorem dX(rx:RelV x v)(fx:iD x=true):∀{xs:List V}{us:List Value},kM xs us->xs.all iD=true->∀u∈us,ol A s u v (eqU x u)
 |_,_,.nil,_=>fun u hu=>by cases hu
 |y::xs,u::us,.cons r t,f=>fun u' hu=>by
  rw[List.all_cons,ke]at f;rcases π.mp hu with rfl|hu
  ·rw[aJc r f.1];exact aRb r rx f.1 fx
  ·exact dX rx fx t f.2 u' hu
def inV (x:V) (xs:List V):Bool:=xs.any fun y=>eqV y x
def rIn (K:Ξ) (neg:Bool):R2:=fun x y H Q=>∃p xs,y=.ref p/\(SqL K H p xs\/SqT K H p xs)/\iD x=true/\xs.all iD=true/\Q (.bl (if neg then !inV x xs else inV x xs)) H
theorem lH:OpR X (mj .In) (rIn X.K false):=by
 intro pins s σ H x y v u Q I rx ry h;obtain⟨p,xs,rfl,hq,fx,fs,q⟩:=h;cases ry;rcases hq with hq|hq
 ·obtain⟨its,r,pl,hz⟩:=I.list hq;refine SeqAt.in_listAt (eqU x) pl.isList (fun w hw=>dX rx fx r fs w (by simpa using hw)) ⟨.bl _,H,I,rfl,?_⟩;rw[show its.toArray.any (eqU x)=its.any (eqU x) by simp,iE r fs];exact q
 ·obtain⟨its,r,pl,hz⟩:=I.tuple hq;refine SeqAt.in_tupleAt (eqU x) pl (fun w hw=>dX rx fx r fs w (by simpa using hw)) ⟨.bl _,H,I,rfl,?_⟩;rw[show its.toArray.any (eqU x)=its.any (eqU x) by simp,iE r fs];exact q
theorem tP:OpR X (mj .NotIn) (rIn X.K true):=by
 intro pins s σ H x y v u Q I rx ry h;obtain⟨p,xs,rfl,hq,fx,fs,q⟩:=h;cases ry;rcases hq with hq|hq
 ·obtain⟨its,r,pl,hz⟩:=I.list hq;refine SeqAt.notIn_listAt (eqU x) pl.isList (fun w hw=>dX rx fx r fs w (by simpa using hw)) ⟨.bl _,H,I,rfl,?_⟩;rw[show its.toArray.any (eqU x)=its.any (eqU x) by simp,iE r fs];exact q
 ·obtain⟨its,r,pl,hz⟩:=I.tuple hq;refine SeqAt.notIn_tupleAt (eqU x) pl (fun w hw=>dX rx fx r fs w (by simpa using hw)) ⟨.bl _,H,I,rfl,?_⟩;rw[show its.toArray.any (eqU x)=its.any (eqU x) by simp,iE r fs];exact q
theorem jW:vK X (.builtin "len") (fun xs H Q=>∃p ys,xs=[.ref p]/\(SqL X.K H p ys\/SqT X.K H p ys)/\Q (.int ys.length) H):=by
 intro pins s σ H xs us Q I r h;obtain⟨p,ys,rfl,hq,q⟩:=h;obtain⟨u,rfl,rx⟩:=vals1 r;cases rx;have hn:=fR;rcases hq with hq|hq
 ·obtain⟨its,r',pl,hz⟩:=I.list hq;have hlen:=r'.length;exact Calls.call_len_list pl.isList (by simp only[Φ] <;> omega) ⟨.int ys.length,H,I.tok _,⟨s.toks+1,by rw[Φ,hlen]⟩,q⟩
 ·obtain⟨its,r',pl,hz⟩:=I.tuple hq;have hlen:=r'.length;exact len_tuple pl (by simp only[Φ] <;> omega) ⟨.int ys.length,H,I.tok _,⟨s.toks+1,by rw[Φ,hlen]⟩,q⟩
theorem vK.or{r r':List V->Hp->VK->Prop}(h:vK X f r)(h':vK X f r'):vK X f (fun xs H Q=>r xs H Q\/r' xs H Q):=by
 intro pins s σ H xs us Q I rs q;rcases q with q|q
 ·exact h pins s σ H xs us Q I rs q
 ·exact h' pins s σ H xs us Q I rs q
theorem tI:vK X (.type "list") (fun xs H Q=>∃p ys,xs=[.ref p]/\(SqL X.K H p ys\/SqT X.K H p ys)/\∀l,H l=none->Q (.ref l) (upd H l (.lst ys))):=by
 intro pins s σ H xs us Q I r h;obtain⟨p,ys,rfl,hq,q⟩:=h;obtain⟨u,rfl,rx⟩:=vals1 r;cases rx;have fin:∀(its:List Value),kM ys its->ys.length<=ψ->∀(h':mv) (c':Nat),(∀b o',s.heap.get? b=some o'->h'.get? b=some o') →
   h'.get? s.heap.objs.size=some { cls:=.type "list",dict:=none,data:=.seq its.toArray c',slots:=#[] }->EP X pins σ Q (.ref s.heap.objs.size) { s with heap:=h' }:=fun its r' hz h' c' kp e =>
  ⟨.ref s.heap.objs.size,_,I.laid (t':=s.toks) kp (ν _) (show qZ X.prog X.w _ h' _ (.lst ys) from⟨hz,its,c',r',e⟩),rfl,q _ (I.hok.fresh (ν _))⟩
 rcases hq with hq|hq
 ·obtain⟨its,r',pl,hz⟩:=I.list hq;have hlen:=r'.length;obtain⟨o,ho,hc,n,hd⟩:=pl.isList;exact call_list_seq p (.inl rfl) ho hc hd (fun h' c' kp e=>fin its r' hz h' c' kp e) (by simp only[Φ] <;> omega)
 ·obtain⟨its,r',pl,hz⟩:=I.tuple hq;have hlen:=r'.length;obtain⟨o,ho,hc,n,hd⟩:=pl;exact call_list_seq p (.inr rfl) ho hc hd (fun h' c' kp e=>fin its r' hz h' c' kp e) (by simp only[Φ] <;> omega)
theorem yK:vK X (.type "tuple") (fun xs H Q=>∃p ys,xs=[.ref p]/\((SqL X.K H p ys/\∀l,H l=none->Q (.ref l) (upd H l (.tup ys)))\/(SqT X.K H p ys/\Q (.ref p) H))):=by
 intro pins s σ H xs us Q I r h;obtain⟨p,ys,rfl,h⟩:=h;obtain⟨u,rfl,rx⟩:=vals1 r;cases rx;rcases h with⟨hq,q⟩|⟨hq,q⟩
 ·obtain⟨its,r',pl,hz⟩:=I.list hq;have hlen:=r'.length;refine call_tuple_list pl.isList (fun h' kp=>?_) (by simp only[Φ] <;> omega);have I1:Inv X pins σ H { s with heap:=h' }:=I.kept (t':=s.toks) kp;have I2:Inv X pins σ (upd H h'.objs.size (.tup ys)) { s with heap:=h'.push { cls:=.type "tuple",data:=.seq its.toArray } } :=
   I1.laid (t':=s.toks) (fun b o e=>τ _ e) (ν _) (show qZ X.prog X.w _ _ _ (.tup ys) from⟨hz,its,r',IsTup.new _ _⟩)
  exact⟨.ref h'.objs.size,_,I2,rfl,q _ (I1.hok.fresh (ν _))⟩
 ·obtain⟨its,r',pl,hz⟩:=I.tuple hq;exact call_tuple_same pl ⟨.ref p,H,I,rfl,q⟩
def tyV (K:Ξ) (T:String) (x:V) (H:Hp):Prop:=match x with
 |.str _=>T = "str"
 |.int _=>T = "int"
 |.ref p=>(T = "list"/\∃xs,SqL K H p xs)\/(T = "tuple"/\∃o,K.lookup p=some o/\o.cls=.type "tuple"/\o.dict=none) ∨
   (T = "dict"/\((∃kvs,H p=some (.dK kvs))\/∃kvs,H p=some (.dT kvs)))\/(T = "set"/\∃S n,H p=some (.set S n))
 |_=>False
theorem aJa(I:Inv X pins σ H s)(r:RelV x v)(ty:tyV X.K T x H):
  s.TypeIs v T/\∀a,v=.ref a->∃ob,s.heap.get? a=some ob/\ob.dict=none:=by
 cases x with
 |str z =>
  obtain⟨t,rfl⟩:=r;cases (show T = "str" from ty);exact⟨typeIs_str s z t,fun _ e=>nomatch e⟩
 |int i =>
  obtain⟨t,rfl⟩:=r;cases (show T = "int" from ty);exact⟨typeIs_int s i t,fun _ e=>nomatch e⟩
 |ref p =>
  cases r;rcases ty with⟨rfl,xs,hq⟩|⟨rfl,o,hk,hc,hd⟩|⟨rfl,hk⟩|⟨rfl,S,n,hk⟩
  ·obtain⟨its,_,pl,_⟩:=I.list hq;refine⟨pl.isList.typeIs,fun a e=>?_⟩;cases e;obtain⟨o,n,e,c,hd,_⟩:=pl;exact⟨o,e,hd⟩
  ·refine⟨⟨o,I.kIn p o hk,hc⟩,fun a e=>?_⟩;cases e;exact⟨o,I.kIn _ o hk,hd⟩
  ·have z:∃o,s.heap.get? p=some o/\o.ExactDict:=by
    rcases hk with⟨kvs,hk⟩|⟨kvs,hk⟩
    ·obtain⟨_,_,_,_,o,_,_,e,ex,_⟩:=I.hok p _ hk;exact⟨o,e,ex⟩
    ·obtain⟨_,_,_,_,o,_,_,e,ex,_⟩:=I.hok p _ hk;exact⟨o,e,ex⟩
   obtain⟨o,e,ex⟩:=z;refine⟨⟨o,e,ex.1⟩,fun a e2=>?_⟩;cases e2;exact⟨o,e,ex.2.1⟩
  ·obtain⟨o,_,_,_,e,ex,_⟩:=I.hok p _ hk;refine⟨⟨o,e,ex.1⟩,fun a e2=>?_⟩;cases e2;exact⟨o,e,ex.2.1⟩
 |_=>exact kn ty
def tBM0 (K:Ξ) (T:String) (r:V->List V->Hp->VK->Prop) (to:TE):TE:=fun σ H Q=>to σ H fun x H1=>tyV K T x H1/\r x [] H1 Q
inductive aOb (K:Ξ) (T:String) (r:V->List V->Hp->VK->Prop) (t:TA) (σ:St) (Q:VK) (x:V) (H1:Hp):Prop|mk:tyV K T x H1->(t σ H1 fun xs H2=>r x xs H2 Q)->aOb K T r t σ Q x H1
def tBM (K:Ξ) (T:String) (r:V->List V->Hp->VK->Prop) (to:TE) (t:TA):TE:=fun σ H Q=>to σ H fun x H1=>aOb K T r t σ Q x H1
variable {o e:Expr}{es:List Expr}{to:TE}{t:TA}{name:Str}{apos cpos:Pos}{T id:String}{r:V->List V->Hp->VK->Prop}
theorem aPv(pa:PlainAttrs T)(slot:Slot T name id)(hty:typeOf (.builtin id)=pure (.type "method_descriptor"))(hm:MtR X id r)(ho:PE X o to)
  (hbase:wu o name X.env (eval o X.env)=eval o X.env:=by rfl)(hline:(apos.endLine == cpos.line)=true:=by rfl):PE X (.Call (.Attribute o name apos) [] [] cpos) (tBM0 X.K T r to):=by
 intro pins s σ H Q I h;refine wpAny_Call_method0_late hbase hline (thn (ho pins s σ H _ I h) fun v s1 zq=>?_);obtain⟨x,H1,I1,r1,ty,q1⟩:=zq;obtain⟨h1,h2⟩:=aJa I1 r1 ty;exact⟨T,id,pa,slot,hty,h1,h2,xq rfl (PySem.evalArgs_none (hm pins s1 σ H1 x [] v [] Q I1 r1 .nil q1))⟩
theorem aD(pa:PlainAttrs T)(slot:Slot T name id)(hty:typeOf (.builtin id)=pure (.type "method_descriptor"))(hm:MtR X id r)(ho:PE X o to)(ha:PA X (e::es) t)
  (hbase:wu o name X.env (eval o X.env)=eval o X.env:=by rfl)
  (hfew:((wl cpos (jl (e::es) X.env)).all (fun x=>!x.1)&&(backToKw cpos (keywordEach [] X.env)).all (fun x=>x.1.isSome)
   && decide ((e::es).length+([]:List Keyword).length+(if ([]:List Keyword).isEmpty then 0 else 1)<30))=true:=by rfl)
  (hline:(apos.endLine == cpos.line)=true:=by rfl)(hs:jl (e::es) X.env=(false,eval e X.env)::jl es X.env:=by rfl)(hplain:(wl cpos (jl es X.env)).any (·.1)=false:=by rfl):
  PE X (.Call (.Attribute o name apos) (e::es) [] cpos) (tBM X.K T r to t):=by
 intro pins s σ H Q I h;refine wpAny_Call_method_late hbase hfew hline rfl (thn (ho pins s σ H _ I h) fun v s1 zq=>?_);obtain⟨x,H1,I1,r1,ty,q1⟩:=zq;obtain⟨h1,h2⟩:=aJa I1 r1 ty;refine⟨T,id,pa,slot,hty,h1,h2,?_⟩;have hA:=ha cpos pins s1 σ H1 _ I1 q1;rw[hs]at hA ⊢;refine xq (by show(false||(wl cpos (jl es X.env)).any (·.1))=false;rw[hplain] <;> rfl) (Calls.evalArgs_plain ?_);exact thn hA fun us s2 zq=>zq.el fun vs H2 I2 r2 q2=>hm pins s2 σ H2 x vs v us Q I2 r1 r2 q2
end
def MtM (X:Cx) (id:String) (r:V->List V->Hp->VK->Prop):Prop :=
 ∀(pins:List (Addr×Obj)) (s:ω) (σ:St) (H:Hp) (x:V) (xs:List V) (v:Value) (us:List Value) (Q:VK),Inv X pins σ H s->RelV x v->kM xs us->r x xs H Q →
  iz (jh X.prog X.w) X.A (call (.builtin id) (v::us)) (EP X pins σ Q) X.xe s
theorem kM.one{x:V}(h:kM [x] us):∃u,us=[u]/\RelV x u:=by
 cases h with
 |cons r t=>cases t;exact⟨_,rfl,r⟩
theorem kM.two{x y:V}(h:kM [x,y] us):∃u v,us=[u,v]/\RelV x u/\RelV y v:=by
 cases h with
 |cons r t=>obtain⟨_,rfl,q⟩:=kM.one t;exact⟨_,_,rfl,r,q⟩
theorem kM.zero:∀{us:List Value},kM [] us->us=[]
 |_,.nil=>rfl
theorem kM.eraseIdx:∀{xs:List V}{us:List Value}(i:Nat),kM xs us->kM (xs.eraseIdx i) (us.eraseIdx i)
 |_,_,_,.nil=>.nil
 |_,_,0,.cons _ t=>t
 |_,_,i+1,.cons r t=>.cons r (kM.eraseIdx i t)
theorem kM.reverse(h:kM xs us):kM xs.reverse us.reverse:=by
 induction h with
 |nil=>exact .nil
 |cons r t ih=>rw[List.reverse_cons,List.reverse_cons];exact kM.append ih (.cons r .nil)
theorem kM.rep(h:kM xs us):∀k:Nat,kM (jz k xs).flatten (jz k us).flatten
 |0=>.nil
 |k+1=>by
  rw[uk,uk,xr,xr];exact kM.append h (kM.rep h k)
theorem sV{α : Type}: ∀(l:List α) (i:Nat),(l.eraseIdx i).length<=l.length
 |[],_=>ν _
 |_::_,0=>ug _
 |_::r,i+1=>rq (sV r i)
theorem foldl_rep(its:List Value):∀(k:Nat) (acc:List Value),
  List.foldl (fun x1 x2=>x1++x2) acc.toArray (jz k its.toArray)=(acc++(jz k its).flatten).toArray
 |0,acc=>by simp
 |k+1,acc=>by
  have e:acc.toArray++its.toArray=(acc++its).toArray:=by simp
  have e2:(acc++its)++(jz k its).flatten=acc++(jz (k+1) its).flatten:=by
   rw[uk,xr,jg]
  rw[←e2,←foldl_rep its k (acc++its),←e,uk,List.foldl_cons]
section
variable {X:Cx}{pins:List (Addr×Obj)}{σ:St}{H:Hp}{s:ω}{l b:Addr}{xs ys zs:List V}
theorem Inv.lset{its its':List Value}{f:Array Value->Array Value}{t':Nat}(I:Inv X pins σ H s)(hH:H l=some (.lst xs))
  (e:s.heap.get? l=some { cls:=.type "list",data:=.seq its.toArray n })(hf:f its.toArray=its'.toArray)(hv:kM ys its')(hz:ys.length<=ψ):
  Inv X pins σ (upd H l (.lst ys)) { s with heap:=s.heap.update l (ux f),toks:=t' }:=by
 have q:=PySem.IsL.update e f;rw[hf]at q;refine I.write (x:=l) (e:=l) (by rw[hH];exact trivial) (.inl rfl) (fun b' u hb hu=>(lw s.heap (ux f) (lm hb)).trans hu) ⟨_,q⟩ ?_;exact⟨hz,its',_,hv,q⟩
theorem Inv.lnew{t':Nat}(I:Inv X pins σ H s)(hv:kM ys its)(hz:ys.length<=ψ):
  Inv X pins σ (upd H s.heap.objs.size (.lst ys)) { s with heap:=s.heap.push { cls:=.type "list",data:=.seq its.toArray },toks:=t' } :=
 I.laid (fun _ _ q=>τ _ q) (ν _) ⟨hz,its,0,hv,ij _ rfl⟩
theorem Inv.fresh(I:Inv X pins σ H s):H s.heap.objs.size=none:=I.hok.fresh (ν _)
theorem Inv.lstM(I:Inv X pins σ H s)(hH:H l=some (.lst xs)):xs.length<=ψ/\∃(its:List Value) (n:Nat),kM xs its/\xs.length=its.length/\s.heap.get? l=some { cls:=.type "list",data:=.seq its.toArray n }:=by
 obtain⟨z,its,n,r,e⟩:=I.hok l _ hH;exact⟨z,its,n,r,r.length,e⟩
theorem aAj{n:Nat}(h:n<=ψ):ui n=false:=by
 unfold ui;exact decide_eq_false (by omega)
end
section
variable {X:Cx}
inductive rR (x:V) (vs:List V) (H:Hp) (Q:VK):Prop|mk:∀l xs y,x=.ref l->vs=[y]->H l=some (.lst xs)->xs.length<ψ->Q .non (upd H l (.lst (xs++[y])))->rR x vs H Q
def aNf:V->List V->Hp->VK->Prop:=fun x vs H Q=>rR x vs H Q
theorem zI:MtM X "list.append" aNf:=by
 intro pins s σ H x vs v us Q I rx rv h;obtain⟨l,xs,y,rfl,rfl,hH,hz,q⟩:=h;cases rx;obtain⟨u,rfl,ru⟩:=rv.one;obtain⟨z,its,n,r,hl,e⟩:=I.lstM hH;refine uy F.slot_list_append ⟨_,e,rfl⟩ F.entry_list_append (F.args_list_append_2 _ _) (PySem.list_append l its.toArray n u (by rw[Φ];omega)) ⟨e,?_⟩;refine⟨.non,_,I.lset (its':=its++[u]) hH e (by simp) (r.append (.cons ru .nil)) ?_,rfl,q⟩;rw[θ,mh];omega
def aMu:V->List V->Hp->VK->Prop:=fun x vs H Q=>∃l b xs zs,x=.ref l/\vs=[.ref b]/\H l=some (.lst xs)/\H b=some (.lst zs)/\xs.length+zs.length<=ψ/\Q .non (upd H l (.lst (xs++zs)))
theorem sT:MtM X "list.extend" aMu:=by
 intro pins s σ H x vs v us Q I rx rv h;obtain⟨l,b,xs,zs,rfl,rfl,hH,hB,hz,q⟩:=h;cases rx;obtain⟨u,rfl,ru⟩:=rv.one;cases ru;obtain⟨z,its,n,r,hl,e⟩:=I.lstM hH;obtain⟨z2,its2,n2,r2,hl2,e2⟩:=I.lstM hB;have hsz:its.toArray.size+its2.toArray.size<=ψ:=by rw[Φ,Φ];omega
 have hlong:¬ (!its.toArray.isEmpty&&ui (its.toArray.size+its2.toArray.size))=true:=by
  rw[aAj hsz,Bool.and_false];exact υ
 refine uy F.slot_list_extend ⟨_,e,rfl⟩ F.entry_list_extend (F.args_list_extend_2 _ _)
  (AutoSeq1.list_extend_list_list_0 l its.toArray n b its2.toArray n2 hlong (by rw[Φ];omega) (by omega)) ⟨e,e2,?_⟩
 refine⟨.non,_,I.lset (its':=its++its2) hH e (by simp) (r.append r2) ?_,rfl,q⟩;rw[θ];omega
def aQq:V->List V->Hp->VK->Prop:=fun x vs H Q=>∃l xs i k y,x=.ref l/\vs=[.int i]/\H l=some (.lst xs)/\-(2 ^ 63)<=i/\i<2 ^ 63/\seqIndex? i xs.length=some k/\xs[k]?=some y/\Q y (upd H l (.lst (xs.eraseIdx k)))
theorem aLf:MtM X "list.pop" aQq:=by
 intro pins s σ H x vs v us Q I rx rv h;obtain⟨l,xs,i,k,y,rfl,rfl,hH,h1,h2,hk,hy,q⟩:=h;cases rx;obtain⟨u,rfl,ru⟩:=rv.one;obtain⟨t,rfl⟩:=ru;obtain⟨z,its,n,r,hl,e⟩:=I.lstM hH;obtain⟨w,hw,rw'⟩:=r.get hy;refine uy F.slot_list_pop ⟨_,e,rfl⟩ F.entry_list_pop (F.args_list_pop_2 _ _)
  (MeetsSeq.list_pop_at l its.toArray n i t k w (fitsIndex_both h1 h2) (by rw[Φ,←hl];exact hk) (by rw[←vj];exact hw) (by rw[Φ];omega)) ⟨e,?_⟩
 refine⟨y,_,I.lset (its':=its.eraseIdx k) hH e ?_ (r.eraseIdx k) ?_,rw',q⟩
 ·show its.toArray.eraseIdxIfInBounds k=(its.eraseIdx k).toArray;rw[List.eraseIdxIfInBounds_toArray]
 ·have:=sV xs k;omega
def aRf:V->List V->Hp->VK->Prop:=fun x vs H Q=>∃l xs,x=.ref l/\vs=[]/\H l=some (.lst xs)/\Q .non (upd H l (.lst []))
theorem aLa:MtM X "list.clear" aRf:=by
 intro pins s σ H x vs v us Q I rx rv h;obtain⟨l,xs,rfl,rfl,hH,q⟩:=h;cases rx;have hus:=rv.zero;subst hus;obtain⟨z,its,n,r,hl,e⟩:=I.lstM hH;refine uy F.slot_list_clear ⟨_,e,rfl⟩ F.entry_list_clear (F.args_list_clear_1 _) (AutoSeq1.list_clear_list_0 l its.toArray n (by rw[Φ];omega)) ⟨e,?_⟩;exact⟨.non,_,I.lset (its':=[]) (ys:=[]) hH e rfl .nil (io _),rfl,q⟩
def rCat:R2:=fun x y H Q=>∃l b xs zs,x=.ref l/\y=.ref b/\H l=some (.lst xs)/\H b=some (.lst zs)/\xs.length+zs.length<=ψ/\∀p,H p=none->Q (.ref p) (upd H p (.lst (xs++zs)))
theorem cI:OpR X (qo .Add) rCat:=by
 intro pins s σ H x y v u Q I rx ry h;obtain⟨l,b,xs,zs,rfl,rfl,hH,hB,hz,q⟩:=h;cases rx;cases ry;obtain⟨z,its,n,r,hl,e⟩:=I.lstM hH;obtain⟨z2,its2,n2,r2,hl2,e2⟩:=I.lstM hB;refine PySem.P.add_list e e2 ?_ (by rw[Φ,Φ];omega);have ea:its.toArray++its2.toArray=(its++its2).toArray:=by simp
 rw[ea];exact⟨.ref _,_,I.lnew (t':=s.toks) (r.append r2) (by rw[θ];omega),rfl,q _ I.fresh⟩
def rRep:R2:=fun x y H Q=>∃l k xs,x=.ref l/\y=.int k/\H l=some (.lst xs)/\-(2 ^ 63)<=k/\k<2 ^ 63/\xs.length*k.toNat<=ψ ∧
 ∀p,H p=none->Q (.ref p) (upd H p (.lst (jz k.toNat xs).flatten))
theorem len_rep{α : Type}(xs:List α)(k:Nat):(jz k xs).flatten.length=k*xs.length:=by
 induction k with
 |zero=>simp
 |succ k ih=>rw[uk,xr,θ,ih,Nat.succ_mul,Nat.add_comm]
theorem aPq:OpR X (qo .Mult) rRep:=by
 intro pins s σ H x y v u Q I rx ry h;obtain⟨l,k,xs,rfl,rfl,hH,h1,h2,hz,q⟩:=h;cases rx;obtain⟨t,rfl⟩:=ry;obtain⟨z,its,n,r,hl,e⟩:=I.lstM hH;have hlen:its.toArray.size*k.toNat<=ψ:=by rw[Φ,←hl];exact hz
 have hcap:¬ its.toArray.size*k.toNat > (2 ^ 63-1) / 8:=by
  have:(ψ:Nat)<=(2 ^ 63-1) / 8:=by decide
  omega
 have hfit:¬ (!Builtin.List.listFitsIndex k)=true:=by
  rw[fitsIndex_both h1 h2];exact υ
 have hlong:¬ ui (its.toArray.size*k.toNat)=true:=by
  rw[aAj hlen];exact υ
 have hnew:List.foldl (fun x1 x2=>x1++x2) #[] (jz (if its.toArray.isEmpty=true then 0 else k.toNat) its.toArray)=(jz k.toNat its).flatten.toArray:=by
  have f0:∀m:Nat,List.foldl (fun x1 x2=>x1++x2) #[] (jz m its.toArray)=(jz m its).flatten.toArray:=fun m=>by
   have:=foldl_rep its m [];rw[List.nil_append]at this;exact this
  rw[f0];cases its with
  |nil=>simp
  |cons a r'=>rw[if_neg (by simp)]
 refine wpAny_binaryOp_repeat_ref (T:="list") (U:="int") (by decide) ⟨_,e,rfl⟩ (fun s'=>typeIs_int s' k t) noFill_list_mul F.fills_int_mul F.slot_int_rmul repeat_list F.slot_int_index.lookup
  (uy F.slot_int_rmul (typeIs_int s k t) F.entry_int_rmul (F.args_int_rmul_2 _ _) (int___rmul___int_list k t l its.toArray n)
   ⟨e,rfl,⟨_,e,rfl⟩,uy F.slot_list_mul ⟨_,e,rfl⟩ F.entry_list_mul (F.args_list_mul_2 _ _) (AutoListH.list___mul___list_int_3 l its.toArray n k t hfit hcap hlong) ⟨e,?_⟩⟩)
 rw[hnew];exact⟨.ref _,_,I.lnew (t':=s.toks) (r.rep k.toNat) (by rw[len_rep,Nat.mul_comm];exact hz),rfl,q _ I.fresh⟩
end
end L2
namespace Att
open PySem PySem.W PySem.Calls PyProof.Rows
theorem mD : ∀(ns:List Int) (vs:List Value),WellAll P h vs (ns.map WData.int)->IntsAre vs ns:=by
 intro ns
 induction ns with
 |nil =>
  intro vs w;rw[List.map_nil]at w;cases w;exact .nil
 |cons n ns ih =>
  intro vs w;rw[jx]at w;cases w with
  |cons a b =>
   cases a;exact .cons _ _ (ih _ b)
theorem aGo{l:OpenLaw}(hn:l.most=some n)
  (hpre:l.row.toRowW.claim.pre args=true)(hwl:WellAll P h vals args):
  ∃a vs ns,vals=[km a]/\args=[WData.list (ns.map WData.int)]/\h.get? a=some { cls:=.type "list",data:=.seq vs.toArray }/\IntsAre vs ns/\ns.length<=n:=by
 have hsh:WShape.hasAll [] args [.list .int]=true:=(pre_splitW hpre).1;have hc:l.pre.holds [] { args:=args }=true:=(pre_splitW hpre).2;obtain⟨d,r,rfl,h1,h2⟩:=hasAllW_cons hsh;obtain rfl:=hasAllW_nil h2;obtain⟨xs,rfl,h3⟩:=hasW_list h1;obtain⟨ns,rfl⟩:=items_int h3;have hlen:ns.length<=n:=by
  unfold OpenLaw.pre at hc;have h4:(WTm.not (.lt (.lit (.int (n:Int))) (.len (.arg 0)))).holds [] { args:=[.list (ns.map .int)] }=true:=by
   have h4:=(holds_andW hc).1;rw[hn]at h4;exact h4
  have h5:=condW_of h4 (w_not (w_lt w_lit (w_len_list (w_arg rfl))));rw[δ]at h5;refine Nat.le_of_not_lt fun q=>?_;have q':(n:Int)<((ns.length:Nat):Int):=by omega
  first
   | (rw[decide_eq_true q']at h5;exact absurd h5 (by decide))
   | (simp at h5;omega)
 cases hwl with
 |cons w1 w2 =>
  cases w2;cases w1 with
  |list ho hall=>exact⟨_,_,ns,rfl,rfl,ho,mD ns _ hall,hlen⟩
theorem aGh(l:OpenLaw)(args:List WData):l.row.toRowW.claim.post args (.bool true) args=true :=
 postW_of (r:=l.row.toRowW) (X:=(true == true))
  (show WShape.has [] (.bool true) .bool=true by first|rfl|decide|simp[WShape.has,WShape.arms,WShape.armsAll])
  (show(WTm.eq .res (.lit (.bool true))).value [] { args:=args,res:=some (.bool true),after:=args }=some (.bool (true == true)) from w_eq_bool (w_res rfl) w_lit) rfl
theorem attach_call{l:OpenLaw}{YP:oo->mv->Prop}{d:DefRec}
  (hn:l.most=some n)(hdf:d.params.defaults=[])
  (call:∀(w:oo) (s₀ s₁ : ω) (mg mb:Str->Option Value) (fa:Addr) (o:Obj) (pm cd doc:Value) (a:Addr) (vs:List Value) (ns:List Int),
   Ground q loose [] XP w s₀ mg mb s₁.heap->YP w s₁.heap →
   s₁.heap.get? fa=some o->o.data=.func (docDef d.name d.params d.body d.scope pm cd doc)->s₁.heap.CodeRec cd d.name->mg d.name=some (.ref fa) →
   s₁.heap.get? a=some { cls:=.type "list",data:=.seq vs.toArray }->IntsAre vs ns->ns.length<=n->s₁.gens = #[] →
   codeAny (jh l.prog w) callerA (.call (.ref fa) ⟨[.ref a],[]⟩) (fun r s'=>r=.ok (.ret (.bool true))/\OldK s₁.heap s'.heap/\s'.os=s₁.os/\AllBare s'.gens) s₁):
  WalkO q loose XP YP l.row.toRowW d [] (fun f vs=>PySem.call f vs):=by
 intro w s₀ s₁ mg mb G Y fa o pm cd doc dV kV ho hd hcd hD hmg hg args vals as hpre hlay hrd hwl hlo;obtain rfl:dV=.none:=Dflts.none hD hdf;obtain rfl:kV=.none:=Dflts.noKw hD;obtain⟨a,vs,ns,rfl,rfl,hobj,hints,hlen⟩:=aGo hn hpre hwl;refine enter_call (codeAny_mono (call w s₀ s₁ mg mb fa o pm cd doc a vs ns G Y ho (fd_plain hd) hcd hmg hobj hints hlen hg) fun r s' hq=>?_);obtain⟨rfl,h2,h3,h4⟩:=hq;exact⟨.inl ⟨.bool true,.bool true,[],rfl,fun _=>rfl,.bool true,aGh l _,fun _=>⟨xt,fun _ hm=>(nomatch hm)⟩⟩,h2,h3,h4⟩
section
variable {prog:mf}{w:oo}{A:mn}{E:Value->ω->Prop}{s:ω}{K:Ξ}
end
end Att
namespace L2
open PySem PySem.Spec PyProof.Rows
theorem sQ:∀{vs:List Value}{ns:List Int},IntsAre vs ns->kM (ns.map V.int) vs
 |_,_,.nil=>.nil
 |_,_,.cons n t h=>.cons ⟨t,rfl⟩ (sQ h)
def Only (H:Hp):Prop:=∀b,H b=none\/∃o xs,H b=some (.frz o (.lst xs))
theorem aKc{K:Ξ}{mb:Str->Option Value}{CX:CXT}{a:Addr}{x:Str}{sp:Sp}{s₁: ω}{vs:List Value}
  (KX:K.In s₁.heap)(hns:s₁.heap.Ns iq mg)(hb:s₁.heap.Ns builtinsNs mb)(hbb:∀x:Str,x ≠ "__name__"->mb x=my x)(hlim:s₁.heap.NoLimit)(hg:s₁.gens = #[])
  (ha:s₁.heap.get? a=some { cls:=.type "list",data:=.seq vs.toArray })(hi:IntsAre vs ns)(hl:ns.length<=ψ)(hr:xH k callerA)
  (F:∀base:mv,K.In base->base.Ns iq mg->kH P w K mg base CX k fa fd [x] sp)(hbind:∀(s:ω) (u:Value),BindsTo s fd ⟨[u],[]⟩ [(x,u)])
  (hsp:∀H:Hp,Only H->SqL K H a (ns.map V.int)->sp [.ref a] H (fun v _=>v=.bl true) fun _ _ _=>False)
  (hCX:∀H e s',CX [] H s₁ (fun _ _ _=>False) e s'->False):
  codeAny (jh P w) callerA (.call (.ref fa) ⟨[.ref a],[]⟩) (fun r s'=>r=.ok (.ret (.bool true))/\OldK s₁.heap s'.heap/\s'.os=s₁.os/\AllBare s'.gens) s₁:=by
 have rv:=sQ hi;have lenV:=hi.length;have core:∀H:Hp,Only H->SqL K H a (ns.map V.int)->HOk P w H s₁.heap->(∀b,H b≠none->b=a)->(H a≠none->K.lookup a=none) →
   codeAny (jh P w) callerA (.call (.ref fa) ⟨[.ref a],[]⟩) (fun r s'=>r=.ok (.ret (.bool true))/\OldK s₁.heap s'.heap/\s'.os=s₁.os/\AllBare s'.gens) s₁:=by
  intro H hO hS hok hA hK;have base_of:∀{b:Addr}{o:Obj},s₁.heap.get? b=some o->H b=none->(uT s₁.heap H).get? b=some o:=fun e n=>aJr e n;have noA:∀{b:Addr}{o:Obj}{es:Array DictEntry}{ep:Nat},s₁.heap.get? b=some o->o.data=.dict es ep->H b=none:=fun {b o es ep} e d=>by
   cases q:H b with
   |none=>rfl
   |some u =>
    have e':b=a:=hA b (by rw[q];simp);subst e';rw[ha]at e;cases e;have d':Data.seq vs.toArray _=Data.dict es ep:=d;cases d'
  have nsK:∀{b:Addr}{m:Str->Option Value},s₁.heap.Ns b m->(uT s₁.heap H).Ns b m:=fun {b m} ⟨o,es,ep,e,d,r⟩=>⟨o,es,ep,base_of e (noA e d),d,r⟩;have hKb:K.In (uT s₁.heap H):=fun b o e=>base_of (KX b o e) (by
   cases q:H b with
   |none=>rfl
   |some u =>
    have e':b=a:=hA b (by rw[q];simp);subst e';rw[hK (by rw[q];simp)]at e;cases e)
  have hM:Mod K mg (uT s₁.heap H):=⟨hKb,nsK hns,⟨mb,nsK hb,hbb⟩,let ⟨mc,h1,h2⟩:=hlim; ⟨mc,nsK h1,h2⟩⟩;have e0:rC P w K mg (uT s₁.heap H) callerA [] s₁ H:=⟨rfl,hM,fun b o e=>aNe e,Nat.le_of_eq (aHg _ _),trivial,fun b hb=>absurd (show b∈([]:List Addr) from hb) (by simp),hok,.of_eq hg⟩;refine codeAny_mono ((F _ hKb (nsK hns)).run callerA [] s₁ H ⟨[.ref a],[]⟩ [.ref a] [.ref a] _ _ hr e0 (hbind s₁ (.ref a)) (.cons rfl .nil) (hsp H hO hS)) fun r s' h=>?_;cases r with
  |error e=>exact(hCX H e s' h).elim
  |ok fl =>
   cases fl with
   |next=>exact kn h
   |brk=>exact kn h
   |cont=>exact kn h
   |ret u =>
    obtain⟨v,H',os,bare,un,hok',r',q⟩:=h;have q':v=.bl true:=q;subst q';obtain rfl:u=Value.bool true:=r';refine⟨rfl,OldK.of_keep fun b o e=>?_,os,bare⟩;cases q:H b with
    |none=>exact un.keep b o e q (by intro z;exact absurd (show b∈([]:List Addr) from z) (by simp)) (by simp)
    |some u =>
     rcases hO b with z|⟨ob,xs,z⟩
     ·rw[q]at z;cases z
     ·have z2:=un.frzs b ob _ z;obtain⟨e1,_⟩:=hok b _ z;obtain⟨e2,_⟩:=hok' b _ z2;rw[e]at e1;cases e1;exact e2
 cases hk:K.lookup a with
 |some o =>
  have e:=KX a o hk;rw[ha]at e;cases e;refine core (fun _=>none) (fun _=>.inl rfl) (.inr ⟨_,vs.toArray,_,hk,rfl,rfl,rfl,by rw[Φ,lenV];exact hl,by simpa using rv⟩) (fun b u z=>by have z':(none:Option HO)=some u:=z;cases z') (fun b z=>absurd rfl z) fun z=>absurd rfl z
 |none =>
  refine core (fun b=>if b=a then some (.frz { cls:=.type "list",data:=.seq vs.toArray } (.lst (ns.map V.int))) else none) (fun b=>?_) (.inl (.inr ⟨{ cls:=.type "list",data:=.seq vs.toArray },if_pos rfl⟩)) (fun b u z=>?_) (fun b z=>?_) fun _=>hk
  ·by_cases hb:b=a
   ·exact .inr ⟨_,_,if_pos hb⟩
   ·exact .inl (if_neg hb)
  ·by_cases hb:b=a
   ·have z':=(if_pos hb).symm.trans z;cases z';subst hb;exact⟨ha,by rw[δ];exact hl,vs,_,rv,ha⟩
   ·have z':=(if_neg hb).symm.trans z;cases z'
  ·by_cases hb:b=a
   ·exact hb
   ·exact absurd (if_neg hb) z
theorem aNr{l:PySem.W.OpenLaw}{YP:oo->mv->Prop}{d:DefRec}{K:Params->Ξ}{CX:oo->CXT}{sp:oo->Sp}{x:Str}
  (hn:l.most=some n)(hn2:n<=ψ)(hdf:d.params.defaults=[])(hr:xH k callerA)
  (hY:∀(w:oo) (h:mv),YP w h->(K w.params).In h)
  (F:∀(w:oo) (mg:Str->Option Value) (fa:Addr) (h:mv),(K w.params).In h->h.Ns iq mg->mg d.name=some (.ref fa) →
   ∃fd:uo,(∀(s:ω) (u:Value),BindsTo s fd ⟨[u],[]⟩ [(x,u)]) ∧
    ∀base:mv,(K w.params).In base->base.Ns iq mg->kH l.prog w (K w.params) mg base (CX w) k fa fd [x] (sp w))
  (hsp:∀(w:oo) (H:Hp) (a:Addr) (ns:List Int),ns.length<=n->Only H->SqL (K w.params) H a (ns.map V.int)->sp w [.ref a] H (fun v _=>v=.bl true) fun _ _ _=>False)
  (hCX:∀(w:oo) (H:Hp) (s:ω) (e:Value) (s':ω),CX w [] H s (fun _ _ _=>False) e s'->False):
  PySem.W.WalkO q loose XP YP l.row.toRowW d [] (fun f vs=>PySem.call f vs):=by
 refine Att.attach_call hn hdf fun w s₀ s₁ mg mb fa o pm cd doc a vs ns G Y ho hd hcd hmg hobj hints hlen hg=>?_;have KX:=hY w _ Y;obtain⟨fd,hb,hF⟩:=F w mg fa _ KX G.T.g hmg;exact aKc KX G.T.g G.T.b G.T.builtins G.T.nolimit hg hobj hints (ip hlen hn2) hr hF hb (fun H hO hS=>hsp w H a ns hlen hO hS) fun H e s'=>hCX w H s₁ e s'
def inClass (s:Stmt) (j:Nat):Stmt:=match s with
 |.ClassDef _ _ _ body _ _ _ _ _ _ _=>body.getD j (.Pass ⟨0,0,0,0⟩)
 |_=>.Pass ⟨0,0,0,0⟩
def cB (s:Stmt):Arguments:=match s with
 |.FunctionDef _ a _ _ _ _ _ _ _ _=>a
 |_=>{ posonlyargs:=[],args:=[],vararg:=none,kwonlyargs:=[],kw_defaults:=[],kwarg:=none,defaults:=[] }
def aH (s:Stmt):List Stmt:=match s with
 |.FunctionDef _ _ b _ _ _ _ _ _ _=>b
 |_=>[]
def jH (s:Stmt):Scope:=match s with
 |.FunctionDef _ _ _ _ _ _ sc _ _ _=>sc
 |_=>{ kind:=.function,names:=[],isGenerator:=false,isCoroutine:=false }
abbrev CX0:CXT:=fun _ _ _ _ _ _=>False
abbrev E0:XK:=fun _ _ _=>False
theorem qT : zT CX0 X E0:=fun _ _ _ _ _ _ _ h=>h.elim
structure Fun (K:Ξ) (x qual:Str) (st:Stmt) (f:Addr) (fd:uo):Prop where
 ex:∃(oc:Value) (od:Option Addr) (kV doc pm:Value) (an:Option Addr) (cdv ct:Value) (osl:Array (Option Value)),
  fd=fnOf x qual (cB st) (aH st) (jH st) .none kV doc pm an cdv ct/\K.lookup f=some ⟨oc,od,.func fd,osl⟩/\codeIn K cdv qual=true
 kp:keepIn K (.ref f)=true
section
variable {P:mf}{w:oo}{K:Ξ}{mg:Str->Option Value}{base:mv}
theorem Fun.ok{x qual:Str}{st:Stmt}{f:Addr}{fd:uo}{N ps:List Str}{k:Nat}{sp:Sp}(F:Fun K x qual st f fd)(S:jM N ps (jH st))(len:∀vs H Q E,sp vs H Q E->vs.length=ps.length)
  (hbody:∀(cdv:Value) (A:mn) (outer:List Env) (s:ω) (H:Hp) (vs:List V) (Q:VK) (E:XK),xH k (A.deeper (envOfC qual (jH st) s.heap.objs.size f cdv))->sp vs H Q E →
   ∃t,PSs (aDc CX0 P w K mg base N qual (jH st) f cdv A outer s H E).nox (aH st) t/\t { nx:=fun _ H'=>Q .non H',rt:=Q } (start N vs) H):kH P w K mg base CX0 (k+1) f fd ps sp:=by
 obtain⟨oc,od,kV,doc,pm,an,cdv,ct,osl,rfl,lk,hcd⟩:=F.ex;refine fn_of lk hcd S len fun A outer s H vs Q E hr hsp=>?_;obtain⟨t,h,q⟩:=hbody cdv A outer s H vs Q E hr hsp;exact⟨t,h.nox,q⟩
theorem Fun.binds{x qual:Str}{st:Stmt}{f:Addr}{fd:uo}{ps:List Str}(F:Fun K x qual st f fd)
  (h:∀(kV doc pm:Value) (an:Option Addr) (cdv ct:Value) (us:List Value),us.length=ps.length->bindArgs (fnOf x qual (cB st) (aH st) (jH st) .none kV doc pm an cdv ct) ⟨us,[]⟩=pure (ps.zip us)):Binds K fd ps []:=by
 obtain⟨oc,od,kV,doc,pm,an,cdv,ct,osl,rfl,lk,hcd⟩:=F.ex;exact .all (h kV doc pm an cdv ct)
theorem aIi{x qual:Str}{st:Stmt}{f:Addr}{oc:Value}{od an:Option Addr}{osl:Array (Option Value)}{kV doc pm cdv ct:Value}(l:K.lookup f=some ⟨oc,od,.func (fnOf x qual (cB st) (aH st) (jH st) .none kV doc pm an cdv ct),osl⟩)
  (c:codeIn K cdv qual=true)(k:keepIn K (.ref f)=true):Fun K x qual st f (fnOf x qual (cB st) (aH st) (jH st) .none kV doc pm an cdv ct):=⟨⟨oc,od,kV,doc,pm,an,cdv,ct,osl,rfl,l,c⟩,k⟩
end
theorem kI{n:Nat}(h:n<=1000):n<ψ:=li h (by decide)
section
variable {X:Cx}
theorem pv(i:Nat)(hN:X.N[i]?=some x:=by rfl)(hv:Vis X.env.scope x:=by first|exact Or.inl rfl|exact Or.inr (Or.inl rfl)|exact Or.inr (Or.inr rfl))(hd:(x == ("__debug__" : Str))=false:=by decide)
  (hcd:(x == ("__classdict__" : Str))=false:=by decide):PE X (.Name x pos) (wC i):=aPs hN hv hd hcd
end
theorem iteF{A B:Prop}(h:B):if false=true then A else B:=by
 rw[if_neg υ];exact h
theorem iteT{A B:Prop}(h:A):if true=true then A else B:=by
 rw[if_pos rfl];exact h
theorem yU{c A B:Prop}[Decidable c](h1:c->A)(h2:¬ c->B):if c then A else B:=by
 by_cases h:c
 ·rw[if_pos h];exact h1 h
 ·rw[if_neg h];exact h2 h
def jJ (H H':Hp):Prop:=∀b o,H b=some o->H' b=some o
theorem jJ.refl(H:Hp):jJ H H:=fun _ _ h=>h
theorem jJ.trans(a:jJ H H1)(b:jJ H1 H2):jJ H H2:=fun c o h=>b c o (a c o h)
theorem jJ.free{H H':Hp}(e:jJ H H')(h:H' l=Option.none):H l=Option.none:=by
 cases q:H l with
 |none=>rfl
 |some o =>
  rw[e l o q]at h;cases h
theorem jJ.seq{K:Ξ}(e:jJ H H')(h:SqL K H a xs):SqL K H' a xs:=by
 rcases h with (h|⟨o,h⟩)|h
 ·exact .inl (.inl (e _ _ h))
 ·exact .inl (.inr ⟨o,e _ _ h⟩)
 ·exact .inr h
end L2
set_option maxHeartbeats 4000000
namespace L2
open PySem PySem.Spec PyProof.Rows
theorem kM.getR:∀{xs:List V}{us:List Value}{i:Nat}{u:Value},kM xs us->us[i]?=some u->∃x,xs[i]?=some x/\RelV x u
 |_,_,_,_,.nil,e=>by simp at e
 |_,_,0,_,.cons r _,e=>by simp at e;subst e;exact⟨_,rfl,r⟩
 |_,_,i+1,u,.cons _ t,e=>by
  obtain⟨x,h1,h2⟩:=kM.getR (i:=i) (u:=u) t (by simpa using e);exact⟨x,by simpa using h1,h2⟩
def isa (t T:String):Bool:=t == T||(t == "bool" && T == "int")
def tyN (K:Ξ) (x:V) (H:Hp) (t:String):Prop :=
 match x with
 |.non=>t = "NoneType"
 |.bl _=>t = "bool"
 |.int _=>t = "int"
 |.str _=>t = "str"
 |.ref p=>(t = "list"/\∃xs,SqL K H p xs)\/(t = "tuple"/\∃xs,SqT K H p xs)
 |_=>False
def aBj:List String:=["int","bool","str","list","tuple","dict"]
section
variable {X:Cx}
theorem nO:vK X (.builtin "isinstance") (fun xs H Q=>∃x T t,xs=[x,.ty T]/\T∈aBj/\tyN X.K x H t/\Q (.bl (isa t T)) H):=by
 intro pins s σ H xs us Q I r h;obtain⟨x,T,t,rfl,hT,ht,q⟩:=h;obtain⟨u,w',rfl,rx,rT⟩:=vals2 r;cases rT;have hT':T = "int" ∨ T = "bool" ∨ T = "str" ∨ T = "list" ∨ T = "tuple" ∨ T = "dict":=by simpa [aBj] using hT
 have fin:∀{k:Bool}{s':ω},isa t T=k->Inv X pins σ H s'->EP X pins σ Q (.bool k) s':=fun {k s'} e I'=>by subst e;exact⟨.bl _,H,I',rfl,q⟩
 cases x with
 |non =>
  cases rx;have ht':t = "NoneType":=ht;subst ht';rcases hT' with rfl|rfl|rfl|rfl|rfl|rfl
  ·exact IsiPair.NoneType_int (fin (by decide) (I.tok _))
  ·exact IsiPair.NoneType_bool (fin (by decide) (I.tok _))
  ·exact IsiPair.NoneType_str (fin (by decide) (I.tok _))
  ·exact IsiPair.NoneType_list (fin (by decide) (I.tok _))
  ·exact IsiPair.NoneType_tuple (fin (by decide) (I.tok _))
  ·exact IsiPair.NoneType_dict (fin (by decide) (I.tok _))
 |bl b =>
  cases rx;have ht':t = "bool":=ht;subst ht';rcases hT' with rfl|rfl|rfl|rfl|rfl|rfl
  ·exact IsiPair.bool_int (fin (by decide) I)
  ·exact IsiPair.bool_bool (fin (by decide) I)
  ·exact IsiPair.bool_str (fin (by decide) (I.tok _))
  ·exact IsiPair.bool_list (fin (by decide) (I.tok _))
  ·exact IsiPair.bool_tuple (fin (by decide) (I.tok _))
  ·exact IsiPair.bool_dict (fin (by decide) (I.tok _))
 |int i =>
  obtain⟨tk,rfl⟩:=rx;have ht':t = "int":=ht;subst ht';rcases hT' with rfl|rfl|rfl|rfl|rfl|rfl
  ·exact IsiPair.int_int (fin (by decide) I)
  ·exact IsiPair.int_bool (fin (by decide) (I.tok _))
  ·exact IsiPair.int_str (fin (by decide) (I.tok _))
  ·exact IsiPair.int_list (fin (by decide) (I.tok _))
  ·exact IsiPair.int_tuple (fin (by decide) (I.tok _))
  ·exact IsiPair.int_dict (fin (by decide) (I.tok _))
 |str y =>
  obtain⟨tk,rfl⟩:=rx;have ht':t = "str":=ht;subst ht';rcases hT' with rfl|rfl|rfl|rfl|rfl|rfl
  ·exact IsiPair.str_int (fin (by decide) (I.tok _))
  ·exact IsiPair.str_bool (fin (by decide) (I.tok _))
  ·exact IsiPair.str_str (fin (by decide) I)
  ·exact IsiPair.str_list (fin (by decide) (I.tok _))
  ·exact IsiPair.str_tuple (fin (by decide) (I.tok _))
  ·exact IsiPair.str_dict (fin (by decide) (I.tok _))
 |ref p =>
  cases rx;have ht':(t = "list"/\∃xs,SqL X.K H p xs)\/(t = "tuple"/\∃xs,SqT X.K H p xs):=ht;rcases ht' with⟨rfl,ys,hy⟩|⟨rfl,ys,hy⟩
  ·obtain⟨its,rv,⟨o,n,e,hc,_,_⟩,hz⟩:=I.list hy;rcases hT' with rfl|rfl|rfl|rfl|rfl|rfl
   ·exact IsiPair.list_int e hc (fin (by decide) (I.tok _))
   ·exact IsiPair.list_bool e hc (fin (by decide) (I.tok _))
   ·exact IsiPair.list_str e hc (fin (by decide) (I.tok _))
   ·exact IsiPair.list_list e hc (fin (by decide) I)
   ·exact IsiPair.list_tuple e hc (fin (by decide) (I.tok _))
   ·exact IsiPair.list_dict e hc (fin (by decide) (I.tok _))
  ·obtain⟨its,rv,⟨o,e,hc,n,_⟩,hz⟩:=I.tuple hy;rcases hT' with rfl|rfl|rfl|rfl|rfl|rfl
   ·exact IsiPair.tuple_int e hc (fin (by decide) (I.tok _))
   ·exact IsiPair.tuple_bool e hc (fin (by decide) (I.tok _))
   ·exact IsiPair.tuple_str e hc (fin (by decide) (I.tok _))
   ·exact IsiPair.tuple_list e hc (fin (by decide) (I.tok _))
   ·exact IsiPair.tuple_tuple e hc (fin (by decide) I)
   ·exact IsiPair.tuple_dict e hc (fin (by decide) (I.tok _))
 |_=>exact(show False from ht).elim
end
section
variable {X:Cx}{pos:Pos}
theorem mE(bs:List Bool):(jk bs.length).all (fun i=>bs.getD i false)=bs.all id:=by
 rw[qv];simp only[jq,wb,id];constructor
 ·intro h x hx;obtain⟨i,hi,rfl⟩:=List.mem_iff_getElem.mp hx;have:=h i hi;simpa [Γ,ζ hi] using this
 ·intro h i hi;have:=h bs[i] (ju hi);simpa [Γ,ζ hi] using this
theorem bC(hc:X.calm=true):vK X (.builtin "all") (fun xs H Q=>∃(a:Addr) (bs:List Bool),xs=[.ref a]/\SqL X.K H a (bs.map V.bl)/\Q (.bl (bs.all id)) H):=by
 intro pins s σ H xs us Q I r h;obtain⟨a,bs,rfl,ha,q⟩:=h;obtain⟨u,rfl,rx⟩:=vals1 r;cases rx;obtain⟨its,rv,pl,hz⟩:=I.list ha;have hlen:bs.length=its.length:=by have:=rv.length;simpa using this
 have hlt:a≠s.heap.objs.size:=by obtain⟨o,n,ho,_⟩:=pl;exact ja (ik ho)
 refine call_all_walk (qt pl.isList ?_);refine⟨s.heap.objs.size,_,_,_,_,_,fun i=>bs.getD i false,rfl,Walks.list (show X.A.in1.handled=none from I.ok.hd hc) _ a hlt its.toArray,⟨⟨_,ij _ rfl,rfl,rfl⟩,pl.isList.push _⟩,?_,fun h' tk hk=>?_⟩
 ·intro i v s' Q' E' hP hQ;have hv:its[i]?=some v:=by simpa using hP
  obtain⟨x,hx,rxv⟩:=rv.getR hv;rw[ig]at hx;cases hb:bs[i]? with
  |none=>rw[hb]at hx;cases hx
  |some b =>
   rw[hb]at hx;cases hx;cases rxv;have e:bs.getD i false=b:=by simp[Γ,hb]
   have hQ':Q' (bs.getD i false) s':=hQ;rw[e]at hQ';exact mq hQ'
 ·refine⟨.bl (bs.all id),H,I.kept fun b o e=>hk b o (by simp;exact ja (ik e)) (τ _ e),?_,q⟩;show Value.bool _=Value.bool _;rw[←mE bs,hlen];simp
end
abbrev Cx.comp (X:Cx) (scope:Scope) (cl:List (Str×Addr)) (N:List Str) (s:ω) (H:Hp) (fp:List Addr) (C:Addr):Cx where
 prog:=X.prog
 w:=X.w
 K:=X.K
 mg:=X.mg
 base:=X.base
 A:=X.A
 N:=N
 s₀:=s
 H₀:=H
 env:=compEnvC scope cl C X.env
 outer:=X.stack
 stack:=X.stack
 ex:=fp
 fn:=fun _=>false
 calm:=X.calm
 pn:=[]
 xe:=fun _ _=>False
def gY (env:Env):List (Str×Addr)->Prop
 |[]=>True
 |p::r=>env.cells.lookup p.1=some p.2/\gY env r
theorem gY.all : ∀{cl:List (Str×Addr)},gY env cl->∀p∈cl,env.cells.lookup p.1=some p.2
 |[],_,p,hp=>by simp at hp
 |_::_,h,p,hp=>(π.mp hp).elim (fun e=>e ▸ h.1) (gY.all h.2 p)
theorem gY.at(h:gY env cl)(e:cl.lookup x=some c):env.cells.lookup x=some c :=
 h.all (x,c) (nh e)
def rK (X:Cx) (scope:Scope) (cl:List (Str×Addr)):List Str->List Nat->Prop
 |[],[]=>True
 |y::ys,j::js=>(X.N[j]?=some y/\X.env.kindOf y=some .cell/\(relabel scope X.env).names.lookup y=some .cell/\∃c,cl.lookup y=some c)/\rK X scope cl ys js
 |_,_=>False
theorem rK.get : ∀{ys:List Str}{js:List Nat}{k:Nat}{y:Str},rK X scope cl ys js->ys[k]?=some y →
  ∃j,js[k]?=some j/\X.N[j]?=some y/\X.env.kindOf y=some .cell/\(relabel scope X.env).names.lookup y=some .cell/\∃c,cl.lookup y=some c
 |[],[],k,y,_,e=>by simp at e
 |y'::ys,j::js,0,y,h,e=>by
  simp at e;subst e;exact⟨j,rfl,h.1⟩
 |y'::ys,j::js,k+1,y,h,e=>by
  obtain⟨j',e1,r⟩:=rK.get (k:=k) h.2 (by simpa using e);exact⟨j',by simpa using e1,r⟩
 |[],_::_,_,_,h,_=>h.elim
 |_::_,[],_,_,h,_=>h.elim
theorem rK.len : ∀{ys:List Str}{js:List Nat},rK X scope cl ys js->ys.length=js.length
 |[],[],_=>rfl
 |_::_,_::_,h=>by rw[Ω,Ω,rK.len h.2]
 |[],_::_,h=>h.elim
 |_::_,[],h=>h.elim
def gV (k:Nat) (js:List Nat) (σ:St):St:=jz k none++js.map fun j=>σ.getD j none
def PIf (X:Cx) (ifs:List Expr) (t:TT):Prop :=
 ∀(pins:List (Addr×Obj)) (s:ω) (σ:St) (H:Hp) (Q:Bool->Hp->Prop),Inv X pins σ H s->t σ H Q →
  iz (jh X.prog X.w) X.A (forIn ifs true fun c r=>if r=true then do let ok ←isTrue c X.env (eval c X.env);pure (vb ok) else pure (vb r)) (TP X pins σ Q) X.xe s
def tYes:TT:=fun _ H Q=>Q true H
theorem kP : PIf X [] tYes:=fun _ _ _ H _ I h=>wpAny_tests_nil ⟨H,I,h⟩
theorem aNn(h:PT X c t):PIf X [c] t:=fun pins s σ H Q I hq=>wpAny_tests_one (h pins s σ H Q I hq)
theorem Inv.nsys(I:Inv X pins σ H s):s.heap.objs.size≠ky:=fun z=>by
 have h:iq<s.heap.objs.size:=(I.mod.glob.keeps I.bk).lt;rw[z]at h;exact absurd h (by decide)
def gQ (J:It) (k:Nat) (js:List Nat) (g:TG) (tc:TT) (te:TE) (σ:St) (Q:VK) (H1:Hp):Prop :=
 ∃W:Nat->Nat->St->List V->Hp->Prop,(∃m,W 0 m (gV k js σ) [] H1)/\∀i m σ' xs H',W i m σ' xs H' →
  (J.stop i H'/\∀p,H' p=none->p≠ky->Q (.ref p) (upd H' p (.lst xs))) ∨
  (J.go i H'/\xs.length<ψ/\∃N:St->List V->Hp->Prop,(∀σ' ys H',N σ' ys H'->∃m',m'<m/\W (i+1) m' σ' ys H') ∧
   ∀x H2,J.yld i H' x H2->g x σ' H2 fun σ3 H3=>tc σ3 H3 fun b H4=>if b=true then te σ3 H4 fun v H5=>N σ3 (xs++[v]) H5 else N σ3 xs H4)
def tComp (wi:TI) (k:Nat) (js:List Nat) (g:TG) (tc:TT) (te:TE):TE:=fun σ H Q=>wi σ H fun J H1=>gQ J k js g tc te σ Q H1
section
variable {prog:mf}{w:oo}{A:mn}{R:Result->ω->Prop}{s:ω}
theorem uJ{iter:Expr}{acc:Value}(I:Nat->ω->Prop)
  (turn:∀n s,I n s->iz (jh prog w) A (pyNext it) (fun r s₁=>match r with
   |none=>R (.ok .next) s₁
   |some v=>iz (jh prog w) A (xf target it v) (fun _ s₀=>iz (jh prog w) A (assign target env v) (fun _ s₂ =>
     iz (jh prog w) A (forIn ifs true fun c r=>if r=true then do let ok ←isTrue c env (eval c env);pure (vb ok) else pure (vb r)) (fun ok s₃ =>
      if ok=true then iz (jh prog w) A (eval elt env) (fun x s₄ =>
       iz (jh prog w) A (call (.builtin "list.append") [acc,x]) (fun _ s₅=>∃m,m<n/\I m s₅) (fun _ _=>False) s₄) (fun _ _=>False) s₃
      else ∃m,m<n/\I m s₃) (fun _ _=>False) s₂) (fun _ _=>False) s₀) (fun _ _=>False) s₁) (fun _ _=>False) s)
  (n:Nat)(h:I n s):codeAny (jh prog w) A (.compLoop (.ListComp elt [⟨target,iter,ifs,0⟩] scope pos) 0 it acc env) R s:=by
 refine codeAny_loop rfl I (fun n s hI=>?_) n h;show iz _ A ((compTurn (.ListComp elt [⟨target,iter,ifs,0⟩] scope pos) 0 it acc env).onRaise (fun x=>do noteFrame x env;theTreesLotGoes x)) _ _ s;refine wpAny_noted ?_;rw[compTurn_list];refine ξ (wpAny_standAt (ξ (ny (turn n s hI) (fun r s₁ h₁=>?_) fun _ _ z=>kn z)));cases r with
 |none=>exact iy h₁
 |some v =>
  refine ξ (ny h₁ (fun _ s₀ h₀=>?_) fun _ _ z=>kn z);refine ξ (ny h₀ (fun _ s₂ h₂=>ξ (ny h₂ (fun ok s₃ h₃=>?_) fun _ _ z=>kn z)) fun _ _ z=>kn z);cases ok with
  |false=>exact iy ⟨rfl,h₃⟩
  |true =>
   exact ξ (ξ (ny h₃ (fun x s₄ h₄=>ξ (ny h₄ (fun _ s₅ h₅=>iy (iy ⟨rfl,h₅⟩)) fun _ _ z=>kn z)) fun _ _ z=>kn z))
end
theorem HOk.but{H:Hp}{h':mv}(x:HOk P w H h)(hn:H C=none)(k:∀b o,b≠C->h.get? b=some o->h'.get? b=some o):HOk P w H h':=fun b u e =>
 (x b u e).stay (fun c v hc q=>k c v (by
  rcases hc with z|z
  ·intro y;rw[←z,y,hn]at e;cases e
  ·intro y;rw[y,hn]at z;cases z) q) (fun _ q=>q) fun _ _ q=>q
theorem HOk.track{H:Hp}(x:HOk P w H h)(hn:H a=none)(new:qZ P w (upd H a o) h a o):HOk P w (upd H a o) h:=fun b u e=>by
 by_cases hb:b=a
 ·subst hb;rw[jP]at e;cases e;exact new
 ·rw[jT hb]at e;exact(x b u e).stay (fun _ _ _ q=>q) (fun c q=>by rw[jT (jN q hn)];exact q) fun c xs q=>by rw[jT (jN q hn)];exact q
section
variable {X:Cx}{elt tg iter:Expr}{ifs:List Expr}{scope:Scope}{cl:List (Str×Addr)}{ts ys:List Str}{js:List Nat}{pos:Pos}{wi:TI}{g:TG}{tc:TT}{te:TE}
theorem aHf{i:Nat}(h:(gV k js σ)[i]?=some (some v)):∃n j,i=k+n/\js[n]?=some j/\σ[j]?=some (some v):=by
 unfold gV at h
 by_cases hi:i<k
 ·rw[ir (by simpa using hi),List.getElem?_replicate]at h
  split at h <;> cases h
 ·rw[ie (by simpa using hi),ig,mw]at h;cases e:js[i-k]? with
  |none=>rw[e]at h;cases h
  |some j =>
   rw[e]at h;have h' : σ.getD j none=some v:=kf h;refine⟨i-k,j,by omega,e,?_⟩;rw[Γ]at h';cases q : σ[j]? with
   |none=>rw[q]at h';cases h'
   |some o=>rw[q]at h';exact congrArg some h'
theorem wN{s:ω}{fp:List Addr}{C:Addr}{h1:mv}{t':Nat}(I:Inv X pins σ H s)(hsub:gY X.env cl)(hcap:rK X scope cl ys js)
  (hkind:scope.kind=.function)(hhas:∀x,((relabel scope X.env).names.lookup x=some .cell\/(relabel scope X.env).names.lookup x=some .free)->∃c,cl.lookup x=some c)
  (f2:∀b∈fp,eN X pins H b)(fl:∀b∈fp,b<s.heap.objs.size)(hC:s.heap.objs.size<=C)(hn:h1.Ns C m)(old:∀b o,s.heap.get? b=some o->h1.get? b=some o):
  Inv (X.comp scope cl (ts++ys) s H fp C) [] (gV ts.length js σ) H { s with heap:=h1,toks:=t' }:=by
 obtain⟨mo,hno,hlo⟩:=id I.loc;refine⟨⟨I.ok.mod,hkind,I.ok.glob,I.ok.blt,hC,fun x y c e1 e2=>I.ok.inj x y c (hsub.at e1) (hsub.at e2),fun x hx=>hhas x hx,fun x c z _=>(by cases z),I.ok.hd,I.ok.frames,.inl rfl,
   fun b hb=>⟨ja (Δ (fl b hb) hC),fun x c e=>(f2 b hb).2.2.2.2.1 x c (hsub.at e)⟩,I.bs,ip I.ok.bsz I.sz,fun b o e hb=>?_,fun b hb z=>?_,I.stack,I.stkFree⟩,
  rfl,I.bare,Un.kept old,⟨m,hn,fun i x v e1 e2 e3=>?_⟩,fun x c e=>?_,I.hok.fresh hC,fun x c e=>I.freeC x c (hsub.at e),fun p hp=>absurd (show p∈([]:List (Addr×Obj)) from hp) (by simp),I.hok.kept old,?_⟩
 ·-- an object of the base is none of the iterator's
  obtain⟨_,_,_,h3,_⟩:=f2 b hb;rcases h3 with z|z
  ·exact I.ok.noex b o e z
  ·exact absurd (Δ (ik e) (ip I.ok.bsz z)) (qc _)
 ·obtain⟨_,h1',h2',_⟩:=f2 b hb;rcases π.mp (I.stkSub b z) with e|e
  ·exact h1' e
  ·exact h2' e
 ·obtain⟨n,j,rfl,ej,es⟩:=aHf e2;have ey:ys[n]?=some x:=by
   have e1':(ts++ys)[ts.length+n]?=some x:=e1;rw[ie (by omega)]at e1';simpa using e1'
  obtain⟨j',ej',hN,hk,hr,c,hc⟩:=hcap.get ey;rw[ej]at ej';cases ej';obtain⟨u,ru,l⟩:=hlo j x v hN es (.inr (.inl hk));refine⟨u,ru,.inr ⟨.inl hr,c,hc,?_⟩⟩;rcases l with⟨k1,_⟩|⟨_,c',hc',⟨o,ho,hd⟩⟩
  ·rw[hk]at k1;cases k1
  ·have:=hsub.at hc;rw[hc']at this;cases this;exact⟨o,old _ o ho,hd⟩
 ·obtain⟨v,o,ho,hd⟩:=I.cell x c (hsub.at e);exact⟨v,o,old _ o ho,hd⟩
 ·show(gV ts.length js σ).length=(ts++ys).length;unfold gV;rw[θ,θ,mw,δ,hcap.len]
theorem aJx{H3:Hp}{s4:ω}{fp:List Addr}{D:Addr}(I2:Inv X pins σ H2 s2)(f2:∀b∈fp,eN X pins H2 b)
  (I4:Inv (X.comp scope cl N s2 H2 fp C) pins' σ' H3 s4)(hC:s2.heap.objs.size<=C)(hD:s2.heap.objs.size<=D)(hDC:D≠C)(hs':pq C s4.heap h')(rv:kM xs its)(hz:xs.length<=ψ)(e4:s4.heap.get? D=some { cls:=.type "list",data:=.seq its.toArray n })(hn:H3 D=none):
  Inv X pins σ (upd H3 D (.lst xs)) { s4 with heap:=h' }:=by
 have ext:=hs'.extBut;have neC:∀b o,s2.heap.get? b=some o->b≠C:=fun b o e=>ja (Δ (ik e) hC);have neD:∀b o,s2.heap.get? b=some o->b≠D:=fun b o e=>ja (Δ (ik e) hD);have hok:HOk X.prog X.w (upd H3 D (.lst xs)) h':=by
  have h1:HOk X.prog X.w H3 h':=HOk.but (C:=C) I4.hok I4.free fun b o hb e=>ext b o hb e;exact HOk.track h1 hn ⟨hz,its,n,rv,ext D _ hDC e4⟩
 have B:Un (frs X.stack) fp H2 H3 s2.heap s4.heap:=I4.base;have u:Un (frs X.stack) fp H2 (upd H3 D (.lst xs)) s2.heap h':=by
  refine⟨fun b o e q hb hx=>ext b o (neC b o e) (B.keep b o e q hb hx),fun b o e q hb hx=>?_,fun b o e q hx=>?_,fun b o e hx=>?_,fun b ys q=>?_,fun b o ys q=>?_,fun b ps q=>?_⟩
  ·obtain⟨sl,e1⟩:=B.slot b o e q hb hx;exact⟨sl,ext b _ (neC b o e) e1⟩
  ·rw[jT (neD b o e)];exact B.free b o e q hx
  ·obtain⟨o',e1⟩:=B.there b o e hx;exact⟨o',ext b _ (neC b o e) e1⟩
  ·have:=B.tups b ys q;rw[jT (jN this hn)];exact this
  ·have:=B.frzs b o ys q;rw[jT (jN this hn)];exact this
  ·obtain⟨m1,e1⟩:=B.tbls b ps q;exact⟨m1,by rw[jT (jN e1 hn)];exact e1⟩
 have os:s4.os=s2.os:=I4.os;have gb:=I4.bare;obtain⟨hh,gg,dd,tt,os'⟩:=s4;obtain rfl:os'=s2.os:=os;have fin:=I2.call (h':=h') (g':=gg) (d':=dd) (t':=tt) (ch:=fp) u hok gb fun b hb=>⟨(f2 b hb).2.2.2.1,(f2 b hb).2.1,(f2 b hb).2.2.2.2.1,(f2 b hb).2.2.2.2.2⟩;exact fin
theorem kQ(ts ys:List Str)(js:List Nat)(hc:X.calm=true)(hi:PI X tg iter wi)(hclos:closureFor scope X.env=pure cl)(hsub:gY X.env cl)(hcap:rK X scope cl ys js)
  (hg:∀s H fp C,PG (X.comp scope cl (ts++ys) s H fp C) tg g)(ht:∀s H fp C,PIf (X.comp scope cl (ts++ys) s H fp C) ifs tc)(he:∀s H fp C,PE (X.comp scope cl (ts++ys) s H fp C) elt te)
  (hkind:scope.kind=.function:=by rfl)(hcell:(scope.names.all fun y=>y.2 != .cell)=true:=by rfl)
  (hnames:(scope.names.all fun y=>y.2 != .local||scope.names.lookup y.1 == some .local)=true:=by rfl)
  (hhas:((relabel scope X.env).names.all fun p=>(p.2 != .cell&&p.2 != .free)||(cl.lookup p.1).isSome)=true:=by rfl)
  (hs:∀x,foldedSetIterable iter X.env x=pure x:=by intro _;rfl):PE X (.ListComp elt [⟨tg,iter,ifs,0⟩] scope pos) (tComp wi ts.length js g tc te):=by
 intro pins s σ H Q I h;have hcell':∀y∈scope.names,y.2≠.cell:=fun y hy z=>by
  have:=jq.mp hcell y hy;rw[z]at this;exact absurd this (by decide)
 have hnames':∀y∈scope.names,y.2=.local->scope.names.lookup y.1=some .local:=fun y hy z=>by
  have:=jq.mp hnames y hy;rw[z]at this;simpa using this
 have hhas':∀x,((relabel scope X.env).names.lookup x=some .cell\/(relabel scope X.env).names.lookup x=some .free)->∃c,cl.lookup x=some c:=fun x hx=>by
  rcases hx with hx|hx
  ·have:=jq.mp hhas _ (nh hx);exact qm.mp (by simpa using this)
  ·have:=jq.mp hhas _ (nh hx);exact qm.mp (by simpa using this)
 rw[eval_ListComp];refine wpAny_comprehension_free (use:=none) rfl hs hclos hkind hnames' (thn (hi pins s σ H _ I h) fun v s1 h1=>thn h1 fun itv s2 h2=>?_);obtain⟨it,fp,tn,J,H2,e,I2,T,st2,f2,W,⟨m0,w0⟩,turn⟩:=h2;subst e;have fl:∀b∈fp,b<s2.heap.objs.size:=fun b hb=>by
  obtain⟨o,e,_⟩:=T.obj _ _ st2 b hb;exact ik e
 refine xu (wpAny_newFunctionEnv hcell' (by intro y hy;simp at hy) (fun h₁ hns₁ hsb₁=>?_) hkind);dsimp only at hns₁ hsb₁ ⊢;generalize hHH:s2.heap.push { cls:=.type "list",dict:=none,data:=.seq ([]:List Value).toArray }=HH at hns₁ hsb₁ ⊢;have hC:HH.objs.size=s2.heap.objs.size+1:=by rw[←hHH,sy]
 have hDC:s2.heap.objs.size≠HH.objs.size:=by rw[hC];exact ja (wf _)
 have hCle:s2.heap.objs.size<=HH.objs.size:=by rw[hC];exact ug _
 have old:∀b o,s2.heap.get? b=some o->h₁.get? b=some o:=fun b o e =>
  hsb₁.extBut b o (ja (Δ (ik e) hCle)) (τ _ (hHH ▸ τ _ e))
 have hacc:h₁.get? s2.heap.objs.size=some { cls:=.type "list",data:=.seq ([]:List Value).toArray }:=hsb₁.extBut _ _ hDC (τ _ (hHH ▸ ij _ rfl));have nofs:∀b,s2.heap.objs.size<=b->b∉frs X.stack:=fun b hb z=>by
  rcases π.mp (I2.stkSub b z) with e|e
  ·exact absurd (Δ I2.lt (e ▸ hb)) (qc _)
  ·exact I2.nofs hb e
 have nocell:∀b,s2.heap.objs.size<=b->∀x c,cl.lookup x=some c->c≠b:=fun b hb x c e z=>by
  obtain⟨v,q⟩:=I2.cell x c (hsub.at e);exact absurd (Δ q.lt (z ▸ hb)) (qc _)
 have I':Inv (X.comp scope cl (ts++ys) s2 H2 fp HH.objs.size) [] (gV ts.length js σ) H2 { s2 with heap:=h₁,toks:=s2.toks+([]:List (Str×Value)).length } :=
  wN I2 hsub hcap hkind hhas' f2 fl hCle hns₁ old
 have addPin:∀{σ':St}{H':Hp}{s':ω}{o:Obj},Inv (X.comp scope cl (ts++ys) s2 H2 fp HH.objs.size) [] σ' H' s'->s'.heap.get? s2.heap.objs.size=some o->H' s2.heap.objs.size=none->(∀v,o.data≠.cell v) →
   Inv (X.comp scope cl (ts++ys) s2 H2 fp HH.objs.size) [(s2.heap.objs.size,o)] σ' H' s':=fun {σ' H' s' o} J e n d=>J.pins_of fun p hp=>by
  have e':p=(s2.heap.objs.size,o):=by simpa using hp
  subst e';exact⟨e,n,hDC,nofs _ (ν _),d⟩
 have stat:∀{pins':List (Addr×Obj)}{H':Hp},(∀p∈pins',p.1=s2.heap.objs.size)->(∀b∈fp,H' b=none)->∀b∈fp,eN (X.comp scope cl (ts++ys) s2 H2 fp HH.objs.size) pins' H' b:=fun {pins' H'} hp hn b hb =>
  ⟨hn b hb,ja (Δ (fl b hb) hCle),I'.ok.exfs b hb,.inl hb,(I'.ok.exf b hb).2,fun p hq z=>by
   have hq':p∈pins':=by simpa using hq
   exact absurd (fl b hb) (by rw[←z,hp p hq'];exact qc _)⟩
 have tn1:tn 0 h₁:=T.keep _ _ _ st2 fun b _ o e=>old b o e;have loop:∀s₃ : ω,s₃ = { s2 with heap:=h₁,toks:=s2.toks+([]:List (Str×Value)).length } →
   codeAny (jh X.prog X.w) X.A (.compLoop (.ListComp elt [⟨tg,iter,ifs,0⟩] scope pos) 0 (.ref it) (.ref s2.heap.objs.size) (compEnvC scope cl HH.objs.size X.env))
    (compPost (jh X.prog X.w) X.A X.xe none (EP X pins σ Q) (.ref s2.heap.objs.size) HH.objs.size) s₃:=by
  rintro s₃ rfl;refine uJ (fun n s'=>∃i σ' xs H' its nn,Inv (X.comp scope cl (ts++ys) s2 H2 fp HH.objs.size) [] σ' H' s'/\kM xs its/\xs.length<=ψ/\s'.heap.get? s2.heap.objs.size=some { cls:=.type "list",data:=.seq its.toArray nn }/\H' s2.heap.objs.size=none ∧
   tn i s'.heap/\(∀b∈fp,H' b=none)/\W i n σ' xs H') ?_ m0 ⟨0,_,[],H2,[],0,I',.nil,io _,hacc,I2.hok.fresh (ν _),tn1,fun b hb=>(f2 b hb).1,w0⟩
  rintro n s3 ⟨i,σ3,xs,H3,its,nn,I3,rv,hz3,ac3,nD3,st3,fr3,w3⟩;have nd:∀v,({ cls:=.type "list",data:=.seq its.toArray nn } : Obj).data≠.cell v:=fun v z=>by
   have z':Data.seq its.toArray nn=Data.cell v:=z;cases z'
  have I3p:=addPin I3 ac3 nD3 nd;have pinD:∀p∈[(s2.heap.objs.size,({ cls:=.type "list",data:=.seq its.toArray nn } : Obj))],p.1=s2.heap.objs.size:=fun p hp=>by
   rw[ο]at hp;rw[hp]
  rcases turn i n σ3 xs H3 w3 with⟨stop,qn⟩|⟨go,hz,N,hN,step⟩
  ·refine thn (T.done (X.comp scope cl (ts++ys) s2 H2 fp HH.objs.size) rfl rfl rfl hc i _ s3 σ3 H3 (fun _ _=>False) I3p (stat pinD fr3) st3 stop) fun r s4 zq=>?_;obtain⟨hr,I4⟩:=zq;subst hr;obtain⟨m,hn,_⟩:=I4.loc;have ac4:=(I4.pin _ (Ψ _ (ο.mpr rfl))).1;exact⟨m,hn,fun h' hs'=>⟨.ref s2.heap.objs.size,_,aJx I2 f2 I4 hCle (ν _) hDC hs' rv hz3 ac4 nD3,rfl,qn _ nD3 I2.nsys⟩⟩
  ·refine thn (T.item (X.comp scope cl (ts++ys) s2 H2 fp HH.objs.size) rfl rfl rfl hc i _ s3 σ3 H3 (fun _ _=>False) I3p (stat pinD fr3) st3 go) fun r s4 zq=>?_;obtain⟨u,hr,h4⟩:=zq;subst hr;refine thn h4 fun _ s5 zq=>?_;obtain⟨x,H5,I5,r5,y5,st5,fr5⟩:=zq;have I5':=I5.pinned (stat pinD fr5) (T.obj _ _ st5);refine thn (hg _ _ _ _ _ s5 σ3 H5 x u _ I5' r5 (step x H5 y5)) fun _ s6 zq=>?_;obtain⟨σ6,H6,I6,q6⟩:=zq;refine thn (ht _ _ _ _ _ s6 σ6 H6 _ I6 q6) fun b s7 zq=>?_;obtain⟨H7,I7,q7⟩:=zq;have facts:∀{σ':St}{H':Hp}{s':ω},Inv (X.comp scope cl (ts++ys) s2 H2 fp HH.objs.size) ([(s2.heap.objs.size,({ cls:=.type "list",data:=.seq its.toArray nn } : Obj))]++dO fp s5.heap) σ' H' s' →
     s'.heap.get? s2.heap.objs.size=some { cls:=.type "list",data:=.seq its.toArray nn }/\H' s2.heap.objs.size=none/\tn (i+1) s'.heap/\(∀b∈fp,H' b=none):=fun {σ' H' s'} J=>by
    have p1:=J.pin (s2.heap.objs.size,({ cls:=.type "list",data:=.seq its.toArray nn } : Obj)) (by simp);refine⟨p1.1,p1.2.1,T.keep _ _ _ st5 fun b hb o e=>(J.pin (b,o) (Ψ _ (Ψ _ (yF hb e)))).1,fun b hb=>?_⟩;obtain⟨o,e,d⟩:=T.obj _ _ st5 b hb;exact(J.pin (b,o) (Ψ _ (Ψ _ (yF hb e)))).2.1
   have bare:∀{σ':St}{H':Hp}{s':ω},Inv (X.comp scope cl (ts++ys) s2 H2 fp HH.objs.size) ([(s2.heap.objs.size,({ cls:=.type "list",data:=.seq its.toArray nn } : Obj))]++dO fp s5.heap) σ' H' s' →
     Inv (X.comp scope cl (ts++ys) s2 H2 fp HH.objs.size) [] σ' H' s':=fun J=>J.pins_of fun p hp=>absurd hp (by simp)
   cases b with
   |false =>
    have q7':N σ6 xs H7:=by simpa using q7
    obtain⟨m',hm,w7⟩:=hN _ _ _ q7';obtain⟨a1,a2,a3,a4⟩:=facts I7;show ∃m,m<n/\_;exact⟨m',hm,i+1,σ6,xs,H7,its,nn,bare I7,rv,hz3,a1,a2,a3,a4,w7⟩
   |true =>
    have q7':te σ6 H7 fun v H5=>N σ6 (xs++[v]) H5:=by
     rw[if_pos rfl]at q7;exact q7
    show iz _ _ (eval elt _) _ _ s7;refine thn (he _ _ _ _ _ s7 σ6 H7 _ I7 q7') fun xv s8 zq=>?_;obtain⟨v,H8,I8,r8,n8⟩:=zq;obtain⟨m',hm,w8⟩:=hN _ _ _ n8;obtain⟨a1,a2,a3,a4⟩:=facts I8;have hl:=rv.length;refine uy F.slot_list_append ⟨_,a1,rfl⟩ F.entry_list_append (F.args_list_append_2 _ _) (PySem.list_append s2.heap.objs.size its.toArray nn xv (by rw[Φ];omega)) ⟨a1,?_⟩;obtain⟨n9,q9⟩ : ∃n9,(s8.heap.update s2.heap.objs.size (ux fun a=>a.push xv)).get? s2.heap.objs.size=some { cls:=.type "list",data:=.seq (its++[xv]).toArray n9 } :=
     ⟨_,by rw[show(its++[xv]).toArray=its.toArray.push xv by simp];exact PySem.IsL.update a1 (fun a=>a.push xv)⟩
    have I9:Inv (X.comp scope cl (ts++ys) s2 H2 fp HH.objs.size) [] σ6 H8 { s8 with heap:=s8.heap.update s2.heap.objs.size (ux fun a=>a.push xv),toks:=s8.toks } :=
     (bare I8).turned (it:=s2.heap.objs.size) (fun b o hb e=>(lw s8.heap _ (lm hb)).trans e) a2 hDC (.inr (ν _)) (nocell _ (ν _)) fun p hp=>absurd (show p∈([]:List (Addr×Obj)) from hp) (by simp)
    refine⟨m',hm,i+1,σ6,xs++[v],H8,its++[xv],n9,I9,rv.append (.cons r8 .nil),?_,q9,a2,?_,a4,w8⟩
    ·rw[θ,mh];omega
    ·exact T.keep _ _ _ a3 fun b hb o e=>(lw s8.heap _ (lm (ja (fl b hb)))).trans e
 exact codeAny_compStart_list (loop _ rfl) (T.self _ 0 _ _ _ tn1 (loop _ rfl))
end
abbrev qW (js:List Nat) (σ:St):St:=js.map fun j=>σ.getD j none
def yD (P:Nat->List V->Hp->Prop) (i:Nat) (js:List Nat) (σ:St):St->List V->Hp->Prop:=fun σ' ys H=>P (i+1) ys H/\∃o,σ'=o::qW js σ
theorem vO{K:Ξ}{xs:List V}{k:Nat}{tc:TT}{te:TE}{Q:VK}(P:Nat->List V->Hp->Prop)(h0:P 0 [] H1)(hl:∀i ys H,i<=xs.length->P i ys H->SqL K H a xs/\ys.length<=i)(hz:xs.length<ψ)
  (hs:∀i x ys H,xs[i]?=some x->P i ys H->tc (some x::qW js σ) H fun b H2=>if b=true then te (some x::qW js σ) H2 fun v H3=>yD P i js σ (some x::qW js σ) (ys++[v]) H3 else yD P i js σ (some x::qW js σ) ys H2)
  (hd:∀ys H,P xs.length ys H->∀p,H p=none->Q (.ref p) (upd H p (.lst ys)))(hk:k=1:=by rfl):
  gQ (Itl K a) k js (zA 0) tc te σ Q H1:=by
 subst hk;refine⟨fun i m σ' ys H=>m=xs.length-i/\i<=xs.length/\P i ys H/\∃o,σ'=o::qW js σ,⟨xs.length,by simp,io _,h0,none,rfl⟩,?_⟩;rintro i m σ' ys H ⟨rfl,hi,p,o,rfl⟩;obtain⟨q,hy⟩:=hl i ys H hi p
 by_cases hlt:i<xs.length
 ·refine .inr ⟨⟨xs,xs[i],q,by simp[hlt]⟩,by omega,yD P i js σ,fun σ3 zs H3 z=>⟨xs.length-(i+1),by omega,rfl,hlt,z.1,z.2⟩,fun x H' y=>?_⟩;obtain⟨e,y⟩:=y;subst e;exact hs i x ys _ (y xs q) p
 ·have e:i=xs.length:=by omega
  subst e;exact .inl ⟨⟨xs,q,ν _⟩,fun l n _=>hd ys H p l n⟩
theorem nE{K:Ξ}{xs:List V}{k:Nat}{tc:TT}{te:TE}{Q:VK}(P:Nat->List V->Hp->Prop)(h0:P 0 [] H1)(hl:∀i ys H,i<=xs.length->P i ys H->SqT K H a xs/\ys.length<=i)(hz:xs.length<ψ)
  (hs:∀i x ys H,xs[i]?=some x->P i ys H->tc (some x::qW js σ) H fun b H2=>if b=true then te (some x::qW js σ) H2 fun v H3=>yD P i js σ (some x::qW js σ) (ys++[v]) H3 else yD P i js σ (some x::qW js σ) ys H2)
  (hd:∀ys H,P xs.length ys H->∀p,H p=none->Q (.ref p) (upd H p (.lst ys)))(hk:k=1:=by rfl):
  gQ (Itt K a) k js (zA 0) tc te σ Q H1:=by
 subst hk;refine⟨fun i m σ' ys H=>m=xs.length-i/\i<=xs.length/\P i ys H/\∃o,σ'=o::qW js σ,⟨xs.length,by simp,io _,h0,none,rfl⟩,?_⟩;rintro i m σ' ys H ⟨rfl,hi,p,o,rfl⟩;obtain⟨q,hy⟩:=hl i ys H hi p
 by_cases hlt:i<xs.length
 ·refine .inr ⟨⟨xs,xs[i],q,by simp[hlt]⟩,by omega,yD P i js σ,fun σ3 zs H3 z=>⟨xs.length-(i+1),by omega,rfl,hlt,z.1,z.2⟩,fun x H' y=>?_⟩;obtain⟨e,y⟩:=y;subst e;exact hs i x ys _ (y xs q) p
 ·have e:i=xs.length:=by omega
  subst e;exact .inl ⟨⟨xs,q,ν _⟩,fun l n _=>hd ys H p l n⟩
theorem yI{lo:Int}{n:Nat}{k:Nat}{tc:TT}{te:TE}{Q:VK}(P:Nat->List V->Hp->Prop)(h0:P 0 [] H1)(hl:∀i ys H,i<=n->P i ys H->ys.length<=i)(hz:n<ψ)
  (hs:∀i ys H,i<n->P i ys H->tc (some (.int (lo+i))::qW js σ) H fun b H2=>if b=true then te (some (.int (lo+i))::qW js σ) H2 fun v H3=>yD P i js σ (some (.int (lo+i))::qW js σ) (ys++[v]) H3 else yD P i js σ (some (.int (lo+i))::qW js σ) ys H2)
  (hd:∀ys H,P n ys H->∀p,H p=none->Q (.ref p) (upd H p (.lst ys)))(hk:k=1:=by rfl):
  gQ (Itr lo n) k js (zA 0) tc te σ Q H1:=by
 subst hk;refine⟨fun i m σ' ys H=>m=n-i/\i<=n/\P i ys H/\∃o,σ'=o::qW js σ,⟨n,by simp,io _,h0,none,rfl⟩,?_⟩;rintro i m σ' ys H ⟨rfl,hi,p,o,rfl⟩;have hy:=hl i ys H hi p
 by_cases hlt:i<n
 ·refine .inr ⟨hlt,by omega,yD P i js σ,fun σ3 zs H3 z=>⟨n-(i+1),by omega,rfl,hlt,z.1,z.2⟩,fun x H' y=>?_⟩;obtain⟨e,y⟩:=y;subst e;subst y;exact hs i ys _ hlt p
 ·have e:i=n:=by omega
  subst e;exact .inl ⟨ν _,fun l n _=>hd ys H p l n⟩
section
variable {prog:mf}{w:oo}{A:mn}{E:Value->ω->Prop}{s:ω}
theorem aJm{R:Result->ω->Prop}{b:Int}{n:Nat}(hh:A.handled=none)(hr:IsRange s.heap r a b c t u v)(hbig:ub.Range.small a b c=false)(hn:pw a b c=n)(hlen:n<=2 ^ 24)(D:Addr)(res:Value)(c0:Nat)
  (hD:s.heap.get? D=some { cls:=.type "list",data:=.seq #[] c0 })
  (hR:∀h' tk acc' c',(∀b o,b≠D->s.heap.get? b=some o->h'.get? b=some o)->h'.get? D=some { cls:=.type "list",dict:=none,data:=.seq acc' c',slots:=#[] }->ItemsOf (fun i v=>∃t,v=.int (a+i*c) t) acc' n->R (.ok (.ret res)) { s with heap:=h',toks:=tk }):
  iz (jh prog w) A.in1 (vm (.ref D) (.ref r) res) (fun fin s'=>match fin with | .done f=>R (.ok f) s' | .again c'=>c'.quiet=true/\codeAny (jh prog w) A c' R s') (fun e s'=>R (.error e) s') s:=by
 have nDr:D≠r:=fun e=>by
  rw[e,hr]at hD;simp at hD
 have nDI:D≠s.heap.objs.size:=ja (ik hD);have nDf:D∉[s.heap.objs.size]:=fun z=>nDI (ο.mp z);have W:=(Walks.longrange (prog:=prog) (w:=w) (A:=A.in1) hh s.heap.objs.size a c n).toS;have go:∀(g:mv) (c1 tk:Nat),IsLongIter g s.heap.objs.size (a+((0:Nat):Int)*c) ((n:Int)-((0:Nat):Int)) c->(∀b o,b≠D->s.heap.get? b=some o->g.get? b=some o)->g.get? D=some { cls:=.type "list",data:=.seq #[] c1 } →
   codeAny (jh prog w) A (.builtin "list.extend.loop" ⟨[.ref D,.ref s.heap.objs.size,res],[]⟩) R { s with heap:=g,toks:=tk }:=by
  intro g c1 tk hit hk hD1;refine codeAny_extend_loopS W (by rw[jf];omega) D nDf res n 0 _ #[] c1 rfl (io _) hit hD1 (ItemsOf.nil _) fun s' acc' c' hm hD' hacc=>?_;rw[Moved.eq_with hm];exact hR s'.heap s'.toks acc' c' (fun b o hb e=>hm.heap b o (fun z=>(π.mp z).elim hb fun z=>absurd (ik e) (by rw[ο.mp z];exact qc _)) (hk b o hb e)) hD' hacc
 unfold vm;refine ξ (wpAny_typeOf (T:="range") ⟨_,hr,rfl⟩ ?_);simp only[show ub.List.listSameRef (.ref D) (.ref r)=false by simp[ub.List.listSameRef,nDr],show(Value.type "range" == Value.type "list")=false by decide,show(Value.type "range" == Value.type "tuple")=false by decide,Bool.or_false,uz,if_false];refine ξ (wpAny_pyIter_longrange hr hbig (ξ (rm (wpAny_hint_range (n:=n) (τ _ hr) hn hlen ?_))));have hit1:IsLongIter (s.heap.push { cls:=.type "longrange_iterator",data:=.fields #[rawInt a,rawInt (pw a b c),rawInt c] }) s.heap.objs.size (a+((0:Nat):Int)*c) ((n:Int)-((0:Nat):Int)) c:=by
  show IsLongIter _ _ _ _ _;rw[hn];simpa using ij _ rfl
 have hD1:=τ { cls:=.type "longrange_iterator",data:=.fields #[rawInt a,rawInt (pw a b c),rawInt c] } hD;refine wpAny_ite_split (fun _=>?_) (fun _=>iy ⟨plainId_quiet F.plain_extend_loop _,go _ c0 _ hit1 (fun b o _ e=>τ _ e) hD1⟩);refine ξ (wpAny_rule (ξ ?_));show iz _ _ (updateSeq D (·.push .none) >>= fun _=>updateSeq D (·.pop)) _ _ _;refine ξ (wpAny_updateSeq hD1 rfl ?_);have hD2:=ua (ux (·.push sg)) hD1 rfl;refine wpAny_updateSeq (hz:=by seq_fits) hD2 rfl ?_;have hD3:=ua (ux (·.pop)) hD2 rfl;refine iy ⟨plainId_quiet F.plain_extend_loop _,go _ _ _ ((lw _ _ nDI).trans ((lw _ _ nDI).trans hit1)) (fun b o hb e=>?_) hD3⟩;exact(lw _ _ (lm hb)).trans ((lw _ _ (lm hb)).trans (τ _ e))
theorem aHm{Q:Value->ω->Prop}{b:Int}{n:Nat}(hh:A.handled=none)(hr:IsRange s.heap r a b c t u v)(hbig:ub.Range.small a b c=false)(hn:pw a b c=n)(hlen:n<=2 ^ 24)
  (hQ:∀h' tk acc' c',(∀b o,s.heap.get? b=some o->h'.get? b=some o)->h'.get? s.heap.objs.size=some { cls:=.type "list",dict:=none,data:=.seq acc' c',slots:=#[] }->ItemsOf (fun i v=>∃t,v=.int (a+i*c) t) acc' n->Q (.ref s.heap.objs.size) { s with heap:=h',toks:=tk }):
  iz (jh prog w) A (call (.type "list") [.ref r]) Q E s:=by
 refine callType_codes (Q₁:=fun obj s1=>obj=.ref s.heap.objs.size/\s1={ s with heap:=s.heap.push { cls:=.type "list",data:=.seq #[] } }) F.called_list (F.typeCall_list_1 _) F.entry_list_init (code_list_new _ ⟨rfl,rfl⟩) fun obj s1 h1=>?_;obtain⟨rfl,rfl⟩:=h1;have hD:(s.heap.push { cls:=.type "list",data:=.seq #[] }).get? s.heap.objs.size=some { cls:=.type "list",data:=.seq #[] }:=ij _ rfl;have hr1:IsRange (s.heap.push { cls:=.type "list",data:=.seq #[] }) r a b c t u v:=τ _ hr;have nDr:s.heap.objs.size≠r:=fun e=>by
  rw[e]at hD;have:=hD.symm.trans hr1;simp at this
 refine⟨⟨_,hD,rfl⟩,F.args_list_init_2 _ _,?_⟩;show iz _ _ (do let old ←ub.List.listItems (.ref s.heap.objs.size);ub.List.listUpdate (.ref s.heap.objs.size) (fun _=>#[]);letGo old.toList.reverse;vm (.ref s.heap.objs.size) (.ref r) .none) _ _ _;refine ξ ?_;unfold ub.List.listItems;refine ξ (qp hD rfl (iy ?_));refine ξ (m:=updateSeq s.heap.objs.size (fun _=>#[])) (wpAny_updateSeq hD rfl ?_);have hD2:=ua (ux (fun _=>(#[]:Array Value))) hD rfl;refine ξ (wpAny_letGo ?_);refine aJm (A:=A.in1) hh ((lw _ _ nDr).trans hr1) hbig hn hlen _ .none _ hD2 fun h' tk acc' c' hk hD' hacc=>?_;exact⟨rfl,hQ h' tk acc' c' (fun b o e=>hk b o (ja (ik e)) ((lw _ _ (we (ik e))).trans (τ _ e))) hD' hacc⟩
end
def yG (lo:Int) (n:Nat):List Int:=(jk n).map fun i:Nat=>lo+(i:Int)
theorem aY(lo:Int)(n:Nat):(yG lo n).length=n:=by simp[yG]
section
variable {X:Cx}
theorem aEm(K:Ξ)(h:X.K=K):IxR X (rIxT K):=h ▸ jY
theorem wV(K:Ξ)(h:X.K=K):IxR X (aJg K):=h ▸ jU
theorem aCv(lo:Int):∀(n:Nat) (acc:Array Value),ItemsOf (fun i v=>∃t,v=Value.int (lo+(i:Nat)*1) t) acc n->kM ((yG lo n).map V.int) acc.toList:=by
 intro n acc h;obtain⟨hs,hi⟩:=h;have key:∀(l:List Value) (k:Nat),(∀j v,l[j]?=some v->∃t,v=Value.int (lo+((k+j:Nat):Int)) t)->kM ((List.range' k l.length).map fun i:Nat=>V.int (lo+(i:Int))) l:=by
  intro l
  induction l with
  |nil=>intro k _;exact .nil
  |cons v l ih =>
   intro k hk;rw[Ω,List.range'_succ,jx];refine .cons ?_ (ih (k+1) fun j v hv=>?_)
   ·obtain⟨t,e⟩:=hk 0 v rfl;exact⟨t,by simpa using e⟩
   ·obtain⟨t,e⟩:=hk (j+1) v (by simpa using hv);exact⟨t,by rw[e,show k+1+j=k+(j+1) by omega]⟩
 have:=key acc.toList 0 fun j v hv=>by
  obtain⟨t,e⟩:=hi j v (by simpa using hv);exact⟨t,by rw[e];simp⟩
 rw[show(yG lo n).map V.int=(List.range' 0 acc.toList.length).map fun i:Nat=>V.int (lo+(i:Int)) by rw[show acc.toList.length=n by simpa using hs];simp[yG,List.range_eq_range']];exact this
theorem eW(hc:X.calm=true):vK X (.type "list") (fun xs H Q=>∃(p:Addr) (lo hi:Int),xs=[.ref p]/\H p=some (.rng lo hi)/\hi-lo<=2 ^ 24/\∀l,H l=none->Q (.ref l) (upd H l (.lst ((yG lo (hi-lo).toNat).map V.int)))):=by
 intro pins s σ H xs us Q I r h;obtain⟨p,lo,hi,rfl,hp,hz,q⟩:=h;obtain⟨u,rfl,rx⟩:=vals1 r;cases rx;obtain⟨t,u,v,e⟩:=I.hok p _ hp;have hsz:pw lo hi 1=((hi-lo).toNat:Int):=by rw[rangeSize_one];split <;> omega
 have fin:∀(h':mv) (tk:Nat) (acc:Array Value) (c':Nat),(∀b o,s.heap.get? b=some o->h'.get? b=some o)->h'.get? s.heap.objs.size=some { cls:=.type "list",dict:=none,data:=.seq acc c',slots:=#[] } →
   ItemsOf (fun i v=>∃t,v=Value.int (lo+(i:Nat)*1) t) acc (hi-lo).toNat->EP X pins σ Q (.ref s.heap.objs.size) { s with heap:=h',toks:=tk }:=fun h' tk acc c' kp e hacc=>by
  refine⟨.ref s.heap.objs.size,_,I.laid kp (ν _) (show qZ X.prog X.w _ h' _ (.lst ((yG lo (hi-lo).toNat).map V.int)) from⟨?_,acc.toList,c',aCv lo _ acc hacc,by simpa using e⟩),rfl,q _ (I.hok.fresh (ν _))⟩;rw[δ,aY,jf];omega
 cases hs:ub.Range.small lo hi 1 with
 |true=>exact call_list_range (I.ok.hd hc) e hs hsz (by omega) fin
 |false=>exact aHm (I.ok.hd hc) e hs hsz (by omega) fin
end
section
variable {κ : Type} [DecidableEq κ]
def aS (kvs:List (κ×V)) (k : κ):Option V:=(kvs.find? fun kv=>decide (kv.1=k)).map (·.2)
def putK (kvs:List (κ×V)) (k : κ) (v:V):List (κ×V) :=
 if (kvs.any fun kv=>decide (kv.1=k))=true then kvs.map (fun kv=>if kv.1=k then (kv.1,v) else kv) else kvs++[(k,v)]
def aNz (kvs:List (κ×V)) (k : κ):List (κ×V):=kvs.filter fun kv=>decide (kv.1≠k)
theorem oV{p: κ×V}{r:List (κ×V)}{k: κ}(e:p.1=k):aS (p::r) k=some p.2:=by simp[aS,vd,e]
theorem nN{p: κ×V}{r:List (κ×V)}{k: κ}(e:¬ p.1=k):aS (p::r) k=aS r k:=by simp[aS,vd,e]
theorem wP(k : κ):∀kvs:List (κ×V),(kvs.any fun kv=>decide (kv.1=k))=(aS kvs k).isSome
 |[]=>rfl
 |p::r=>by
  rw[yo]
  by_cases e:p.1=k
  ·simp only[oV e,decide_eq_true e,Bool.true_or,Option.isSome_some]
  ·rw[nN e,decide_eq_false e,Bool.false_or];exact wP k r
theorem cW(kvs:List (κ×V))(k : κ)(v:V):(putK kvs k v).length<=kvs.length+1:=by
 unfold putK
 split
 ·rw[δ];omega
 ·rw[θ,Ω,List.length_nil];omega
theorem cP.isSome_eq(r:cP o u):o.isSome=u.isSome:=by
 cases o with
 |none=>cases u with
  |none=>rfl
  |some _=>exact(show False from r).elim
 |some _=>cases u with
  |none=>exact(show False from r).elim
  |some _=>rfl
theorem cP.getD(r:cP o u)(rd:RelV d d'):RelV (o.getD d) (u.getD d'):=by
 cases o with
 |none=>cases u with
  |none=>exact rd
  |some _=>exact(show False from r).elim
 |some _=>cases u with
  |none=>exact(show False from r).elim
  |some _=>exact r
theorem KV.val(r:KV kvs vs)(k : κ):cP (aS kvs k) (vo vs k):=by
 unfold KV at r
 induction r with
 |nil=>exact jm
 | @cons p q ps qs h t ih =>
  obtain⟨h1,h2⟩:=h
  by_cases e:p.1=k
  ·have e':q.1=k:=h1.symm.trans e;have b:vo (q::qs) k=some q.2:=by simp[vo,vd,e']
   rw[oV e,b];exact h2
  ·have e':¬ q.1=k:=fun z=>e (h1.trans z);have b:vo (q::qs) k=vo qs k:=by simp[vo,vd,e']
   rw[nN e,b];exact ih
theorem KV.any(r:KV kvs vs)(k : κ):(kvs.any fun kv=>decide (kv.1=k))=vs.any fun kv=>decide (kv.1=k):=by
 unfold KV at r
 induction r with
 |nil=>rfl
 |cons h t ih=>rw[yo,yo,ih,h.1]
theorem KV.repl(r:KV kvs vs)(k : κ)(ry:RelV y u):
  KV (kvs.map fun kv=>if kv.1=k then (kv.1,y) else kv) (vs.map fun kv=>if kv.1=k then (kv.1,u) else kv):=by
 unfold KV at r ⊢
 induction r with
 |nil=>exact .nil
 | @cons p q ps qs h t ih =>
  rw[jx,jx];refine .cons ?_ ih;obtain⟨h1,h2⟩:=h
  by_cases e:p.1=k
  ·rw[if_pos e,if_pos (h1.symm.trans e)];exact⟨h1,ry⟩
  ·rw[if_neg e,if_neg (fun z=>e (h1.trans z))];exact⟨h1,h2⟩
theorem KV.put(r:KV kvs vs)(k : κ)(ry:RelV y u):KV (putK kvs k y) (stored vs k u):=by
 unfold putK stored;rw[r.any k]
 by_cases e:(vs.any fun kv=>decide (kv.1=k))=true
 ·rw[if_pos e,if_pos e];exact r.repl k ry
 ·rw[if_neg e,if_neg e];exact Paired.snoc r ⟨rfl,ry⟩
theorem KV.drop(r:KV kvs vs)(k : κ):KV (aNz kvs k) (without vs k):=by
 unfold KV at r ⊢;unfold aNz without
 induction r with
 |nil=>exact .nil
 | @cons p q ps qs h t ih =>
  obtain⟨h1,h2⟩:=h;rw[List.filter_cons,List.filter_cons]
  by_cases e:p.1=k
  ·have a:¬ decide (p.1≠k)=true:=by simp[e]
   have b:¬ decide (q.1≠k)=true:=by simp[h1.symm.trans e]
   rw[if_neg a,if_neg b];exact ih
  ·have e':¬ q.1=k:=fun z=>e (h1.trans z);have a:decide (p.1≠k)=true:=by simp[e]
   have b:decide (q.1≠k)=true:=by simp[e']
   rw[if_pos a,if_pos b];exact .cons ⟨h1,h2⟩ ih
theorem KV.keys{kvs:List (κ×V)}{vs:List (κ×Value)}(r:KV kvs vs):kvs.map (·.1)=vs.map (·.1):=by
 unfold KV at r
 induction r with
 |nil=>rfl
 |cons h t ih=>rw[jx,jx,ih,h.1]
theorem KV.length(r:KV kvs vs):kvs.length=vs.length:=qb r
end
theorem sG(r:RelV (kV k) u):(qN P w).is k u=true:=by
 cases k with
 |inl i=>obtain⟨t,e⟩:=(show ∃t,u=Value.int i t from r);subst e;exact aBr P w i t
 |inr x=>obtain⟨t,e⟩:=(show ∃t,u=Value.str x t from r);subst e;exact aAf P w x t
theorem rW : ∀{ks:List Key}{us:List Value},kM (ks.map kV) us->ItemsAre (qN P w) ks us
 |[],_,r=>by rw[List.map_nil]at r;cases r;exact .nil
 |k::ks,_,r=>by
  rw[jx]at r;cases r with
  |cons h t=>exact .cons (sG h) (rW t)
abbrev KT (H:Hp):List (List Key×V)->List (List Key×Addr×Value)->Prop:=Paired fun p q=>p.1=q.1/\H q.2.1=some (.tup (p.1.map kV))/\RelV p.2 q.2.2
theorem KT.val(r:KT H kvs xs)(k:List Key):cP (aS kvs k) ((atKey xs k).map (·.2)):=by
 induction r with
 |nil=>exact jm
 | @cons p q ps qs h t ih =>
  obtain⟨h1,_,h2⟩:=h
  by_cases e:p.1=k
  ·have e':q.1=k:=h1.symm.trans e;have b:atKey (q::qs) k=some q.2:=by simp[atKey,vd,e']
   rw[oV e,b];exact h2
  ·have e':¬ q.1=k:=fun z=>e (h1.trans z);have b:atKey (q::qs) k=atKey qs k:=by simp[atKey,vd,e']
   rw[nN e,b];exact ih
theorem KT.repl(r:KT H kvs xs)(k:List Key)(ry:RelV y u):
  KT H (kvs.map fun kv=>if kv.1=k then (kv.1,y) else kv) (xs.map (putAt k u)):=by
 induction r with
 |nil=>exact .nil
 | @cons p q ps qs h t ih =>
  rw[jx,jx];refine .cons ?_ ih;obtain⟨h1,h2,h3⟩:=h;unfold putAt
  by_cases e:p.1=k
  ·rw[if_pos e,if_pos (h1.symm.trans e)];exact⟨h1,h2,ry⟩
  ·rw[if_neg e,if_neg (fun z=>e (h1.trans z))];exact⟨h1,h2,h3⟩
theorem KT.put{H:Hp}(r:KT H kvs xs)(k:List Key)(hb:H b=some (.tup (k.map kV)))(ry:RelV y u):
  KT H (putK kvs k y) (storedH xs k b u):=by
 have e:(kvs.any fun kv=>decide (kv.1=k))=(atKey xs k).isSome:=by
  rw[wP,(r.val k).isSome_eq,Option.isSome_map]
 unfold putK storedH;rw[e]
 by_cases q:(atKey xs k).isSome=true
 ·rw[if_pos q,if_pos q];exact r.repl k ry
 ·rw[if_neg q,if_neg q];exact Paired.snoc r ⟨rfl,hb,ry⟩
theorem KT.keeps{H H':Hp}(r:KT H kvs xs)(ht:∀b ys,H b=some (.tup ys)->H' b=some (.tup ys)):KT H' kvs xs :=
 Paired.mapP r fun _ _ z=>⟨z.1,ht _ _ z.2.1,z.2.2⟩
section
variable {P:mf}{w:oo}{H:Hp}{h:mv}{a:Addr}
theorem aOg(ok:HOk P w H h)(e:Rd H a u):qZ P w H h a u:=e.ok ok
theorem sL(ok:HOk P w H h)(e:Rd H a (.dK kvs)):kvs.length<=ψ/\(a == ky)=false/\∃vs,KV kvs vs/\h.DictOf (qN P w) a vs :=
 show qZ P w H h a (.dK kvs) from aOg ok e
theorem oO(ok:HOk P w H h)(e:H a=some (.dK kvs)):kvs.length<=ψ/\(a == ky)=false/\∃vs,KV kvs vs/\h.DictOf (qN P w) a vs:=sL ok (.inl e)
theorem nT{ks:List Key}(ok:HOk P w H h)(e:H a=some (.tup (ks.map kV))):(tupleKind (qN P w)).is h ks a:=by
 obtain⟨_,its,r,o,h1,h2,n,h3⟩:=(show qZ P w H h a (.tup (ks.map kV)) from ok a _ e);exact⟨o,its.toArray,n,h1,h2,h3,by simpa using rW r⟩
theorem sJ(ok:HOk P w H h)(e:Rd H a (.dT kvs)):kvs.length<=ψ/\(a == ky)=false ∧
  ∃xs,KT H kvs xs/\h.DictOfH (tupleKind (qN P w)) a xs:=by
 obtain⟨z,y,xs,r,o,es,ep,h1,h2,h3,h4,h5⟩:=(show qZ P w H h a (.dT kvs) from aOg ok e);refine⟨z,y,xs,r,o,es,ep,h1,h2,h3,h4,fun x hx=>?_,h5⟩;have all:∀{l:List (List Key×V)}{m:List (List Key×Addr×Value)},KT H l m->∀x∈m,(tupleKind (qN P w)).is h x.1 x.2.1:=by
  intro l m q
  induction q with
  |nil=>intro x hx;exact nomatch hx
  | @cons p q ps qs hq t ih =>
   intro x hx;rcases π.mp hx with e|hx
   ·subst e;exact nT ok (by rw[←hq.1];exact hq.2.1)
   ·exact ih x hx
 exact all r x hx
theorem dt_of(ok:HOk P w H h)(e:H a=some (.dT kvs)):kvs.length<=ψ/\(a == ky)=false ∧
  ∃xs,KT H kvs xs/\h.DictOfH (tupleKind (qN P w)) a xs:=sJ ok (.inl e)
end
def yR (H:Hp) (a:Addr) (y:V) (r:Option V):Prop :=
 (∃kvs k,Rd H a (.dK kvs)/\y=kV k/\r=aS kvs k)\/∃kvs k b,Rd H a (.dT kvs)/\y=.ref b/\H b=some (.tup (k.map kV))/\r=aS kvs k
def pM (H:Hp) (a:Addr) (y v:V) (H':Hp):Prop :=
 (∃kvs k,H a=some (.dK kvs)/\y=kV k/\kvs.length<ψ/\H'=upd H a (.dK (putK kvs k v))) ∨
 ∃kvs k b,H a=some (.dT kvs)/\y=.ref b/\H b=some (.tup (k.map kV))/\kvs.length<ψ/\H'=upd H a (.dT (putK kvs k v))
theorem yR.k{H:Hp}{a:Addr}{kvs:List (Key×V)}{k:Key}(e:H a=some (.dK kvs)):yR H a (kV k) (aS kvs k):=.inl ⟨kvs,k,.inl e,rfl,rfl⟩
theorem yR.t{H:Hp}{k:List Key}(e:H a=some (.dT kvs))(eb:H b=some (.tup (k.map kV))):yR H a (.ref b) (aS kvs k):=.inr ⟨kvs,k,b,.inl e,rfl,eb,rfl⟩
theorem pM.k{H:Hp}{a:Addr}{kvs:List (Key×V)}{k:Key}{v:V}(e:H a=some (.dK kvs))(hl:kvs.length<ψ):pM H a (kV k) v (upd H a (.dK (putK kvs k v))):=.inl ⟨kvs,k,e,rfl,hl,rfl⟩
theorem pM.t{H:Hp}{k:List Key}(e:H a=some (.dT kvs))(eb:H b=some (.tup (k.map kV)))(hl:kvs.length<ψ):
  pM H a (.ref b) v (upd H a (.dT (putK kvs k v))):=.inr ⟨kvs,k,b,e,rfl,eb,hl,rfl⟩
section
variable {X:Cx}{pins:List (Addr×Obj)}{σ:St}{H:Hp}{s:ω}{a:Addr}{y v:V}{u r:Value}{o:Option V}{A:mn}{E:Value->ω->Prop}
theorem Inv.big(I:Inv X pins σ H s):ky<s.heap.objs.size:=by
 have h:iq<s.heap.objs.size:=(I.mod.glob.keeps I.bk).lt;exact Nat.lt_trans (by decide) h
theorem aGk{Q:Value->ω->Prop}(hu:A.units+1<qj)(I:Inv X pins σ H s)(g:yR H a y (some v))(ry:RelV y u)(h:∀w' s',Inv X pins σ H s'->RelV v w'->Q w' s'):
  iz (jh X.prog X.w) A (getItem (.ref a) u) Q E s:=by
 rcases g with⟨kvs,k,e,ey,l⟩|⟨kvs,k,b,e,ey,eb,l⟩
 ·subst ey;obtain⟨z,hd,vs,rel,dd⟩:=sL I.hok e;obtain⟨w',hw,rw'⟩:=cP.some_of (v:=v) (o:=vo vs k) (by rw[l];exact rel.val k);exact wpAny_getItem_of (sG ry) dd.mapOf hw (h w' _ (I.tok _) rw')
 ·subst ey;cases (show u=km b from ry);obtain⟨z,hd,xs,rel,dd⟩:=sJ I.hok e;obtain⟨w',hw,rw'⟩:=cP.some_of (v:=v) (o:=(atKey xs k).map (·.2)) (by rw[l];exact rel.val k);obtain⟨p,hp,hp2⟩:=kc.mp hw;refine wpAny_getItem_heap (xj hu) (nT I.hok eb) dd hp ?_;rw[hp2];exact h w' _ (I.tok _) rw'
theorem d_in{Q:Value->ω->Prop}(hu:A.units+1<qj)(I:Inv X pins σ H s)(g:yR H a y o)(ry:RelV y u)(h:∀s',Inv X pins σ H s'->Q (.bool o.isSome) s'):
  iz (jh X.prog X.w) A (mj .In u (.ref a)) Q E s:=by
 rcases g with⟨kvs,k,e,ey,l⟩|⟨kvs,k,b,e,ey,eb,l⟩
 ·subst ey;obtain⟨z,hd,vs,rel,dd⟩:=sL I.hok e;refine wpAny_in_of (sG ry) hd dd.mapOf ?_;rw[←(rel.val k).isSome_eq,←l];exact h _ (I.tok _)
 ·subst ey;cases (show u=km b from ry);obtain⟨z,hd,xs,rel,dd⟩:=sJ I.hok e;refine wpAny_in_heap (xj hu) (nT I.hok eb) hd dd ?_;have q:=(rel.val k).isSome_eq;rw[Option.isSome_map]at q;rw[←q,←l];exact h _ (I.tok _)
theorem aMk{Q:Value->ω->Prop}(hu:A.units+1<qj)(I:Inv X pins σ H s)(g:yR H a y o)(ry:RelV y u)(h:∀s',Inv X pins σ H s'->Q (.bool (!o.isSome)) s'):
  iz (jh X.prog X.w) A (mj .NotIn u (.ref a)) Q E s:=by
 rcases g with⟨kvs,k,e,ey,l⟩|⟨kvs,k,b,e,ey,eb,l⟩
 ·subst ey;obtain⟨z,hd,vs,rel,dd⟩:=sL I.hok e;refine wpAny_notIn_of (sG ry) hd dd.mapOf ?_;rw[←(rel.val k).isSome_eq,←l];exact h _ (I.tok _)
 ·subst ey;cases (show u=km b from ry);obtain⟨z,hd,xs,rel,dd⟩:=sJ I.hok e;refine wpAny_notIn_heap (xj hu) (nT I.hok eb) hd dd ?_;have q:=(rel.val k).isSome_eq;rw[Option.isSome_map]at q;rw[←q,←l];exact h _ (I.tok _)
theorem uW{t':Nat}(I:Inv X pins σ H s)(mu:Mut (H a))(hs:pq a s.heap h')(he:∃q,h'.get? a=some q)(new:qZ X.prog X.w (upd H a ob) h' a ob):
  Inv X pins σ (upd H a ob) { s with heap:=h',toks:=t' } :=
 I.write (x:=a) (e:=a) mu (.inl rfl) (fun b q hb z=>(hs.2 b hb).trans z) he new
theorem aDe{h':mv}{kvs:List (Key×V)}(z:kvs.length<=ψ)(hd:(a == ky)=false)(rel:KV kvs vs)(dd:h'.DictOf (qN P w) a vs):
  qZ P w H' h' a (.dK kvs):=⟨z,hd,vs,rel,dd⟩
theorem aGz{Q:Unit->ω->Prop}(hu:A.units+1<qj)(I:Inv X pins σ H s)(g:pM H a y v H')(ry:RelV y u)(rv:RelV v r)(h:∀s',Inv X pins σ H' s'->Q () s'):
  iz (jh X.prog X.w) A (setItem (.ref a) u r) Q E s:=by
 rcases g with⟨kvs,k,e,ey,l,eH⟩|⟨kvs,k,b,e,ey,eb,l,eH⟩
 ·subst ey eH;obtain⟨z,hd,vs,rel,dd⟩:=oO I.hok e;have hz:vs.length<=ψ:=by rw[←rel.length];exact z
  have hl:(putK kvs k v).length<=ψ:=by have:=cW kvs k v;omega
  refine wpAny_setItem_pairs (hsz:=hz) (sG ry) dd fun h' dd' hs=>h _ ?_;have he:∃q,h'.get? a=some q:=let ⟨q,_,_,hq,_⟩:=dd'; ⟨q,hq⟩;exact uW I (by rw[e];exact jm) hs he (aDe hl hd (rel.put k rv) dd')
 ·subst ey eH;cases (show u=km b from ry);obtain⟨z,hd,xs,rel,dd⟩:=dt_of I.hok e;have hz:xs.length<=ψ:=by rw[←qb rel];exact z
  have hl:(putK kvs k v).length<=ψ:=by have:=cW kvs k v;omega
  refine wpAny_setItem_heap (hsz:=hz) (xj hu) (nT I.hok eb) dd fun h' dd' hs=>h _ ?_;obtain⟨q,es,ep,hq,h2,h3,h4,_,h5⟩:=dd';refine uW I (by rw[e];exact jm) hs ⟨q,hq⟩ ⟨hl,hd,_,(rel.put k eb rv).keeps fun c ys ec=>?_,q,es,ep,hq,h2,h3,h4,h5⟩;rw[jT (gW ec e (fun z=>nomatch z))];exact ec
end
def NoSl (i:Expr):Prop:=∀ov iv,subscripted i false ov iv=operate [ov,iv] (getItem ov iv)
theorem aLx{prog:mf}{w:oo}{A:mn}{E:Value->ω->Prop}{s:ω}{env:Env}{value slice:Expr}{pos:Pos}{T id:String}{Q:Value->ω->Prop}
  (hl:typeLookup (.type T) "__getitem__" = pure (some (.builtin id)))(hs:NoSl slice)
  (h:iz (jh prog w) A (eval value env) (fun o s₁=>iz (jh prog w) A (eval slice env) (fun i s₂=>s₂.TypeIs o T/\iz (jh prog w) A (getItem o i) Q E s₂) E s₁) E s):
  iz (jh prog w) A (eval (.Subscript value slice pos) env) Q E s:=by
 refine Subscript_ (ny h (fun o s₁ h₁=>ny h₁ (fun i s₂ h₂=>?_) fun _ _ x=>x) fun _ _ x=>x);obtain⟨hT,h₂⟩:=h₂;unfold subscriptTail;refine ξ ?_;rw[getitemInPython_of_ne hT.not_modules];refine ξ (wpAny_specialOf hT hl ?_);have fin:iz (jh prog w) A (subscripted slice false o i) (fun r s₃=>iz (jh prog w) A (letTemporaryGo value o r >>= fun _=>pure r) Q E s₃) E s₂:=by
  rw[hs o i];exact wpAny_operating (ny h₂ (fun r s₃ h₃=>ξ (wpAny_letTemporaryGo (iy h₃))) fun _ _ x=>x)
 first
  |exact iy (ξ fin)
  |exact ξ (iy (ξ fin))
  |exact ξ fin
theorem wF(I:Inv X pins σ H s)(g:yR H a y o):s.TypeIs (.ref a) "dict":=by
 rcases g with⟨kvs,k,e,_,_⟩|⟨kvs,k,b,e,_,_,_⟩
 ·obtain⟨_,_,vs,_,dd⟩:=sL I.hok e;exact dd.typeIs
 ·obtain⟨_,_,xs,_,dd⟩:=sJ I.hok e;exact dd.typeIs
def aOe (td ty:TE):TE:=fun σ H Q=>td σ H fun x H1=>ty σ H1 fun y H2=>∃a v,x=.ref a/\yR H2 a y (some v)/\Q v H2
def tDIn (ty td:TE):TE:=fun σ H Q=>ty σ H fun y H1=>td σ H1 fun x H2=>∃a o,x=.ref a/\yR H2 a y o/\Q (.bl o.isSome) H2
def aMf (ty td:TE):TE:=fun σ H Q=>ty σ H fun y H1=>td σ H1 fun x H2=>∃a o,x=.ref a/\yR H2 a y o/\Q (.bl (!o.isSome)) H2
def sDPut (td ty tv:TE):TS:=fun D σ H=>tv σ H fun v H1=>td σ H1 fun x H2=>ty σ H2 fun y H3=>∃a H4,x=.ref a/\pM H3 a y v H4/\D.nx σ H4
section
variable {X:Cx}{o i e value:Expr}{pos pos' tpos:Pos}{td ty tv:TE}
theorem yB(hu:X.A.units+1<qj)(ho:PE X o td)(hi:PE X i ty)(hs:NoSl i):PE X (.Subscript o i pos) (aOe td ty):=by
 intro pins s σ H Q I h;refine aLx PySem.F.slot_dict_getitem.lookup hs (thn (ho pins s σ H _ I h) fun u s1 zq=>zq.el fun x H1 I1 rx q1=>thn (hi pins s1 σ H1 _ I1 q1) fun iv s2 zq=>?_);obtain⟨y,H2,I2,ry,a,v,ex,g,q2⟩:=zq;subst ex;obtain rfl:u=km a:=rx;exact⟨wF I2 g,aGk hu I2 g ry fun w' s3 I3 rw'=>⟨v,H2,I3,rw',q2⟩⟩
theorem aQe(hu:X.A.units+1<qj)(hi:PE X i ty)(ho:PE X o td):PC X .In i o (tDIn ty td):=by
 intro pins s σ H Q I h;refine thn (hi pins s σ H _ I h) fun iv s1 zq=>zq.el fun y H1 I1 ry q1=>thn (ho pins s1 σ H1 _ I1 q1) fun u s2 zq=>?_;obtain⟨x,H2,I2,rx,a,ov,ex,g,q2⟩:=zq;subst ex;obtain rfl:u=km a:=rx;exact d_in hu I2 g ry fun s3 I3=>⟨.bl ov.isSome,H2,I3,rfl,q2⟩
theorem aHn(hu:X.A.units+1<qj)(hi:PE X i ty)(ho:PE X o td):PC X .NotIn i o (aMf ty td):=by
 intro pins s σ H Q I h;refine thn (hi pins s σ H _ I h) fun iv s1 zq=>zq.el fun y H1 I1 ry q1=>thn (ho pins s1 σ H1 _ I1 q1) fun u s2 zq=>?_;obtain⟨x,H2,I2,rx,a,ov,ex,g,q2⟩:=zq;subst ex;obtain rfl:u=km a:=rx;exact aMk hu I2 g ry fun s3 I3=>⟨.bl (!ov.isSome),H2,I3,rfl,q2⟩
theorem gK(hu:X.A.units+1<qj)(ho:PE X o td)(hi:PE X i ty)(hv:PE X value tv)(hs:swapsWith value (some (.Subscript o i pos')) pos.line X.env=pure false):
  PS X (.Assign [.Subscript o i pos'] value pos) (sDPut td ty tv):=by
 intro pins s σ H D I h;refine wpAny_Assign_Subscript (thn (hv pins s σ H _ I h) fun r s1 zq=>zq.el fun v H1 I1 rv q1=>thn (ho pins s1 σ H1 _ I1 q1) fun u s2 zq=>zq.el fun x H2 I2 rx q2=>thn (hi pins s2 σ H2 _ I2 q2) fun iv s3 zq=>?_) hs;obtain⟨y,H3,I3,ry,a,H4,ex,g,q3⟩:=zq;subst ex;obtain rfl:u=km a:=rx;exact aGz hu I3 g ry rv fun s4 I4=>⟨σ,H4,I4,q3⟩
end
theorem aAu(h:mv)(hb:ky<h.objs.size):qZ P w H (h.push { cls:=.type "dict",data:=.dict #[] }) h.objs.size (.dK []) :=
 ⟨io _,beq_eq_false_iff_ne.mpr (lm (ja hb)),[],.nil,mv.DictOf.new h⟩
def aQb:TE:=fun _ H Q=>∀p,H p=none->Q (.ref p) (upd H p (.dK []))
section
variable {X:Cx}{pos:Pos}
theorem oT:PE X (.Dict [] [] pos) aQb:=fun pins s σ H Q I h =>
 wpAny_Dict_empty ⟨.ref s.heap.objs.size,_,I.laid (a:=s.heap.objs.size) (o:=.dK []) (t':=s.toks) (fun _ _ q=>τ _ q) (ν _) (aAu s.heap I.big),rfl,h _ (I.hok.fresh (ν _))⟩
end
def IsD (H:Hp) (a:Addr):Prop:=(∃kvs,Rd H a (.dK kvs))\/∃kvs,Rd H a (.dT kvs)
theorem aQr(I:Inv X pins σ H s)(d:IsD H a):
  s.TypeIs (.ref a) "dict"/\(∀b,km a=.ref b->∃ob,s.heap.get? b=some ob/\ob.dict=none)/\(a == ky)=false:=by
 rcases d with⟨kvs,e⟩|⟨kvs,e⟩
 ·obtain⟨_,hd,vs,_,dd⟩:=sL I.hok e;refine⟨dd.typeIs,fun b q=>?_,hd⟩;cases q;obtain⟨ob,_,_,h1,h2,_⟩:=dd;exact⟨ob,h1,h2.2.1⟩
 ·obtain⟨_,hd,xs,_,dd⟩:=sJ I.hok e;refine⟨dd.typeIs,fun b q=>?_,hd⟩;cases q;obtain⟨ob,_,_,h1,h2,_⟩:=dd;exact⟨ob,h1,h2.2.1⟩
section
variable {X:Cx}
theorem sA:vK X (.builtin "isinstance") (fun xs H Q=>∃p T kvs,xs=[.ref p,.ty T]/\T∈aBj/\H p=some (.dK kvs)/\Q (.bl (isa "dict" T)) H):=by
 intro pins s σ H xs us Q I r h;obtain⟨p,T,kvs,rfl,hT,ht,q⟩:=h;obtain⟨u,w',rfl,rx,rT⟩:=vals2 r;cases rT;cases rx;have hT':T = "int" ∨ T = "bool" ∨ T = "str" ∨ T = "list" ∨ T = "tuple" ∨ T = "dict":=by simpa [aBj] using hT
 have fin:∀{k:Bool}{s':ω},isa "dict" T=k->Inv X pins σ H s'->EP X pins σ Q (.bool k) s':=fun {k s'} e I'=>by subst e;exact⟨.bl _,H,I',rfl,q⟩
 obtain⟨_,_,vs,_,o,es,ep,e,hx,_⟩:=I.hok p _ ht;have hc:o.cls=.type "dict":=hx.1;rcases hT' with rfl|rfl|rfl|rfl|rfl|rfl
 ·exact IsiPair.dict_int e hc (fin (by decide) (I.tok _))
 ·exact IsiPair.dict_bool e hc (fin (by decide) (I.tok _))
 ·exact IsiPair.dict_str e hc (fin (by decide) (I.tok _))
 ·exact IsiPair.dict_list e hc (fin (by decide) (I.tok _))
 ·exact IsiPair.dict_tuple e hc (fin (by decide) (I.tok _))
 ·exact IsiPair.dict_dict e hc (fin (by decide) I)
def Itx (x:Str):It:=⟨fun i _=>i<x.cps.size,fun i H v H'=>H'=H/\∃c,x.cps[i]?=some c/\v=.str ⟨#[c]⟩,fun i _=>x.cps.size<=i⟩
theorem aHu{K:Ξ}(it:Addr)(x:Str)(t:Tok)(ty:String)
  (hty : ["enumerate","zip","dict_itemiterator","dict_reverseitemiterator","odict_iterator","itertools.zip_longest","itertools.pairwise"].contains ty=false)
  (W:∀A:mn,A.handled=none->Walks P w A it [it] [it] x.cps.size (SignAt x) (fun i h=>h.IsStrIter it ty x t i))
  (hself:∀(A:mn) (i:Nat) (s:ω) (Q:Value->ω->Prop) (E:Value->ω->Prop),s.heap.IsStrIter it ty x t i->Q (.ref it) s->iz (jh P w) A (pyIter (.ref it)) Q E s):Turn P w K tg (Itx x) [it] it (fun i h=>h.IsStrIter it ty x t i/\i<=x.cps.size) where
 mem:=by simp
 obj:=fun i h st b hb=>by
  have e:b=it:=by simpa using hb
  subst e;obtain⟨⟨o,e,c,d⟩,_⟩:=st;exact⟨o,e,fun v z=>by rw[d]at z;cases z⟩
 keep:=fun i h h' st k=>⟨let ⟨o,ho,r⟩:=st.1; ⟨o,k it (by simp) o ho,r⟩,st.2⟩
 item:=by
  intro X hP hw hK hc i pins s σ H E I hf st hg;subst hP hw hK;obtain⟨f0,f1,f2,f3,f4,f5⟩:=hf it (by simp);refine(W X.A (I.ok.hd hc)).item i s _ _ hg st.1 fun v h' tk hv st' kk=>?_;obtain⟨c,u,hcc,rfl⟩:=hv;have I1:Inv X pins σ H { s with heap:=h',toks:=tk }:=I.turned (fun b o hb e=>kk b o (by simpa using hb) e) f0 f1 f3 f4 f5;obtain⟨o,e,cc,d⟩:=id st';exact⟨_,rfl,aEw (s:={ s with heap:=h',toks:=tk }) e cc d hty ⟨.str ⟨#[c]⟩,H,I1,⟨u,rfl⟩,⟨rfl,c,hcc,rfl⟩,⟨st',hg⟩,fun b hb=>(hf b hb).1⟩⟩
 done:=by
  intro X hP hw hK hc i pins s σ H E I hf st hg;subst hP hw hK;obtain⟨f0,f1,f2,f3,f4,f5⟩:=hf it (by simp);have hi:i=x.cps.size:=Nat.le_antisymm st.2 hg;subst hi;exact(W X.A (I.ok.hd hc)).done s _ _ st.1 fun h' tk eb=>⟨rfl,I.turned (fun b o hb e=>eb b o (by simpa using hb) e) f0 f1 f3 f4 f5⟩
 self:=fun A i s Q E st h=>hself A i s Q E st.1 h
def iStr (tl:TE):TI:=fun σ H R=>tl σ H fun v H1=>∃x,v=.str x/\R (Itx x) H1
theorem aQg(hl:PE X l tl):PI X tg l (iStr tl):=by
 intro pins s σ H R I h;refine thn (hl pins s σ H _ I h) fun v s1 zq=>?_;obtain⟨y,H1,I1,r1,q1⟩:=zq;obtain⟨x,e,q⟩:=q1;subst e;obtain⟨t,rfl⟩:=r1;have fin:∀(ty:String) (o:Obj),["enumerate","zip","dict_itemiterator","dict_reverseitemiterator","odict_iterator","itertools.zip_longest","itertools.pairwise"].contains ty=false →
   (∀A:mn,A.handled=none->Walks X.prog X.w A s1.heap.objs.size [s1.heap.objs.size] [s1.heap.objs.size] x.cps.size (SignAt x) (fun i h=>h.IsStrIter s1.heap.objs.size ty x t i)) →
   (∀(A:mn) (i:Nat) (s:ω) (Q:Value->ω->Prop) (E:Value->ω->Prop),s.heap.IsStrIter s1.heap.objs.size ty x t i->Q (.ref s1.heap.objs.size) s->iz (jh X.prog X.w) A (pyIter (.ref s1.heap.objs.size)) Q E s) →
   (s1.heap.push o).IsStrIter s1.heap.objs.size ty x t 0->PIE X pins σ tg R (.ref s1.heap.objs.size) { s1 with heap:=s1.heap.push o }:=fun ty o hty W hs st=>by
  refine⟨s1.heap.objs.size,[s1.heap.objs.size],_,_,H1,rfl,I1.kept (t':=s1.toks) fun b o e=>τ _ e,aHu _ x t ty hty W hs,⟨st,io _⟩,fun b hb=>?_,q⟩;have e:b=s1.heap.objs.size:=by simpa using hb
  subst e;exact I1.fpOk (ν _) (I1.hok.fresh (ν _))
 cases ha:x.cps.all (·<128)
 ·exact wpAny_pyIter_wide ha (fin "str_iterator" _ (by decide) (fun A hA=>Walks.strWide hA _ x t) (fun A i s Q E st h=>wpAny_pyIter_striter_wide st h) ⟨_,ij _ rfl,rfl,rfl⟩)
 ·exact wpAny_pyIter_ascii ha (fin "str_ascii_iterator" _ (by decide) (fun A hA=>Walks.strAscii hA _ x t) (fun A i s Q E st h=>wpAny_pyIter_striter_ascii st h) ⟨_,ij _ rfl,rfl,rfl⟩)
theorem aHx{x:Str}{k:Nat}{tc:TT}{te:TE}{Q:VK}(P:Nat->List V->Hp->Prop)(h0:P 0 [] H1)(hl:∀i ys H,i<=x.length->P i ys H->ys.length<=i)(hz:x.length<ψ)
  (hs:∀i c ys H,x.cps.toList[i]?=some c->P i ys H->tc (some (.str ⟨#[c]⟩)::qW js σ) H fun b H2=>if b=true then te (some (.str ⟨#[c]⟩)::qW js σ) H2 fun v H3=>yD P i js σ (some (.str ⟨#[c]⟩)::qW js σ) (ys++[v]) H3 else yD P i js σ (some (.str ⟨#[c]⟩)::qW js σ) ys H2)
  (hd:∀ys H,P x.length ys H->∀p,H p=none->Q (.ref p) (upd H p (.lst ys)))(hk:k=1:=by rfl):
  gQ (Itx x) k js (zA 0) tc te σ Q H1:=by
 subst hk;refine⟨fun i m σ' ys H=>m=x.cps.size-i/\i<=x.cps.size/\P i ys H/\∃o,σ'=o::qW js σ,⟨x.cps.size,by simp,io _,h0,none,rfl⟩,?_⟩;rintro i m σ' ys H ⟨rfl,hi,p,o,rfl⟩;have hy:=hl i ys H hi p;have hz':x.cps.size<ψ:=hz
 by_cases hlt:i<x.cps.size
 ·refine .inr ⟨hlt,by omega,yD P i js σ,fun σ3 zs H3 z=>⟨x.cps.size-(i+1),by omega,rfl,hlt,z.1,z.2⟩,fun v H' y=>?_⟩;obtain⟨e,c,hc,y⟩:=y;subst e;subst y;exact hs i c ys _ (by simpa using hc) p
 ·have e:i=x.cps.size:=by omega
  subst e;exact .inl ⟨ν _,fun l n _=>hd ys H p l n⟩
theorem aPy(x:Str)(c:Nat):(!(px x ⟨#[c]⟩ 0 x.length 1).isEmpty)=decide (c∈x.cps.toList):=by
 rw[PyProof.Rows.empty_one,Bool.not_not]
theorem aCo{ys:List Str}: ∀{us:List Value},kM (ys.map V.str) us->StrsAre us ys:=by
 induction ys with
 |nil=>intro us r;cases r;exact .nil
 |cons y ys ih =>
  intro us r;cases r with
  |cons a b=>obtain⟨t,rfl⟩:=a;exact .cons _ _ (ih b)
theorem rS:∀(tk:Nat) (ps:List Str),kM (ps.map V.str) (strsFrom tk ps)
 |_,[]=>.nil
 |tk,p::ps=>.cons ⟨_,rfl⟩ (rS (tk+1) ps)
theorem bZ:vK X (.type "int") (fun xs H Q=>∃(x:Str) (n:Int),xs=[.str x]/\PySem.intText? x=some n/\x.length<=640/\Q (.int n) H):=by
 intro pins s σ H xs us Q I r h;obtain⟨x,n,rfl,h1,h2,q⟩:=h;obtain⟨u,rfl,t,rfl⟩:=vals1 r;exact PySem.W.KIN.call_text h1 h2 ⟨.int n,H,I.tok _,⟨_,rfl⟩,q⟩
end
end L2
namespace L2
open PySem
theorem qL{c k p}{es:List Expr}: jl (.Constant c k p::es) env=(false,eval (.Constant c k p) env)::jl es env:=rfl
end L2
namespace L2
open PySem PySem.Spec PyProof.Rows
structure PEx (X:Cx) (e:Expr) (t:TE):Prop where
 h:PE X e t
structure PAx (X:Cx) (es:List Expr) (t:TA):Prop where
 h:PA X es t
structure aGc (X:Cx) (st:Stmt) (t:TS):Prop where
 h:PS X st t
structure PSx (X:Cx) (sts:List Stmt) (t:TS):Prop where
 h:PSs X sts t
section
variable {X:Cx}{e:Expr}{es:List Expr}{te:TE}{t:TA}{st:Stmt}{rest:List Stmt}{ts us:TS}
theorem aEb:PAx X [] aJp:=⟨jB⟩
theorem qP(ha:PEx X e te)(hr:PAx X es t)(hs:jl (e::es) X.env=(false,eval e X.env)::jl es X.env):PAx X (e::es) (aOv te t):=⟨jA ha.h hr.h hs⟩
theorem vI(h:PE X e te):PEx X e te:=⟨h⟩
theorem aIq(hes:PAx X es t)(hi:PEx X ix ti)(hs:uZ ix):PEx X (.Subscript (.List es p1) ix p2) (tOp (aJg X.K) (tLst t) ti):=⟨aOy jU (qE hes.h) hi.h hs⟩
theorem mM(h:PS X st ts):aGc X st ts:=⟨h⟩
theorem zO(h1:aGc X st ts)(h2:PSx X rest us):PSx X (st::rest) (vG ts us):=⟨jD h1.h h2.h⟩
theorem mI(h1:aGc X st ts):PSx X [st] ts:=⟨jC h1.h⟩
end
def CDivL (i j:Int):Prop:=0<j/\j<2 ^ 128
theorem log2_small{n:Nat}(h:n<2 ^ 128):n.log2<9000:=by
 by_cases h0:n=0
 ·subst h0;decide
 ·have:=(Nat.log2_lt h0).mpr h;omega
section
variable {X:Cx}
theorem aJn:OpR X (qo .FloorDiv) (rI CDivL fun i j=>.int (i / j)):=opI fun i j _ _ _ _ _ hc q=>by
 have hj : 0<=j:=Int.le_of_lt hc.1;have e:i.fdiv j=i / j:=Int.fdiv_eq_ediv_of_nonneg _ hj;refine floordiv_int (Int.ne_of_gt hc.1) (by rw[e];exact q) (.inl (PyProof.noPylong_of_log2 (log2_small ?_)));obtain⟨n,rfl⟩:=Int.eq_ofNat_of_zero_le hj;have h2:=hc.2;simp only[Int.natAbs_natCast]
 exact_mod_cast h2
mutual
inductive Dat (K:Ξ) (H:Hp):V->PyData->Prop
 |non:Dat K H .non .none
 |bl (b:Bool):Dat K H (.bl b) (.bool b)
 |int (i:Int):Dat K H (.int i) (.int i)
 |str (x:Str):Dat K H (.str x) (.str x)
 |lst {a:Addr}{xs:List V}{ds:List PyData} : SqL K H a xs->DatAll K H xs ds->Dat K H (.ref a) (.list ds)
 |tup {a:Addr}{xs:List V}{ds:List PyData} : SqT K H a xs->DatAll K H xs ds->Dat K H (.ref a) (.tuple ds)
inductive DatAll (K:Ξ) (H:Hp):List V->List PyData->Prop
 |nil:DatAll K H [] []
 |cons {x:V}{xs:List V}{d:PyData}{ds:List PyData} : Dat K H x d->DatAll K H xs ds->DatAll K H (x::xs) (d::ds)
end
mutual
theorem Inv.reads(I:Inv X pins σ H s):∀{x:V}{d:PyData}{u:Value},Dat X.K H x d->RelV x u->∃as,Reads s.heap u d as
 |_,_,_,.non,r=>by cases r;exact⟨_,.none⟩
 |_,_,_,.bl b,r=>by cases r;exact⟨_,.bool b⟩
 |_,_,_,.int i,r=>by obtain⟨t,rfl⟩:=r;exact⟨_,.int i t⟩
 |_,_,_,.str x,r=>by obtain⟨t,rfl⟩:=r;exact⟨_,.str x t⟩
 |_,_,_,.lst h ds,r=>by
  cases r;obtain⟨its,rv,⟨o,n,e,hc,_,hd⟩,_⟩:=I.list h;obtain⟨as,ra⟩:=Inv.readsAll I ds rv;exact⟨_,.list e hc hd ra⟩
 |_,_,_,.tup h ds,r=>by
  cases r;obtain⟨its,rv,⟨o,e,hc,n,hd⟩,_⟩:=I.tuple h;obtain⟨as,ra⟩:=Inv.readsAll I ds rv;exact⟨_,.tuple e hc hd ra⟩
theorem Inv.readsAll(I:Inv X pins σ H s):∀{xs:List V}{ds:List PyData}{us:List Value},DatAll X.K H xs ds->kM xs us->∃as,ReadsAll s.heap us ds as
 |_,_,_,.nil,r=>by cases r;exact⟨_,.nil⟩
 |_,_,_,.cons h t,r=>by
  cases r with
  |cons r1 r2 =>
   obtain⟨a1,e1⟩:=Inv.reads I h r1;obtain⟨a2,e2⟩:=Inv.readsAll I t r2;exact⟨_,.cons e1 e2⟩
end
def rEqD (K:Ξ) (neg:Bool):R2:=fun x y H Q=>∃d d':PyData,Dat K H x d/\Dat K H y d'/\ou d=true/\ou d'=true/\Q (.bl (xor neg (PyData.eqv d d'))) H
theorem aPo(hu:X.A.units+64<qj):OpR X (mj .Eq) (rEqD X.K false):=by
 intro pins s σ H x y v u Q I rx ry h;obtain⟨d,d',hx,hy,s1,s2,q⟩:=h;obtain⟨as,ra⟩:=I.reads hx rx;obtain⟨bs,rb⟩:=I.reads hy ry;exact eq_dataH ra rb s1 s2 hu ⟨.bl _,H,I,rfl,by simpa using q⟩
theorem aId(hu:X.A.units+64<qj):OpR X (mj .NotEq) (rEqD X.K true):=by
 intro pins s σ H x y v u Q I rx ry h;obtain⟨d,d',hx,hy,s1,s2,q⟩:=h;obtain⟨as,ra⟩:=I.reads hx rx;obtain⟨bs,rb⟩:=I.reads hy ry;exact ne_dataH ra rb s1 s2 hu ⟨.bl _,H,I,rfl,by simpa using q⟩
end
mutual
theorem Dat.same{K:Ξ}(g:jJ H H'):∀{x:V}{d:PyData},Dat K H x d->Dat K H' x d
 |_,_,.non=>.non
 |_,_,.bl b=>.bl b
 |_,_,.int i=>.int i
 |_,_,.str x=>.str x
 |_,_,.lst h t=>.lst (g.seq h) (DatAll.same g t)
 |_,_,.tup h t=>.tup (by
   rcases h with (h|⟨o,h⟩)|h
   ·exact .inl (.inl (g _ _ h))
   ·exact .inl (.inr ⟨o,g _ _ h⟩)
   ·exact .inr h) (DatAll.same g t)
theorem DatAll.same{K:Ξ}(g:jJ H H'):∀{xs:List V}{ds:List PyData},DatAll K H xs ds->DatAll K H' xs ds
 |_,_,.nil=>.nil
 |_,_,.cons h t=>.cons (Dat.same g h) (DatAll.same g t)
end
section
variable {X:Cx}
theorem aAr(hc:X.calm=true):vK X (.builtin "sum") (fun xs H Q=>∃(a:Addr) (ns:List Int),xs=[.ref a]/\SqL X.K H a (ns.map V.int)/\Q (.int ns.sum) H):=by
 intro pins s σ H xs us Q I r h;obtain⟨a,ns,rfl,ha,q⟩:=h;obtain⟨u,rfl,rx⟩:=vals1 r;cases rx;obtain⟨its,rv,pl,_⟩:=I.list ha;have hi:=intsAre_of rv;obtain⟨ys,hy⟩:=hi.allInts.items;refine sum_intListG (I.ok.hd hc) (hy ▸ pl.isList) fun h' tk t' hk=>?_;have e1:ns=ys.toList.map (·.1):=by
  rw[←nums_intItems,←hy];exact(show numsOf its.toArray.toList=ns from hi.numsOf).symm
 rw[preSum_eq,qd (by simp),←e1];exact⟨.int ns.sum,H,I.kept hk,⟨_,rfl⟩,q⟩
end
section
variable {X:Cx}
theorem xV{K:Ξ}{n:Nat}(hK:X.K=K)(hc:X.calm=true)(h:PGs X es t)
  (hn:(xh es X.env).length=n:=by rfl)(hst:(xh es X.env).findIdx? (·.1)=none:=by rfl):PG X (.Tuple es k pos) (gTup K n t):=hK ▸ xQ hc h hn hst
end
def rY (P:Nat->List V->Hp->Prop) (i k:Nat) (js:List Nat) (σ:St):St->List V->Hp->Prop:=fun σ' ys H=>P (i+1) ys H/\∃os:St,os.length=k/\σ'=os++qW js σ
theorem bV{K:Ξ}{xs:List V}{k:Nat}{g:TG}{tc:TT}{te:TE}{Q:VK}(P:Nat->List V->Hp->Prop)(h0:P 0 [] H1)(hl:∀i ys H,i<=xs.length->P i ys H->SqL K H a xs/\ys.length<=i)(hz:xs.length<ψ)
  (hs:∀i x ys H (os:St),os.length=k->xs[i]?=some x->P i ys H->g x (os++qW js σ) H fun σ3 H3=>tc σ3 H3 fun b H2=>if b=true then te σ3 H2 fun v H3=>rY P i k js σ σ3 (ys++[v]) H3 else rY P i k js σ σ3 ys H2)
  (hd:∀ys H,P xs.length ys H->∀p,H p=none->Q (.ref p) (upd H p (.lst ys))):
  gQ (Itl K a) k js g tc te σ Q H1:=by
 refine⟨fun i m σ' ys H=>m=xs.length-i/\i<=xs.length/\P i ys H/\∃os:St,os.length=k/\σ'=os++qW js σ,⟨xs.length,by simp,io _,h0,jz k none,mw,rfl⟩,?_⟩;rintro i m σ' ys H ⟨rfl,hi,p,os,ho,rfl⟩;obtain⟨q,hy⟩:=hl i ys H hi p
 by_cases hlt:i<xs.length
 ·refine .inr ⟨⟨xs,xs[i],q,by simp[hlt]⟩,by omega,rY P i k js σ,fun σ3 zs H3 z=>⟨xs.length-(i+1),by omega,rfl,hlt,z.1,z.2⟩,fun x H' y=>?_⟩;obtain⟨e,y⟩:=y;subst e;exact hs i x ys _ os ho (y xs q) p
 ·have e:i=xs.length:=by omega
  subst e;exact .inl ⟨⟨xs,q,ν _⟩,fun l n _=>hd ys H p l n⟩
def But (l:Addr) (H H':Hp):Prop:=∀b o,b≠l->H b=some o->H' b=some o
theorem But.trans(a:But l H H1)(b:But l H1 H2):But l H H2:=fun x o n q=>b x o n (a x o n q)
theorem But.refl : But l H H:=fun _ _ _ q=>q
theorem But.of(g:jJ H H'):But l H H':=fun x o _ q=>g x o q
theorem But.same{H:Hp}(a:But l H H')(h:H l=none):jJ H H':=fun x o q=>a x o (jN q h) q
theorem But.upd : But l H (upd H l o):=fun x u n q=>by rw[jT n];exact q
theorem But.tup{K:Ξ}{l:Addr}{H H':Hp}{zs:List V}(e:But l H H')(hl:H l=some (.lst zs)){a:Addr}{xs:List V}(h:SqT K H a xs):SqT K H' a xs:=by
 rcases h with (h|⟨o,h⟩)|h
 ·exact .inl (.inl (e _ _ (gW h hl (by intro z;cases z)) h))
 ·exact .inl (.inr ⟨o,e _ _ (gW h hl (by intro z;cases z)) h⟩)
 ·exact .inr h
end L2
namespace L2
open PySem
section
variable {prog:mf}{w:oo}{M:Model}{A:mn}{E:Value->ω->Prop}{h:mv}{g:Array GenState}{d:Drawn}{t:Nat}{os:OsState}
 {nm qn:Str}{C N:Addr}{bs bm:List Value}{hdct:Bool}{sn:List Str}{sub:List Value}{ab:Bool}{col:Option Bool}{dd:Option Addr}{k0 k1 k2 k3 k5:Option Value}
abbrev xcls (nm qn:Str) (C N:Addr) (bs bm:List Value) (hdct:Bool) (sn:List Str) (sub:List Value) (ab:Bool) (col:Option Bool) (dd:Option Addr) (k0 k1 k2 k3 k5:Option Value):Obj :=
 excClassObj nm qn C N bs bm hdct sn sub ab col dd k0 k1 k2 k3 k5 "ValueError.__new__"
end
end L2
namespace L2
open PySem PyProof.Rows
abbrev VB:List Value:=[.type "ValueError",.type "Exception",.type "BaseException",.type "object"]
structure ExCl (K:Ξ) (C R fI:Addr):Prop where
 obj:∃(nm qn:Str) (N:Addr) (bs:List Value) (sn:List Str) (sub:List Value) (ab:Bool) (col:Option Bool) (dd:Option Addr) (k0 k1 k2 k3 k5:Option Value),
  K.lookup C=some (xcls nm qn C N bs (.ref R::VB) true sn sub ab col dd k0 k1 k2 k3 k5)/\PySem.W.nsOkIn K N=true/\nsIn K N "__init__" = some (some (.ref fI))
 fn:isFn K (.ref fI)=true
 kp:keepIn K (.ref C)=true
 sa:ud K (.ref C) "__setattr__" = some (some (.builtin "object.__setattr__"))
 ga:ud K (.ref C) "__getattribute__" = some (some (.builtin "BaseException.__getattribute__"))
 gh:ud K (.ref C) "__getattr__" = some none
theorem aCg{K:Ξ}{m:Str->Option Value}(X:K.In h)(G:h.Ns N m)(e:nsIn K N n=some (some v)):m n=some v:=by
 obtain⟨o,es,ep,ho,hd,_,hf⟩:=G;unfold nsIn at e;cases q:K.lookup N with
 |none=>rw[q]at e;cases e
 |some o' =>
  have z:=X _ _ q;rw[ho]at z;cases z;rw[q]at e;obtain⟨c,d,dt,sl⟩:=o;cases hd;rw[←hf];unfold nsFind findBy;rw[←Array.find?_toList];dsimp only at e;cases q2:es.toList.find? (fun x=>x.key.isStr n) with
  |some y =>
   rw[q2]at e;exact congrArg (fun z:Option (Option Value)=>z.getD none) e
  |none =>
   rw[q2]at e;dsimp only at e
   split at e <;> cases e
theorem ExCl.cls{K:Ξ}(c:ExCl K C R fI)(X:K.In h):
  ∃(nm qn:Str) (N:Addr) (bs:List Value) (sn:List Str) (sub:List Value) (ab:Bool) (col:Option Bool) (dd:Option Addr) (k0 k1 k2 k3 k5:Option Value) (mN:Str->Option Value) (oI:Obj),
   h.get? C=some (xcls nm qn C N bs (.ref R::VB) true sn sub ab col dd k0 k1 k2 k3 k5)/\h.Ns N mN/\mN "__init__" = some (.ref fI)/\h.get? fI=some oI/\oI.cls=.type "function":=by
 obtain⟨nm,qn,N,bs,sn,sub,ab,col,dd,k0,k1,k2,k3,k5,lk,nsok,nsi⟩:=c.obj;have hN:=mv.Ns.of_isNs (PySem.W.isNs_of_in X nsok);have hf:=c.fn;unfold isFn PySem.W.typeIn at hf;have hf':=beq_iff_eq.mp hf;obtain⟨oI,q,r⟩:=kc.mp hf';exact⟨nm,qn,N,bs,sn,sub,ab,col,dd,k0,k1,k2,k3,k5,_,oI,X _ _ lk,hN,aCg X hN nsi,X _ _ q,r⟩
end L2
namespace L2
open PySem PySem.Spec PyProof.Rows
theorem Cx.Ok.back{X:Cx}{pn:List (Addr×Obj)}{E:Value->ω->Prop}(ok:Cx.Ok { X with pn:=pn,xe:=E }):X.Ok :=
 ⟨ok.mod,ok.kind,ok.glob,ok.blt,ok.above,ok.inj,ok.has,ok.cab,ok.hd,ok.frames,ok.stk,ok.exf,ok.bs,ok.bsz,ok.noex,ok.exfs,ok.funs,ok.frf⟩
section
variable {X:Cx}{pins:List (Addr×Obj)}{σ:St}{H:Hp}{s:ω}
theorem Inv.back{pn:List (Addr×Obj)}{E:Value->ω->Prop}(I:Inv { X with pn:=pn,xe:=E } pins' σ H s)(h:∀p∈X.pn++pins,p∈pn++pins'):Inv X pins σ H s :=
 ⟨I.ok.back,I.os,I.bare,I.base,I.loc,I.cell,I.free,I.freeC,fun p hp=>I.pin p (h p hp),I.hok,I.len⟩
end
structure XCls (K:Ξ) (C:Addr) (bm:List Value):Prop where
 obj:∃(nm q:Str) (N:Addr) (bs:List Value) (hd:Bool) (sn:List Str) (sub:List Value) (ab:Bool) (col:Option Bool) (dd:Option Addr) (k0 k1 k2 k3 k5:Option Value) (ni:String),K.lookup C=some (excClassObj nm q C N bs bm hd sn sub ab col dd k0 k1 k2 k3 k5 ni)
 b:bm.contains (.type "BaseException")=true
theorem aQd{l o r p}{es:List Expr}: jl (.BinOp l o r p::es) env=(false,eval (.BinOp l o r p) env)::jl es env:=rfl
section
variable {X:Cx}
theorem aEi(hc:PT X c tc)(ha:PSx X a t)(hb:PSs X b u):aGc X (.If c a b pos) (aIo tc t u):=⟨jX hc ha.h hb⟩
end
section
variable {X:Cx}
def tyM (K:Ξ) (x:V) (H:Hp) (t:String):Prop:=tyN K x H t\/(t = "dict"/\∃p kvs,x=.ref p/\H p=some (.dK kvs))
theorem kJ:vK X (.builtin "isinstance") (fun xs H Q=>∃x T t,xs=[x,.ty T]/\T∈aBj/\tyM X.K x H t/\Q (.bl (isa t T)) H):=by
 intro pins s σ H xs us Q I r h;obtain⟨x,T,t,rfl,hT,ht|⟨rfl,p,kvs,rfl,hp⟩,q⟩:=h
 ·exact nO pins s σ H _ us Q I r ⟨x,T,t,rfl,hT,ht,q⟩
 ·exact sA pins s σ H _ us Q I r ⟨p,T,kvs,rfl,hT,hp,q⟩
end
end L2
namespace L2
open PySem PyProof.Rows
def keyD:Key->PyData
 |.inl n=>.int n
 |.inr x=>.str x
theorem aHa(hk:(qN P w).is k u=true):Reads h u (keyD k) []:=by
 rcases qV hk with⟨i,t,rfl,rfl⟩|⟨x,t,rfl,rfl⟩
 ·exact .int _ _
 ·exact .str _ _
end L2
namespace L2
open PySem PySem.Spec PyProof.Rows
section
variable {X:Cx}{pins:List (Addr×Obj)}{σ:St}{H:Hp}{s:ω}{h':mv}
theorem Inv.turned2{t':Nat}{e it p:Addr}(I:Inv X pins σ H s)(k:∀b u,b≠e->b≠it->s.heap.get? b=some u->h'.get? b=some u)(fe:eN X pins H e)(fi:eN X pins H it)
  (hp:s.heap.objs.size<=p)(new:qZ X.prog X.w (upd H p o) h' p o):Inv X pins σ (upd H p o) { s with heap:=h',toks:=t' }:=by
 have hn:=I.hok.fresh hp;have ne:∀b u,H b=some u->b≠e:=fun b u q=>jN q fe.1;have ni:∀b u,H b=some u->b≠it:=fun b u q=>jN q fi.1;have nx:∀b,b∉[e,it]->b≠e/\b≠it:=fun b hb=>⟨fun z=>hb (by simp[z]),fun z=>hb (by simp[z])⟩;have np:∀b u,s.heap.get? b=some u->b≠p:=fun b u q=>ja (Δ (ik q) hp);have u:Un (frs X.stack) [e,it] H (upd H p o) s.heap h':=by
  refine⟨fun b u q _ _ hx=>k b u (nx b hx).1 (nx b hx).2 q,fun b u q _ _ hx=>⟨u.slots,k b u (nx b hx).1 (nx b hx).2 q⟩,fun b u q n _=>?_,fun b u q hx=>⟨u,k b u (nx b hx).1 (nx b hx).2 q⟩,fun b xs q=>?_,fun b o' u q=>?_,fun b ps q=>⟨#[],?_⟩⟩
  ·rw[jT (np b u q)];exact n
  ·rw[jT (jN q hn)];exact q
  ·rw[jT (jN q hn)];exact q
  ·rw[jT (jN q hn),q];simp
 have hok:HOk X.prog X.w (upd H p o) h':=fun b v eb=>by
  by_cases hb:b=p
  ·subst hb;rw[jP]at eb;cases eb;exact new
  ·rw[jT hb]at eb;refine(I.hok b v eb).stay (fun c w hc q=>k c w ?_ ?_ q) (fun c q=>by rw[jT (jN q hn)];exact q) fun c xs q=>by rw[jT (jN q hn)];exact q
   ·rcases hc with z|z
    ·rw[z];exact ne b v eb
    ·exact ne c _ z
   ·rcases hc with z|z
    ·rw[z];exact ni b v eb
    ·exact ni c _ z
 refine I.call (g':=s.gens) (d':=s.drawn) (t':=t') (ch:=[e,it]) u hok I.bare fun b hb=>?_;have:b=e\/b=it:=by simpa using hb
 rcases this with rfl|rfl
 ·exact⟨fe.2.2.2.1,fe.2.1,fe.2.2.2.2.1,fe.2.2.2.2.2⟩
 ·exact⟨fi.2.2.2.1,fi.2.1,fi.2.2.2.2.1,fi.2.2.2.2.2⟩
end
def Ite (K:Ξ) (a:Addr):It :=
 ⟨fun i H=>∃xs x,SqL K H a xs/\xs[i]?=some x,fun i H x H'=>∃y p,x=.ref p/\H p=none/\H'=upd H p (.tup [.int (i:Int),y])/\∀xs,SqL K H a xs->xs[i]?=some y,fun i H=>∃xs,SqL K H a xs/\xs.length<=i⟩
theorem aGe{K:Ξ}(a e it:Addr)(hne:e≠it):Turn P w K (.Tuple elts x1 pos) (Ite K a) [e,it] e (fun i h=>(∃old,IsEnum h e it (i:Int) old)/\h.IsListIter it a i) where
 mem:=by simp
 obj:=fun i h st b hb=>by
  have:b=e\/b=it:=by simpa using hb
  obtain⟨⟨old,he⟩,o,ho,hc,hd⟩:=st;rcases this with rfl|rfl
  ·exact⟨_,he,fun v z=>by cases z⟩
  ·exact⟨o,ho,fun v z=>by rw[hd]at z;cases z⟩
 keep:=fun i h h' st k=>by
  obtain⟨⟨old,he⟩,o,ho,r⟩:=st;exact⟨⟨old,k e (by simp) _ he⟩,o,k it (by simp) _ ho,r⟩
 item:=by
  intro X hP hw hK hc i pins s σ H E I hf st hg;subst hP hw hK;obtain⟨xs,x,hq,hx⟩:=hg;obtain⟨its,rv,p,hz⟩:=I.list hq;obtain⟨u,hu,ru⟩:=rv.get hx;have fe:=hf e (by simp);have fi:=hf it (by simp);obtain⟨⟨old,he⟩,hit⟩:=st;refine wpAny_pyNext_enum_item he hit p.isList (x:=u) (by simpa using hu) hne fun h1 heo hit1 ht1 hz1 hk1=>⟨_,rfl,?_⟩;refine wpAny_letOwnedTupleGo_enum heo fun h2 he2 hs2=>?_;replace hs2:pq e h1 h2:=hs2;have ne:s.heap.objs.size≠e:=we (ik he);have ht2:h2.get? s.heap.objs.size=some { cls:=.type "tuple",data:=.seq #[.int i s.toks,u] }:=(hs2.2 _ ne).trans ht1;have k2:∀b v,b≠e->b≠it->s.heap.get? b=some v->h2.get? b=some v:=fun b v n1 n2 q=>(hs2.2 b n1).trans (hk1 b v n1 n2 q);refine⟨.ref s.heap.objs.size,upd H s.heap.objs.size (.tup [.int (i:Int),x]),I.turned2 (t':=s.toks+1) k2 fe fi (ν _) ⟨(by show 2<=ψ;decide),[.int i s.toks,u],.cons ⟨_,rfl⟩ (.cons ru .nil),_,ht2,rfl,_,rfl⟩,rfl,⟨x,_,rfl,I.hok.fresh (ν _),rfl,fun ys hy=>by rw[I.list_inj hy hq];exact hx⟩,⟨⟨_,he2⟩,?_⟩,fun b hb=>?_⟩
  ·obtain⟨o,ho,r⟩:=hit1;exact⟨o,(hs2.2 it (lm hne)).trans ho,r⟩
  ·have:b=e\/b=it:=by simpa using hb
   obtain⟨oi,hoi,_⟩:=hit;rcases this with rfl|rfl
   ·rw[jT (lm ne)];exact fe.1
   ·rw[jT (ja (ik hoi))];exact fi.1
 done:=by
  intro X hP hw hK hc i pins s σ H E I hf st hg;subst hP hw hK;obtain⟨xs,hq,hl⟩:=hg;obtain⟨its,rv,p,hz⟩:=I.list hq;have hlen:=rv.length;obtain⟨f0,f1,f2,f3,f4,f5⟩:=hf it (by simp);obtain⟨⟨old,he⟩,hit⟩:=st;exact wpAny_pyNext_enum_end (I.ok.hd hc) he hit p.isList (by simp;omega) fun h' eb=>⟨rfl,I.turned (t':=s.toks) (fun b o hb e=>eb b o hb e) f0 f1 f3 f4 f5⟩
 self:=fun _ _ _ _ _ st h=>by
  obtain⟨⟨old,he⟩,_⟩:=st;exact wpAny_pyIter_enum he h
def iEnum (K:Ξ) (ta:TA):TI:=fun σ H R=>ta σ H fun vs H1=>∃a xs,vs=[.ref a]/\SqL K H1 a xs/\R (Ite K a) H1
theorem aEy{a:Expr}(hg:Gl X "enumerate")(hm:X.mg "enumerate" = none)(ha:PA X [a] ta)(hs:jl [a] X.env=[(false,eval a X.env)]:=by rfl):PI X (.Tuple elts x1 tpos) (.Call (.Name "enumerate" p) [a] [] pos) (iEnum X.K ta):=by
 intro pins s σ H R I h;refine Call_ (lA I hg hm boot_enumerate (qy (thn (ha pos pins s σ H _ I h) fun us s1 zq=>?_) hs rfl));obtain⟨vs,H1,I1,r1,q1⟩:=zq;obtain⟨l,xs,e,hl,q⟩:=q1;subst e;obtain⟨u,rfl,rx⟩:=vals1 r1;cases rx;obtain⟨its,rv,pl,hz⟩:=I1.list hl;refine call_enumerate_list pl.isList fun h' he hit hsz hk=>wpAny_pyIter_enum he ?_;refine⟨s1.heap.objs.size+1,[s1.heap.objs.size+1,s1.heap.objs.size],_,_,H1,rfl,I1.kept (t':=s1.toks) hk,aGe l _ _ (Nat.succ_ne_self _),⟨⟨_,he⟩,hit⟩,fun b hb=>?_,q⟩;have:b=s1.heap.objs.size+1\/b=s1.heap.objs.size:=by simpa using hb
 rcases this with rfl|rfl
 ·exact I1.fpOk (ug _) (I1.hok.fresh (ug _))
 ·exact I1.fpOk (ν _) (I1.hok.fresh (ν _))
theorem wG{K:Ξ}{xs:List V}{g:TG}{tb:TS}{D:Ends}{σ:St}{H:Hp}(Pv:Nat->St->Hp->Prop)(h0:Pv 0 σ H)(hl:∀i σ H,i<=xs.length->Pv i σ H->SqL K H a xs)
  (hs:∀i x σ H p,xs[i]?=some x->Pv i σ H->H p=none->LpL (let D2:Ends:={ D with nx:=Pv (i+1),ct:=Pv (i+1),bk:=D.nx };g (.ref p) σ (upd H p (.tup [.int (i:Int),x])) fun σ2 H2=>tb D2 σ2 H2))(hd:∀σ H,Pv xs.length σ H->D.nx σ H):
  ∃W:Nat->Nat->St->Hp->Prop,(∃m,W 0 m σ H)/\∀i m σ H,W i m σ H →
   ((Ite K a).stop i H/\D.nx σ H)\/((Ite K a).go i H/\∃N:St->Hp->Prop,(∀σ' H',N σ' H'->∃m',m'<m/\W (i+1) m' σ' H')/\∀x H',(Ite K a).yld i H x H'->g x σ H' fun σ2 H2=>tb { D with nx:=N,ct:=N,bk:=D.nx } σ2 H2):=by
 refine⟨fun i m σ H=>m=xs.length-i/\i<=xs.length/\Pv i σ H,⟨xs.length,by simp,io _,h0⟩,?_⟩;rintro i m σ H ⟨rfl,hi,p⟩;have q:=hl i σ H hi p
 by_cases hlt:i<xs.length
 ·refine .inr ⟨⟨xs,xs[i],q,by simp[hlt]⟩,Pv (i+1),fun σ' H' p'=>⟨xs.length-(i+1),by omega,rfl,hlt,p'⟩,fun x H' y=>?_⟩;obtain⟨y',pa,rfl,hn,rfl,hy⟩:=y;exact hs i y' σ H pa (hy xs q) p hn
 ·have e:i=xs.length:=by omega
  subst e;exact .inl ⟨⟨xs,q,ν _⟩,hd σ H p⟩
end L2
namespace L2
open PySem
theorem xH.units1(r:xH k A):A.units+1<qj:=by
 have:=r.units;omega
end L2
namespace L2
open PySem PySem.Spec PyProof.Rows
def Sq2 (K:Ξ):Bool->Hp->Addr->List V->Prop
 |false,H,a,xs=>SqL K H a xs
 |true,H,a,xs=>SqT K H a xs
def aF:Bool->mv->Addr->Addr->Nat->Prop
 |false,h,j,a,i=>h.IsListIter j a i
 |true,h,j,a,i=>h.IsTupleIter j a i
def zB:Bool->mv->Addr->Array Value->Prop
 |false,h,a,xs=>h.IsList a xs
 |true,h,a,xs=>h.IsTuple a xs
theorem aF.keep{g:mv}(x:aF b h j a i)(k:∀o,h.get? j=some o->g.get? j=some o):aF b g j a i:=by
 cases b <;> (obtain⟨o,e,r⟩:=x;exact⟨o,k o e,r⟩)
theorem zB.keep{g:mv}(x:zB b h a xs)(k:∀o,h.get? a=some o->g.get? a=some o):zB b g a xs:=by
 cases b <;> (obtain⟨o,e,r⟩:=x;exact⟨o,k o e,r⟩)
theorem aF.obj(x:aF b h j a i):∃o,h.get? j=some o/\∀v,o.data≠.cell v:=by
 cases b <;> (obtain⟨o,e,c,d⟩:=x;exact⟨o,e,fun v z=>by rw[d]at z;cases z⟩)
theorem zB.lt(x:zB b h a xs):a<h.objs.size:=by
 cases b <;> (obtain⟨o,e,_⟩:=x;exact ik e)
section
variable {P:mf}{w:oo}{A:mn}{E:Value->ω->Prop}{s:ω}
theorem aNp{Q:Value->ω->Prop}(hj:s.heap.IsTupleIter j a n)(ha:s.heap.IsTuple a vs)(hv:vs[n]?=some v)
  (q:∀g,g.IsTupleIter j a (n+1)->pq j s.heap g->Q v { s with heap:=g }):iz (jh P w) A (kh (.ref j)) Q E s:=by
 obtain⟨oj,ej,cj,dj⟩:=id hj;obtain⟨oa,ea,ca,na,da⟩:=ha;unfold kh;refine ξ (wpAny_callSpecial?_slot (name:=η "__next__") hj.typeIs tu (sd tu hj.typeIs F.entry_tuple_iterator_next ?_ (F.args_tuple_iterator_next_1 _)));show iz _ _ (field (.ref j) 0 >>= _) _ _ s;refine ξ (qq ej dj (x:=.ref a) rfl ?_);show iz _ _ (if (km a == sg)=true then _ else _) _ _ s;rw[if_neg (show ¬ ((km a == sg)=true) from υ)];show iz _ _ (field (.ref j) 1 >>= _) _ _ s;refine ξ (qq ej dj (x:=.int n 0) rfl ?_);show iz _ _ (seqItems? (.ref a) >>= _) _ _ s;refine ξ (qp ea da ?_);simp only[oe,hv];refine ξ (wpAny_setField ej dj (by simp) (iy ⟨v,rfl,iy (q _ ?_ (pq.update ..))⟩));exact⟨_,ua _ ej (Obj.isFreed_of_fields (Obj.data_mapFields dj _)),(Obj.cls_mapFields ..).trans cj,by rw[Obj.data_mapFields dj];simp[rawInt]⟩
theorem aRa(hh:A.handled=none)(hj:s.heap.IsTupleIter j a n)(ha:s.heap.IsTuple a vs)(hv:vs[n]?=none)
  (hE:∀g x,mv.ExtBut j s.heap g->(∃o,g.get? x=some o/\o.cls=.type "StopIteration")->E (.ref x) { s with heap:=g }):iz (jh P w) A (kh (.ref j)) Q E s:=by
 obtain⟨oj,ej,cj,dj⟩:=id hj;obtain⟨oa,ea,ca,na,da⟩:=ha;unfold kh;refine ξ (wpAny_callSpecial?_slot (name:=η "__next__") hj.typeIs tu (sd tu hj.typeIs F.entry_tuple_iterator_next ?_ (F.args_tuple_iterator_next_1 _)));show iz _ _ (field (.ref j) 0 >>= _) _ _ s;refine ξ (qq ej dj (x:=.ref a) rfl ?_);show iz _ _ (if (km a == sg)=true then _ else _) _ _ s;rw[if_neg (show ¬ ((km a == sg)=true) from υ)];show iz _ _ (field (.ref j) 1 >>= _) _ _ s;refine ξ (qq ej dj (x:=.int n 0) rfl ?_);show iz _ _ (seqItems? (.ref a) >>= _) _ _ s;refine ξ (qp ea da ?_);simp only[oe,hv];refine ξ (wpAny_rule (ξ (wpAny_setField ej dj (by simp) ?_)));show iz _ _ (newExc (.type "StopIteration") [] >>= fun x=>raiseNew x) _ _ _;refine ξ ?_;simp only[newExc,newTuple];refine ξ (xu ?_ (by size_fits));refine ξ (m:=firstArgMember _ _) (wpAny_of_eq (a:=sg) (by first|rfl|(simp only[firstArgMember];rfl)) ?_);refine xu ?_ (by size_fits);simp only[raiseNew];refine ξ (wpAny_handled ?_)
 first|rw[show A.in1.handled=none from hh]|rw[hh]
 exact ξ (iy (wpAny_throw (hE _ _ (((pq.update ..).extBut.push _).push _) ⟨_,ij _ rfl,rfl⟩)))
theorem aBw{Q:Value->ω->Prop}(hj:aF b s.heap j a n)(ha:zB b s.heap a vs)(hv:vs[n]?=some v)
  (q:∀g,aF b g j a (n+1)->pq j s.heap g->Q v { s with heap:=g }):iz (jh P w) A (kh (.ref j)) Q E s:=by
 cases b
 ·exact wpAny_nextOf_list_item hj ha hv q
 ·exact aNp hj ha hv q
theorem aOp(hh:A.handled=none)(hj:aF b s.heap j a n)(ha:zB b s.heap a vs)(hv:vs[n]?=none)
  (hE:∀g x,mv.ExtBut j s.heap g->(∃o,g.get? x=some o/\o.cls=.type "StopIteration")->E (.ref x) { s with heap:=g }):iz (jh P w) A (kh (.ref j)) Q E s:=by
 cases b
 ·exact wpAny_nextOf_list_end hh hj ha hv hE
 ·exact aRa hh hj ha hv hE
end
abbrev itN (b:Bool):String:=if b then "tuple_iterator" else "list_iterator"
abbrev zp1 (b:Bool) (h:mv) (a:Addr):mv:=h.push { cls:=.type (itN b),data:=.fields #[.ref a,.int 0 0] }
section
variable {X:Cx}{pins:List (Addr×Obj)}{σ:St}{H:Hp}{s:ω}{h':mv}
theorem Inv.turnedL{t':Nat}{ch:List Addr}{p:Addr}(I:Inv X pins σ H s)(k:∀b u,b∉ch->s.heap.get? b=some u->h'.get? b=some u)(f:∀b∈ch,eN X pins H b)
  (hp:s.heap.objs.size<=p)(new:qZ X.prog X.w (upd H p o) h' p o):Inv X pins σ (upd H p o) { s with heap:=h',toks:=t' }:=by
 have hn:=I.hok.fresh hp;have nx:∀b u,H b=some u->b∉ch:=fun b u q z=>jN q (f b z).1 rfl;have np:∀b u,s.heap.get? b=some u->b≠p:=fun b u q=>ja (Δ (ik q) hp);have u:Un (frs X.stack) ch H (upd H p o) s.heap h':=by
  refine⟨fun b u q _ _ hx=>k b u hx q,fun b u q _ _ hx=>⟨u.slots,k b u hx q⟩,fun b u q n _=>?_,fun b u q hx=>⟨u,k b u hx q⟩,fun b xs q=>?_,fun b o' u q=>?_,fun b ps q=>⟨#[],?_⟩⟩
  ·rw[jT (np b u q)];exact n
  ·rw[jT (jN q hn)];exact q
  ·rw[jT (jN q hn)];exact q
  ·rw[jT (jN q hn),q];simp
 have hok:HOk X.prog X.w (upd H p o) h':=fun b v eb=>by
  by_cases hb:b=p
  ·subst hb;rw[jP]at eb;cases eb;exact new
  ·rw[jT hb]at eb;refine(I.hok b v eb).stay (fun c w hc q=>k c w ?_ q) (fun c q=>by rw[jT (jN q hn)];exact q) fun c xs q=>by rw[jT (jN q hn)];exact q
   rcases hc with z|z
   ·rw[z];exact nx b v eb
   ·exact nx c _ z
 exact I.call (g':=s.gens) (d':=s.drawn) (t':=t') (ch:=ch) u hok I.bare fun b hb=>⟨(f b hb).2.2.2.1,(f b hb).2.1,(f b hb).2.2.2.2.1,(f b hb).2.2.2.2.2⟩
theorem Inv.turnedL0{t':Nat}{ch:List Addr}(I:Inv X pins σ H s)(k:∀b u,b∉ch->s.heap.get? b=some u->h'.get? b=some u)(f:∀b∈ch,eN X pins H b):Inv X pins σ H { s with heap:=h',toks:=t' }:=by
 have nx:∀b u,H b=some u->b∉ch:=fun b u q z=>jN q (f b z).1 rfl;have u:Un (frs X.stack) ch H H s.heap h':=by
  refine⟨fun b u q _ _ hx=>k b u hx q,fun b u q _ _ hx=>⟨u.slots,k b u hx q⟩,fun b u q n _=>n,fun b u q hx=>⟨u,k b u hx q⟩,fun b xs q=>q,fun b o' u q=>q,fun b ps q=>⟨#[],?_⟩⟩;rw[q];simp
 have hok:HOk X.prog X.w H h':=fun b v eb=>by
  refine(I.hok b v eb).stay (fun c w hc q=>k c w ?_ q) (fun c q=>q) fun c xs q=>q;rcases hc with z|z
  ·rw[z];exact nx b v eb
  ·exact nx c _ z
 exact I.call (g':=s.gens) (d':=s.drawn) (t':=t') (ch:=ch) u hok I.bare fun b hb=>⟨(f b hb).2.2.2.1,(f b hb).2.1,(f b hb).2.2.2.2.1,(f b hb).2.2.2.2.2⟩
theorem Inv.seq2(I:Inv X pins σ H s)(h:Sq2 X.K b H a xs):∃its:List Value,kM xs its/\zB b s.heap a its.toArray:=by
 cases b
 ·obtain⟨its,r,p,_⟩:=I.list h;exact⟨its,r,p.isList⟩
 ·obtain⟨its,r,p,_⟩:=I.tuple h;exact⟨its,r,p⟩
theorem Inv.seq2_inj(I:Inv X pins σ H s)(h:Sq2 X.K b H a xs)(h':Sq2 X.K b H a ys):xs=ys:=by
 cases b
 ·exact I.list_inj h h'
 ·exact I.tuple_inj h h'
end
section
variable {X:Cx}
theorem lL:vK X (.type "int") (fun xs H Q=>∃b:Bool,xs=[.bl b]/\Q (.int (if b then 1 else 0)) H):=by
 intro pins s σ H xs us Q I r h;obtain⟨b,rfl,q⟩:=h;obtain⟨u,rfl,r1⟩:=vals1 r;cases r1;exact call_int_bool ⟨.int _,H,I.tok _,⟨_,rfl⟩,q⟩
end
def aDd (K:Ξ) (H:Hp) (x:V) (d:PyData):Prop:=Dat K H x d\/(∃a kvs,x=.ref a/\H a=some (.dK kvs))/\d=.dict []
def tyD:PyData->String
 |.none=>"NoneType"
 |.bool _=>"bool"
 |.int _=>"int"
 |.str _=>"str"
 |.list _=>"list"
 |.tuple _=>"tuple"
 |.dict _=>"dict"
theorem Dat.ty{K:Ξ}(h:Dat K H x d):tyN K x H (tyD d):=by
 cases h with
 |lst h _=>exact .inl ⟨rfl,_,h⟩
 |tup h _=>exact .inr ⟨rfl,_,h⟩
 |_=>rfl
theorem aDd.ty{K:Ξ}(h:aDd K H x d):tyM K x H (tyD d):=by
 rcases h with h|⟨⟨a,kvs,rfl,h⟩,rfl⟩
 ·exact .inl h.ty
 ·exact .inr ⟨rfl,a,kvs,rfl,h⟩
theorem aDd.same{K:Ξ}(h:aDd K H x d)(g:jJ H H'):aDd K H' x d:=by
 rcases h with h|⟨⟨a,kvs,rfl,h⟩,rfl⟩
 ·exact .inl (h.same g)
 ·exact .inr ⟨⟨a,kvs,rfl,g _ _ h⟩,rfl⟩
theorem DatAll.length{K:Ξ}: ∀{xs:List V}{ds:List PyData},DatAll K H xs ds->xs.length=ds.length
 |_,_,.nil=>rfl
 |_,_,.cons _ t=>congrArg (·+1) (DatAll.length t)
theorem DatAll.get{K:Ξ}: ∀{xs:List V}{ds:List PyData}{i:Nat}{x:V},DatAll K H xs ds->xs[i]?=some x->∃d,ds[i]?=some d/\Dat K H x d
 |_,_,_,_,.nil,e=>by simp at e
 |_,_,0,_,.cons h _,e=>by simp at e;subst e;exact⟨_,rfl,h⟩
 |_,_,i+1,x,.cons _ t,e=>by
  obtain⟨d,h1,h2⟩:=DatAll.get (i:=i) (x:=x) t (by simpa using e);exact⟨d,by simpa using h1,h2⟩
theorem DatAll.app{K:Ξ}: ∀{xs ys:List V}{ds es:List PyData},DatAll K H xs ds->DatAll K H ys es->DatAll K H (xs++ys) (ds++es)
 |_,_,_,_,.nil,s=>s
 |_,_,_,_,.cons h t,s=>.cons h (DatAll.app t s)
theorem DatAll.take{K:Ξ}: ∀{xs:List V}{ds:List PyData}(n:Nat),DatAll K H xs ds->DatAll K H (xs.take n) (ds.take n)
 |_,_,0,_=>.nil
 |_,_,_+1,.nil=>.nil
 |_,_,n+1,.cons h t=>.cons h (DatAll.take n t)
theorem DatAll.drop{K:Ξ}: ∀{xs:List V}{ds:List PyData}(n:Nat),DatAll K H xs ds->DatAll K H (xs.drop n) (ds.drop n)
 |_,_,0,h=>h
 |_,_,_+1,.nil=>.nil
 |_,_,n+1,.cons _ t=>DatAll.drop n t
end L2
namespace L2
open PySem
theorem kR{H H1:Hp}(e:upd H p o=H1)(hp:H p=none):jJ H H1/\H1 p=some o:=by
 subst e;exact⟨fun b u q=>by rw[jT (jN q hp)];exact q,jP⟩
theorem vD{H1:Hp}(e:upd H p o=H1):But p H H1/\H1 p=some o:=by
 subst e;exact⟨But.upd,jP⟩
theorem jJ.at{H H1:Hp}(g:jJ H H1)(h:H a=some o):H1 a=some o:=g _ _ h
theorem jJ.tp{K:Ξ}(e:jJ H H')(h:SqT K H a xs):SqT K H' a xs:=by
 rcases h with (h|⟨o,h⟩)|h
 ·exact .inl (.inl (e _ _ h))
 ·exact .inl (.inr ⟨o,e _ _ h⟩)
 ·exact .inr h
theorem jJ.dt{K:Ξ}(g:jJ H H')(h:Dat K H x d):Dat K H' x d:=h.same g
theorem jJ.dts{K:Ξ}(g:jJ H H')(h:DatAll K H xs ds):DatAll K H' xs ds:=h.same g
theorem jJ.dtt{K:Ξ}(g:jJ H H')(h:aDd K H x d):aDd K H' x d:=h.same g
theorem join{R:VK}(hk:R v H')(h:∀Q:VK,Q v H'->tIf t ta tb σ H Q):tIf t ta tb σ H R:=h R hk
theorem aOi(P:St->Hp->Prop){D:Ends}{rest:TS}(hk:∀σ' H',P σ' H'->rest D σ' H')(h:∀nx:St->Hp->Prop,(∀σ' H',P σ' H'->nx σ' H')->aIo c t u { D with nx:=nx } σ H):vG (aIo c t u) rest D σ H:=h (rest D) hk
end L2
local macro_rules | `(tactic| walk_at"hp") => `(tactic| first
 |assumption
 |exact L2.jP
 |exact L2.jJ.refl _
 | (refine' L2.jJ.at ?k1 ?_; (case k1=>assumption);walk_at"hp";done)
 | (refine L2.SqL.of ?_;walk_at"hp";done)
 | (refine L2.SqT.of ?_;walk_at"hp";done)
 | (refine' L2.jJ.seq ?k1 ?_; (case k1=>assumption);walk_at"hp";done)
 | (refine' L2.jJ.tp ?k1 ?_; (case k1=>assumption);walk_at"hp";done)
 | (refine' L2.jJ.dt ?k1 ?_; (case k1=>assumption);walk_at"hp";done)
 | (refine' L2.jJ.dts ?k1 ?_; (case k1=>assumption);walk_at"hp";done)
 | (refine' L2.jJ.dtt ?k1 ?_; (case k1=>assumption);walk_at"hp";done)
 | (refine' L2.jJ.trans ?_ ?k1; (case k1=>assumption);walk_at"hp";done))
local macro_rules | `(tactic| walk_at"al") => `(tactic| (intro pX hX;generalize eX : L2.upd _ pX _ = HX;obtain ⟨gX,kX⟩ := L2.kR eX hX;clear eX))
local macro_rules | `(tactic| o_unpack $r:ident) => `(tactic| (intro $r:ident hX;generalize eX : L2.upd _ $r:ident _ = HX;obtain ⟨gX,kX⟩ := L2.kR eX hX;clear eX))
local macro_rules | `(tactic| walk_at"ch") => `(tactic| (generalize eX : L2.upd _ _ _ = HX;obtain ⟨gX,kX⟩ := L2.vD eX;clear eX))
local macro_rules | `(tactic| walk_at"rd") => `(tactic| repeat first
 | (refine⟨_,rfl,?_⟩)
 | (refine⟨_,_,rfl,rfl,?_⟩)
 | (refine⟨_,_,rfl,rfl,⟨by decide,by decide⟩,?_⟩)
 | (refine' ⟨_,_,rfl,.inl ?k1,?_⟩; (case k1=>walk_at"hp"))
 | (refine' ⟨_,_,_,_,rfl,rfl,?k1,?k2,?_⟩; (case k1=>walk_at"hp"); (case k2=>rfl)))
namespace L2
open PySem PySem.Spec PyProof.Rows
section
variable {X:Cx}
theorem aIz(hu:X.A.units+64<qj):OpR X (mj .NotEq) (fun x y H Q=>∃(a b:Addr) (xs:List V),x=.ref a/\y=.ref b/\SqL X.K H a xs/\SqL X.K H b []/\Q (.bl (!xs.isEmpty)) H):=by
 intro pins s σ H x y v u Q I rx ry h;obtain⟨a,b,xs,rfl,rfl,ha,hb,q⟩:=h;cases rx;cases ry;obtain⟨i1,r1,p1,_⟩:=I.list ha;obtain⟨i2,r2,p2,_⟩:=I.list hb;cases r2;show iz _ _ (richCompare .NotEq (.ref a) (.ref b)) _ _ _;cases xs with
 |nil =>
  cases r1;refine SeqAt.RcNeAt.lists (e:=fun _=>true) p1.isList p2.isList rfl (by omega) (fun j h1 _=>absurd h1 (xg _)) _ _ _ _ ?_;exact⟨.bl false,H,I,rfl,q⟩
 |cons z zs =>
  cases r1 with
  |cons rz rt =>
   refine SeqAt.RcNeAt.lists_lengths p1.isList p2.isList (by simp) (by omega) _ _ _ _ ?_;exact⟨.bl true,H,I,rfl,q⟩
end
section
variable {X:Cx}
theorem dW : ((jk n).all fun _=>true)=true:=by simp
end
end L2
namespace L2
open PySem
structure Sm (d:PyData) (n m:Nat):Prop where
 sh:d.showable=true
 ls:d.leavesShort 200=true
 wt:d.weight<=n
 dp:d.depth<=m
 nd:d.hasDict=false
theorem bW{n:Nat}(h:n<2 ^ 100):n.log2<100:=by
 by_cases h0:n=0
 ·subst h0;decide
 ·exact(Nat.log2_lt h0).mpr h
theorem Sm.int{i:Int}(h:i.natAbs<2 ^ 100):Sm (.int i) 101 0:=by
 have hl:=bW h;refine⟨?_,?_,?_,ν _,rfl⟩
 ·simp only[PyData.showable,decide_eq_true_eq];omega
 ·simp only[PyData.leavesShort,decide_eq_true_eq];have:=int_text_length_le (a:=i) (k:=100) (by decide) hl;show(η (toString i)).length<=200;rw[ofString_length];omega
 ·simp only[PyData.weight]
  split <;> omega
theorem Sm.none:Sm .none 0 0:=⟨rfl,rfl,ν _,ν _,rfl⟩
theorem Sm.bool(b:Bool):Sm (.bool b) 0 0:=⟨rfl,rfl,ν _,ν _,rfl⟩
theorem Sm.le{n' m':Nat}(h:Sm d n m)(hn:n<=n')(hm:m<=m'):Sm d n' m':=⟨h.sh,h.ls,ip h.wt hn,ip h.dp hm,h.nd⟩
theorem Sm.len(h:Sm d n m)(hn:n<=10000):d.shown.length<=ψ:=by
 have h1:=PyData.shown_le 200 (by decide) d h.ls;have h2:=h.wt;rw[jf];omega
end L2
namespace L2
open PySem PySem.Spec PyProof.Rows
theorem aMs{x p}{es:List Expr}: jl (.Name x p::es) env=(false,eval (.Name x p) env)::jl es env:=rfl
section
variable {X:Cx}{e:Expr}{es:List Expr}{te:TE}{t:TA}
theorem aMp(h:PAx X es t):PEx X (.List es pos) (tLst t):=⟨qE h.h⟩
theorem gM(h:PEx X e te):aGc X (.Return (some e) pos) (tRet te):=⟨jI h.h⟩
end
structure yN (P:mf) (w:oo) (K:Ξ) (mg:Str->Option Value) (base:mv) (CX:CXT) (k:Nat) (m:Str) (C:Addr) (sp:Sp):Prop where
 cl:Cls K C
 ex:∃f fd ps,Meth K C m f/\kH P w K mg base CX k f fd ps sp/\Binds K fd ps []
section
variable {X:Cx}{CX:CXT}{k:Nat}{E:XK}{m:Str}{pos apos:Pos}{e o:Expr}{es:List Expr}{ta:TE}{t:TA}{T:Addr->Sp->Prop}
def aJh (T:Addr->Sp->Prop) (m:Str) (E:XK) (ta:TE) (t:TA):TE:=fun σ H Q=>ta σ H fun x H1=>∃a C dx fs sp,x=.ref a/\H1 a=some (.ins C dx fs)/\fs.lookup m=none/\T C sp/\t σ H1 fun vs H2=>sp (x::vs) H2 Q E
theorem wM(he:PE X o ta)(hT:∀C sp,T C sp->yN X.prog X.w X.K X.mg X.base CX k m C sp)(hr:xH k X.A)(hx:zT CX X E)(ha:PA X (e::es) t)
  (hst:jl (e::es) X.env=(false,eval e X.env)::jl es X.env:=by rfl)(hpl:(wl pos (jl es X.env)).any (·.1)=false:=by rfl)
  (ht:eval (.Call (.Attribute o m apos) (e::es) [] pos) X.env=(do
   let ov ←eval o X.env
   standAt apos.atName
   let (f,first) ←holding [ov] (getMethod ov m pl)
   callWith pos f first (wl pos (jl (e::es) X.env)) (backToKw pos (keywordEach [] X.env))):=by rfl):
  PE X (.Call (.Attribute o m apos) (e::es) [] pos) (aJh T m E ta t):=by
 intro pins s σ H Q I h;refine yc (pl:=pl) (thn (he pins s σ H _ I h) fun u s1 zq=>?_) ht;obtain⟨x,H1,I1,rx,a,C,dx,fs,sp,ex,ea,l,hC,q⟩:=zq;subst ex;obtain rfl:u=km a:=rx;obtain⟨c,f,fd,ps,hm,F,hb⟩:=hT C sp hC;refine fJ I1 ea c hm l ?_;refine PySem.W.callWith_K (first:=[.ref a]) (h₀:=X.base) I.ok.mod.kin hm.kp (thn (ha pos pins s1 σ H1 _ I1 q) fun us s2 zq=>zq.el fun vs H2 I2 r q2=>⟨I2.kIn,?_⟩) hst hpl;exact tE (us:=.ref a::us) (vs:=.ref a::vs) (dvs:=[]) F hr hb .nil hx I2 (.cons rfl r) (by rw[jy];exact q2)
theorem xI(he:PE X o ta)(hT:∀C sp,T C sp->yN X.prog X.w X.K X.mg X.base CX k m C sp)(hr:xH k X.A)(hx:zT CX X E)
  (ht:eval (.Call (.Attribute o m apos) [] [] pos) X.env=(do
   let ov ←eval o X.env
   standAt apos.atName
   let (f,first) ←holding [ov] (getMethod ov m pl)
   callWith pos f first (wl pos (jl [] X.env)) (backToKw pos (keywordEach [] X.env))):=by rfl):
  PE X (.Call (.Attribute o m apos) [] [] pos) (aJh T m E ta aJp):=by
 intro pins s σ H Q I h;refine yc (pl:=pl) (thn (he pins s σ H _ I h) fun u s1 zq=>?_) ht;obtain⟨x,H1,I1,rx,a,C,dx,fs,sp,ex,ea,l,hC,q⟩:=zq;subst ex;obtain rfl:u=km a:=rx;obtain⟨c,f,fd,ps,hm,F,hb⟩:=hT C sp hC;refine fJ I1 ea c hm l ?_;exact PySem.W.callWith_K0 (first:=[.ref a]) I1.kIn hm.kp (tE (us:=[.ref a]) (vs:=[.ref a]) (dvs:=[]) F hr hb .nil hx I1 (.cons rfl .nil) q)
end
def aBf:V->Option Str
 |.str x=>some x
 |.int i=>if i.natAbs<2 ^ 100 then some (toString i) else none
 |_=>none
def TJ:=St->Hp->Str->(Str->Hp->Prop)->Prop
def PJ (X:Cx) (es:List Expr) (t:TJ):Prop:=∀(pins:List (Addr×Obj)) (s:ω) (σ:St) (H:Hp) (acc:Str) (Q:Str->Hp->Prop),Inv X pins σ H s->t σ H acc Q →
 iz (jh X.prog X.w) X.A (joinParts acc (evalEach es X.env)) (EP X pins σ fun v H'=>∃z,v=.str z/\Q z H') X.xe s
section
variable {X:Cx}{e e1 e2:Expr}{es:List Expr}{te:TE}{t:TJ}{pos p:Pos}{x:Str}
def jNil:TJ:=fun _ H acc Q=>acc.length<=ψ/\Q acc H
theorem aRv:PJ X [] jNil:=fun _ s _ H acc Q I h=>joinParts_nil ⟨.str acc,H,I.tok _,⟨_,rfl⟩,acc,rfl,h.2⟩ h.1
def jStr (x:Str) (t:TJ):TJ:=fun σ H acc Q=>(acc++x).length<=ψ/\t σ H (acc++x) Q
theorem aQu{j}(ht:PJ X es t):PJ X (.Constant (.str x) j p::es) (jStr x t):=by
 intro pins s σ H acc Q I h;refine joinParts_cons (Calls.Constant_str ⟨h.1,ht pins _ σ H _ Q (I.tok _) h.2⟩)
theorem aKm{s:ω}{R:Value->ω->Prop}(I:Inv X pins σ H s)(r:RelV v u)(hy:aBf v=some y)(hl:y.length<=ψ)
  (h:∀t' tk,Inv X pins σ H { s with toks:=tk }->R (.str y t') { s with toks:=tk }):iz (jh X.prog X.w) X.A (formatField u Str.empty) R E s:=by
 cases v with
 |str x =>
  obtain⟨t,rfl⟩:=r;cases hy;exact formatField_str (fun t' tk=>h t' tk (I.kept fun _ _ q=>q)) hl
 |int i =>
  obtain⟨t,rfl⟩:=r;have hy':(if i.natAbs<2 ^ 100 then some (η (toString i)) else none)=some y:=hy
  by_cases hi:i.natAbs<2 ^ 100
  ·rw[if_pos hi]at hy';cases hy';refine formatField_int_small ?_ (h _ _ (I.kept fun _ _ q=>q));have:=bW hi;omega
  ·rw[if_neg hi]at hy';cases hy'
 |_=>cases hy
def jVal (te:TE) (t:TJ):TJ:=fun σ H acc Q=>te σ H fun v H1=>∃y,aBf v=some y/\y.length<=ψ/\(acc++y).length<=ψ/\t σ H1 (acc++y) Q
theorem aIg(he:PE X e te)(ht:PJ X es t):PJ X (.FormattedValue e (-1) none p::es) (jVal te t):=by
 intro pins s σ H acc Q I h;refine joinParts_cons (FormattedValue_plain (thn (he pins s σ H _ I h) fun u s1 zq=>?_));obtain⟨v,H1,I1,r,y,hy,hl,ha,q⟩:=zq;exact aKm I1 r hy hl fun t' tk I2=>⟨ha,ht pins _ σ H1 _ Q I2 q⟩
def tJoin (t:TJ):TE:=fun σ H Q=>t σ H Str.empty fun z H1=>Q (.str z) H1
theorem aMm(h:PJ X (e1::e2::es) t):PE X (.JoinedStr (e1::e2::es) pos) (tJoin t):=by
 intro pins s σ H Q I hq;exact JoinedStr_many (thn (h pins s σ H Str.empty _ I hq) fun u s1 ⟨v,H1,I1,r,z,ez,q⟩=>⟨v,H1,I1,r,by rw[ez];exact q⟩)
def aRo (te:TE):TE:=fun σ H Q=>te σ H fun v H1=>∃y,aBf v=some y/\y.length<=ψ/\Q (.str y) H1
theorem aLd(he:PE X e te):PE X (.JoinedStr [.FormattedValue e (-1) none p] pos) (aRo te):=by
 intro pins s σ H Q I h;refine JoinedStr_one (FormattedValue_plain (thn (he pins s σ H _ I h) fun u s1 zq=>?_));obtain⟨v,H1,I1,r,y,hy,hl,q⟩:=zq;exact aKm I1 r hy hl fun t' tk I2=>⟨.str y,H1,I2,⟨_,rfl⟩,q⟩
end
end L2
namespace L2
open PySem
def jn (c:Nat):List (List Nat)->List Nat
 |[]=>[]
 |[p]=>p
 |p::q::r=>p++c::jn c (q::r)
theorem aEl{c:Nat}: ∀{p1 p2 t1 t2:List Nat},c∉p1->c∉p2->p1++c::t1=p2++c::t2->p1=p2/\t1=t2
 |[],[],t1,t2,_,_,h=>⟨rfl,(wy h).2⟩
 |[],b::p2,t1,t2,_,h2,h=>absurd (π.mpr (.inl (wy h).1)) h2
 |a::p1,[],t1,t2,h1,_,h=>absurd (π.mpr (.inl (wy h).1.symm)) h1
 |a::p1,b::p2,t1,t2,h1,h2,h=>by
  obtain⟨e1,e2⟩:=wy h;obtain⟨e3,e4⟩:=aEl (fun z=>h1 (ς _ z)) (fun z=>h2 (ς _ z)) e2;exact⟨by rw[e1,e3],e4⟩
theorem aJe{c:Nat}: ∀{ps qs:List (List Nat)},ps≠[]->qs≠[]->(∀p∈ps,c∉p)->(∀q∈qs,c∉q)->jn c ps=jn c qs->ps=qs
 |[],_,h,_,_,_,_=>absurd rfl h
 |_,[],_,h,_,_,_=>absurd rfl h
 |[p],[q],_,_,_,_,h=>by rw[show p=q from h]
 |[p],q::q2::qs,_,_,hp,_,h=>by
  have e:p=q++c::jn c (q2::qs):=h;exact absurd (by rw[e];simp) (hp p (ρ ..))
 |p::p2::ps,[q],_,_,_,hq,h=>by
  have e:p++c::jn c (p2::ps)=q:=h;exact absurd (by rw[←e];simp) (hq q (ρ ..))
 |p::p2::ps,q::q2::qs,_,_,hp,hq,h=>by
  obtain⟨e1,e2⟩:=aEl (hp p (ρ ..)) (hq q (ρ ..)) h;have ih:=aJe (by simp) (by simp) (fun z hz=>hp z (ς _ hz)) (fun z hz=>hq z (ς _ hz)) e2;rw[e1,ih]
theorem mS(c:Nat):∀ys:List Str,(jt ⟨#[c]⟩ ys).cps.toList=jn c (ys.map fun y=>y.cps.toList)
 |[]=>rfl
 |[y]=>rfl
 |y::z::ys=>by
  show(y++⟨#[c]⟩++jt ⟨#[c]⟩ (z::ys)).cps.toList=_;rw[tw,tw,qe,qe,mS c (z::ys),jg];rfl
theorem aLb(x y:Str):qk x y≠[]:=fun h=>by
 unfold qk at h
 split at h
 ·cases h
 ·split at h
  ·cases h
  ·rw[StrLaws.partsBetween_eq]at h;obtain⟨p,r,e⟩:=StrLaws.partsFrom_ne x y.length 0 (px x y 0 x.length (x.length+1));rw[e]at h;cases h
theorem nV{c:Nat}{ys:List Str}(hne:ys≠[])(hf:∀y∈ys,c∉y.cps.toList):qk (jt ⟨#[c]⟩ ys) ⟨#[c]⟩=ys:=by
 have h1:=StrLaws.join_split (jt ⟨#[c]⟩ ys) ⟨#[c]⟩;have h2:=congrArg (fun z:Str=>z.cps.toList) h1;simp only[mS]at h2;have h3:=aJe (by simpa using aLb _ _) (by simpa using hne) (fun p hp=>by
  obtain⟨y,hy,rfl⟩:=iu.mp hp;exact StrLaws.split_free _ c y hy) (fun p hp=>by
  obtain⟨y,hy,rfl⟩:=iu.mp hp;exact hf y hy) h2
 have hi:∀{as bs:List Str},(as.map fun y=>y.cps.toList)=(bs.map fun y=>y.cps.toList)->as=bs:=by
  intro as
  induction as with
  |nil=>intro bs h;cases bs with
   |nil=>rfl
   |cons b bs=>cases h
  |cons a as ih=>intro bs h;cases bs with
   |nil=>cases h
   |cons b bs =>
    obtain⟨e1,e2⟩:=wy h;rw[ih e2,Str.ext' (Array.toList_inj.mp e1)]
 exact hi h3
end L2
namespace L2
open PySem PySem.Spec PyProof.Rows
section
variable {X:Cx}
theorem sK:MtR X "str.split" (fun x vs H Q=>∃z y:Str,x=.str z/\vs=[.str y]/\(y.length == 0)=false/\z.length+2<=ψ/\∀p,H p=none->Q (.ref p) (upd H p (.lst ((qk z y).map V.str)))):=by
 intro pins s σ H x vs v us Q I rx rv h;obtain⟨z,y,rfl,rfl,h2,h4,q⟩:=h;have hn:(ub.Str.partsBetween z (px z y 0 z.length (z.length+1)) y.length).length<=ψ:=by
  have e1:=StrLaws.occ_length_le z y 0 z.length (z.length+1);rw[length_partsBetween];omega
 obtain⟨t,rfl⟩:=rx;obtain⟨u,rfl,ru⟩:=vals1 rv;obtain⟨t',rfl⟩:=ru;have fin:∀(tk:Nat) (ws:List Value),kM ((qk z y).map V.str) ws->(qk z y).length<=ψ →
   EP X pins σ Q (.ref s.heap.objs.size) { s with toks:=tk,heap:=s.heap.push { cls:=.type "list",data:=.seq ws.toArray } }:=fun tk ws rw' hl=>by
  refine⟨.ref s.heap.objs.size,_,I.laid (o:=.lst ((qk z y).map V.str)) (fun b o e=>τ _ e) (ν _) ?_,rfl,q _ (I.hok.fresh (ν _))⟩;exact⟨by rw[δ];exact hl,_,0,rw',ij _ rfl⟩
 cases h1:(decide (z.length<y.length)||decide (ub.Str.strKind z<ub.Str.strKind y))
 ·cases hf:(px z y 0 z.length (z.length+1)).isEmpty
  ·refine uy F.slot_str_split (typeIs_str _ _ _) F.entry_str_split (F.args_str_split_2 _ _) (meets_str_split_sep z y t t' h1 h2 hf (by omega) hn) ?_;have e:qk z y=ub.Str.partsBetween z (px z y 0 z.length (z.length+1)) y.length:=(if_neg (ne_true_of_eq_false h1)).trans (if_neg (ne_true_of_eq_false hf));exact fin _ _ (by rw[e];exact rS _ _) (by rw[e];exact hn)
  ·have e:qk z y=[z]:=(if_neg (ne_true_of_eq_false h1)).trans (if_pos hf);exact uy F.slot_str_split (typeIs_str _ _ _) F.entry_str_split (F.args_str_split_2 _ _) (meets_str_split_not_found z y t t' h1 h2 hf) (fin s.toks [.str z t] (by rw[e];exact .cons ⟨_,rfl⟩ .nil) (by rw[e];show 1<=ψ;decide))
 ·have e:qk z y=[z]:=if_pos h1;exact uy F.slot_str_split (typeIs_str _ _ _) F.entry_str_split (F.args_str_split_2 _ _) (meets_str_split_cannot_occur z y t t' h1) (fin s.toks [.str z t] (by rw[e];exact .cons ⟨_,rfl⟩ .nil) (by rw[e];show 1<=ψ;decide))
theorem oZ:MtR X "str.join" (fun x vs H Q=>∃(sep:Str) (a:Addr) (ys:List Str),x=.str sep/\vs=[.ref a]/\SqL X.K H a (ys.map V.str)/\(ys.map (·.length)).sum+ys.length*sep.length<=16777216/\Q (.str (jt sep ys)) H):=by
 intro pins s σ H x vs v us Q I rx rv h;obtain⟨sep,a,ys,rfl,rfl,ha,hz,q⟩:=h;obtain⟨t,rfl⟩:=rx;obtain⟨u,rfl,ru⟩:=vals1 rv;cases ru;obtain⟨its,r,pl,_⟩:=I.list ha;refine PyProof.Rows.join_list pl.isList (aCo (by simpa using r)) hz fun t' k=>⟨.str _,H,I.tok _,⟨_,rfl⟩,?_⟩;rw[show Txt.join sep ys=jt sep ys from StrLaws.glued_eq_join sep ys];exact q
end
section
variable {X:Cx}
theorem lM(f:Nat->Int):∀k,argBest (fun i j=>decide (f i > f j)) k<=k/\∀j,j<=k->f j<=f (argBest (fun i j=>decide (f i > f j)) k)
 |0=>⟨ν _,fun j hj=>by rw[show j=0 by omega];exact Int.le_refl _⟩
 |k+1=>by
  obtain⟨h1,h2⟩:=lM f k;unfold argBest
  by_cases h:f (k+1) > f (argBest (fun i j=>decide (f i > f j)) k)
  ·rw[if_pos (decide_eq_true h)];refine⟨ν _,fun j hj=>?_⟩
   by_cases e:j=k+1
   ·rw[e];exact Int.le_refl _
   ·have:=h2 j (by omega);omega
  ·rw[if_neg (by rw[decide_eq_false h];exact υ)];refine⟨by omega,fun j hj=>?_⟩
   by_cases e:j=k+1
   ·rw[e];omega
   ·exact h2 j (by omega)
theorem zJ(hc:X.calm=true):vK X (.builtin "max") (fun xs H Q=>∃(a:Addr) (ns:List Int),xs=[.ref a]/\SqL X.K H a (ns.map V.int)/\ns≠[]/\∀m:Int,m∈ns->(∀n∈ns,n<=m)->Q (.int m) H):=by
 intro pins s σ H xs us Q I r h;obtain⟨a,ns,rfl,ha,hne,q⟩:=h;obtain⟨u,rfl,rx⟩:=vals1 r;cases rx;obtain⟨its,rv,pl,_⟩:=I.list ha;have hi:=intsAre_of rv;obtain⟨ys,hy⟩:=hi.allInts.items;have e1:ns=ys.toList.map (·.1):=by
  rw[←nums_intItems,←hy];exact(show numsOf its.toArray.toList=ns from hi.numsOf).symm
 have hsz:ys.size=ns.length:=by rw[e1,δ,mz]
 have hpos : 0<ns.length:=wm.mpr hne;have hat:∀j,ns[j]?=ys[j]?.map (fun x:Int×Tok=>x.1):=fun j=>by rw[e1,ig,vj]
 have hnum:∀j,j<ns.length->ns[j]?=some (numAt ys j):=fun j hj=>by
  have hj2:j<ys.size:=by omega
  rw[hat,ow hj2];unfold numAt;rw[ow hj2];rfl
 refine max_intList (I.ok.hd hc) (hy ▸ pl.isList) (by omega) fun v h' tk hv hk=>?_;obtain⟨t,rfl⟩:=intItems_at hv;obtain⟨b1,b2⟩:=lM (numAt ys) (ys.size-1);refine⟨.int _,H,I.kept hk,⟨_,rfl⟩,q _ (ι (hnum _ (by omega))) fun n hn=>?_⟩;obtain⟨j,hj⟩:=jb.mp hn;have hjl:j<ns.length:=(ε.mp hj).1;rw[hnum j hjl]at hj;cases hj;exact b2 j (by omega)
theorem aLn:OpR X (qo .Mult) (fun x y H Q=>∃(z:Str) (n:Int),x=.str z/\y=.int n/\(n=0\/n=1)/\z.length<=ψ/\Q (.str (if n=1 then z else Str.empty)) H):=by
 intro pins s σ H x y v u Q I rx ry h;obtain⟨z,n,rfl,rfl,hn,hl,q⟩:=h;obtain⟨t,rfl⟩:=rx;obtain⟨t',rfl⟩:=ry;rcases hn with rfl|rfl
 ·refine P.mul_str_none (by decide) (by decide) ⟨.str _,H,I.tok _,⟨_,rfl⟩,q⟩
 ·refine P.mul_str (by decide) (fun _ h=>by simp at h) (fun _ h=>by simp at h) ?_;exact⟨.str _,H,I,⟨_,rfl⟩,q⟩
theorem aIu(hu:X.A.units+64<qj):OpR X (mj .Eq) (fun x y H Q=>∃(a b:Addr) (xs:List V),x=.ref a/\y=.ref b/\SqL X.K H a xs/\SqL X.K H b []/\Q (.bl xs.isEmpty) H):=by
 intro pins s σ H x y v u Q I rx ry h;obtain⟨a,b,xs,rfl,rfl,ha,hb,q⟩:=h;cases rx;cases ry;obtain⟨i1,r1,p1,_⟩:=I.list ha;obtain⟨i2,r2,p2,_⟩:=I.list hb;cases r2;cases xs with
 |nil =>
  cases r1;refine SeqAt.eq_listAt (e:=fun _=>true) p1.isList p2.isList rfl (by omega) (fun j h1 _=>absurd h1 (xg _)) ?_;exact⟨.bl true,H,I,rfl,q⟩
 |cons z zs =>
  cases r1 with
  |cons rz rt =>
   refine SeqAt.eq_list_lengthsAt p1.isList p2.isList (by simp) (by omega) ?_;exact⟨.bl false,H,I,rfl,q⟩
end
def tO (J:It) (k:Nat) (js:List Nat) (g:TG) (tc:TT) (tk tv:TE) (σ:St) (Q:VK) (H1:Hp):Prop:=∀D,H1 D=none →
 ∃W:Nat->Nat->St->List (Key×V)->Hp->Prop,(∃m,W 0 m (gV k js σ) [] (upd H1 D (.dK [])))/\∀i m σ' kvs H',W i m σ' kvs H' →
  (J.stop i H'/\Q (.ref D) H') ∨
  (J.go i H'/\∃N:St->List (Key×V)->Hp->Prop,(∀σ' ys H',N σ' ys H'->∃m',m'<m/\W (i+1) m' σ' ys H') ∧
   ∀x H2,J.yld i H' x H2->g x σ' H2 fun σ3 H3=>tc σ3 H3 fun b H4=>if b=true then tk σ3 H4 fun y H5=>tv σ3 H5 fun v H6=>∃key,y=kV key/\H6 D=some (.dK kvs)/\kvs.length<ψ/\N σ3 (putK kvs key v) (upd H6 D (.dK (putK kvs key v))) else N σ3 kvs H4)
def aPg (wi:TI) (k:Nat) (js:List Nat) (g:TG) (tc:TT) (tk tv:TE):TE:=fun σ H Q=>wi σ H fun J H1=>tO J k js g tc tk tv σ Q H1
section
variable {prog:mf}{w:oo}{A:mn}{R:Result->ω->Prop}{s:ω}
theorem rH{iter:Expr}(I:Nat->ω->Prop)
  (turn:∀n s,I n s->iz (jh prog w) A (pyNext it) (fun r s₁=>match r with
   |none=>R (.ok .next) s₁
   |some v=>iz (jh prog w) A (xf target it v) (fun _ s₀=>iz (jh prog w) A (assign target env v) (fun _ s₂ =>
     iz (jh prog w) A (forIn ifs true fun c r=>if r=true then do let ok ←isTrue c env (eval c env);pure (vb ok) else pure (vb r)) (fun ok s₃ =>
      if ok=true then iz (jh prog w) A (eval kx env) (fun kv s₄=>iz (jh prog w) A (eval vx env) (fun vv s₅ =>
       iz (jh prog w) A (dictSet D kv vv) (fun _ s₆=>∃m,m<n/\I m s₆) (fun _ _=>False) s₅) (fun _ _=>False) s₄) (fun _ _=>False) s₃
      else ∃m,m<n/\I m s₃) (fun _ _=>False) s₂) (fun _ _=>False) s₀) (fun _ _=>False) s₁) (fun _ _=>False) s)
  (n:Nat)(h:I n s):codeAny (jh prog w) A (.compLoop (.DictComp kx vx [⟨target,iter,ifs,0⟩] scope pos) 0 it (.ref D) env) R s:=by
 refine codeAny_loop rfl I (fun n s hI=>?_) n h;show iz _ A ((compTurn (.DictComp kx vx [⟨target,iter,ifs,0⟩] scope pos) 0 it (.ref D) env).onRaise (fun x=>do noteFrame x env;theTreesLotGoes x)) _ _ s;refine wpAny_noted ?_;rw[compTurn_dict];refine ξ (wpAny_standAt (ξ (ny (turn n s hI) (fun r s₁ h₁=>?_) fun _ _ z=>kn z)));cases r with
 |none=>exact iy h₁
 |some v =>
  refine ξ (ny h₁ (fun _ s₀ h₀=>?_) fun _ _ z=>kn z);refine ξ (ny h₀ (fun _ s₂ h₂=>ξ (ny h₂ (fun ok s₃ h₃=>?_) fun _ _ z=>kn z)) fun _ _ z=>kn z);cases ok with
  |false=>exact iy ⟨rfl,h₃⟩
  |true =>
   exact ξ (ξ (ny h₃ (fun kv s₄ h₄=>ξ (rm (ny h₄ (fun vv s₅ h₅=>ξ (wpAny_standAt (rm (ny h₅ (fun _ s₆ h₆=>iy ⟨rfl,h₆⟩) fun _ _ z=>kn z)))) fun _ _ z=>kn z))) fun _ _ z=>kn z))
end
section
variable {X:Cx}{elt tg iter:Expr}{ifs:List Expr}{scope:Scope}{cl:List (Str×Addr)}{ts ys:List Str}{js:List Nat}{pos:Pos}{wi:TI}{g:TG}{tc:TT}{te:TE}
theorem aHd{s4:ω}{fp:List Addr}(I2:Inv X pins σ H2 s2)(f2:∀b∈fp,eN X pins H2 b)
  (I4:Inv (X.comp scope cl N s2 H2 fp C) pins' σ' H3 s4)(hC:s2.heap.objs.size<=C)(hs':pq C s4.heap h'):Inv X pins σ H3 { s4 with heap:=h' }:=by
 have ext:=hs'.extBut;have neC:∀b o,s2.heap.get? b=some o->b≠C:=fun b o e=>ja (Δ (ik e) hC);have hok:HOk X.prog X.w H3 h':=HOk.but (C:=C) I4.hok I4.free fun b o hb e=>ext b o hb e;have B:Un (frs X.stack) fp H2 H3 s2.heap s4.heap:=I4.base;have u:Un (frs X.stack) fp H2 H3 s2.heap h':=by
  refine⟨fun b o e q hb hx=>ext b o (neC b o e) (B.keep b o e q hb hx),fun b o e q hb hx=>?_,B.free,fun b o e hx=>?_,B.tups,B.frzs,B.tbls⟩
  ·obtain⟨sl,e1⟩:=B.slot b o e q hb hx;exact⟨sl,ext b _ (neC b o e) e1⟩
  ·obtain⟨o',e1⟩:=B.there b o e hx;exact⟨o',ext b _ (neC b o e) e1⟩
 have os:s4.os=s2.os:=I4.os;have gb:=I4.bare;obtain⟨hh,gg,dd,tt,os'⟩:=s4;obtain rfl:os'=s2.os:=os;have fin:=I2.call (h':=h') (g':=gg) (d':=dd) (t':=tt) (ch:=fp) u hok gb fun b hb=>⟨(f2 b hb).2.2.2.1,(f2 b hb).2.1,(f2 b hb).2.2.2.2.1,(f2 b hb).2.2.2.2.2⟩;exact fin
theorem oU(ts ys:List Str)(js:List Nat)(hc:X.calm=true)(hi:PI X tg iter wi)(hclos:closureFor scope X.env=pure cl)(hsub:gY X.env cl)(hcap:rK X scope cl ys js)
  (hg:∀s H fp C,PG (X.comp scope cl (ts++ys) s H fp C) tg g)(ht:∀s H fp C,PIf (X.comp scope cl (ts++ys) s H fp C) ifs tc)(hek:∀s H fp C,PE (X.comp scope cl (ts++ys) s H fp C) kx tk)(hev:∀s H fp C,PE (X.comp scope cl (ts++ys) s H fp C) vx tv)
  (hkind:scope.kind=.function:=by rfl)(hcell:(scope.names.all fun y=>y.2 != .cell)=true:=by rfl)
  (hnames:(scope.names.all fun y=>y.2 != .local||scope.names.lookup y.1 == some .local)=true:=by rfl)
  (hhas:((relabel scope X.env).names.all fun p=>(p.2 != .cell&&p.2 != .free)||(cl.lookup p.1).isSome)=true:=by rfl)
  (hs:∀x,foldedSetIterable iter X.env x=pure x:=by intro _;rfl):PE X (.DictComp kx vx [⟨tg,iter,ifs,0⟩] scope pos) (aPg wi ts.length js g tc tk tv):=by
 intro pins s σ H Q I h;have hcell':∀y∈scope.names,y.2≠.cell:=fun y hy z=>by
  have:=jq.mp hcell y hy;rw[z]at this;exact absurd this (by decide)
 have hnames':∀y∈scope.names,y.2=.local->scope.names.lookup y.1=some .local:=fun y hy z=>by
  have:=jq.mp hnames y hy;rw[z]at this;simpa using this
 have hhas':∀x,((relabel scope X.env).names.lookup x=some .cell\/(relabel scope X.env).names.lookup x=some .free)->∃c,cl.lookup x=some c:=fun x hx=>by
  rcases hx with hx|hx
  ·have:=jq.mp hhas _ (nh hx);exact qm.mp (by simpa using this)
  ·have:=jq.mp hhas _ (nh hx);exact qm.mp (by simpa using this)
 rw[arm_eval_DictComp];refine wpAny_comprehension_free (use:=none) rfl hs hclos hkind hnames' (thn (hi pins s σ H _ I h) fun v s1 h1=>thn h1 fun itv s2 h2=>?_);obtain⟨it,fp,tn,J,H2,e,I2,T,st2,f2,hD⟩:=h2;subst e;have fl:∀b∈fp,b<s2.heap.objs.size:=fun b hb=>by
  obtain⟨o,e,_⟩:=T.obj _ _ st2 b hb;exact ik e
 refine xu (wpAny_newFunctionEnv hcell' (by intro y hy;simp at hy) (fun h₁ hns₁ hsb₁=>?_) hkind);dsimp only at hns₁ hsb₁ ⊢;have hn2:H2 s2.heap.objs.size=none:=I2.hok.fresh (ν _);obtain⟨W,⟨m0,w0⟩,turn⟩:=hD _ hn2;have I2d:Inv X pins σ (upd H2 s2.heap.objs.size (.dK [])) { s2 with heap:=s2.heap.push { cls:=.type "dict",data:=.dict #[] } } :=
  I2.laid (a:=s2.heap.objs.size) (o:=.dK []) (h':=s2.heap.push { cls:=.type "dict",data:=.dict #[] }) (t':=s2.toks) (fun _ _ q=>τ _ q) (ν _) (aAu s2.heap I2.big)
 generalize hHH:s2.heap.push { cls:=.type "dict",dict:=none,data:=.dict #[] }=HH at hns₁ hsb₁ I2d ⊢;have hC:HH.objs.size=s2.heap.objs.size+1:=by rw[←hHH,sy]
 have hlt:s2.heap.objs.size<HH.objs.size:=by rw[hC];exact wf _
 have f2d:∀b∈fp,eN X pins (upd H2 s2.heap.objs.size (.dK [])) b:=fun b hb=>⟨by rw[jT (ja (fl b hb))];exact(f2 b hb).1,(f2 b hb).2⟩;have fld:∀b∈fp,b<HH.objs.size:=fun b hb=>Nat.lt_trans (fl b hb) hlt;have old:∀b o,HH.get? b=some o->h₁.get? b=some o:=fun b o e=>hsb₁.extBut b o (ja (ik e)) (τ _ e);have I':Inv (X.comp scope cl (ts++ys) { s2 with heap:=HH } (upd H2 s2.heap.objs.size (.dK [])) fp HH.objs.size) [] (gV ts.length js σ) (upd H2 s2.heap.objs.size (.dK [])) { s2 with heap:=h₁,toks:=s2.toks+([]:List (Str×Value)).length } :=
  wN (s:={ s2 with heap:=HH }) I2d hsub hcap hkind hhas' f2d fld (ν _) hns₁ old
 have stat:∀{H':Hp},(∀b∈fp,H' b=none)->∀b∈fp,eN (X.comp scope cl (ts++ys) { s2 with heap:=HH } (upd H2 s2.heap.objs.size (.dK [])) fp HH.objs.size) [] H' b:=fun {H'} hn b hb =>
  ⟨hn b hb,ja (fld b hb),I'.ok.exfs b hb,.inl hb,(I'.ok.exf b hb).2,fun p hq=>absurd (show p∈([]:List (Addr×Obj)) from by simpa using hq) (by simp)⟩
 have tn1:tn 0 h₁:=T.keep _ _ _ st2 fun b _ o e=>old b o (hHH ▸ τ _ e);have loop:∀s₃ : ω,s₃ = { s2 with heap:=h₁,toks:=s2.toks+([]:List (Str×Value)).length } →
   codeAny (jh X.prog X.w) X.A (.compLoop (.DictComp kx vx [⟨tg,iter,ifs,0⟩] scope pos) 0 (.ref it) (.ref s2.heap.objs.size) (compEnvC scope cl HH.objs.size X.env))
    (compPost (jh X.prog X.w) X.A X.xe none (EP X pins σ Q) (.ref s2.heap.objs.size) HH.objs.size) s₃:=by
  rintro s₃ rfl;refine rH (fun n s'=>∃i σ' kvs H',Inv (X.comp scope cl (ts++ys) { s2 with heap:=HH } (upd H2 s2.heap.objs.size (.dK [])) fp HH.objs.size) [] σ' H' s'/\tn i s'.heap/\(∀b∈fp,H' b=none)/\W i n σ' kvs H') ?_ m0 ⟨0,_,[],_,I',tn1,fun b hb=>(f2d b hb).1,w0⟩;rintro n s3 ⟨i,σ3,kvs,H3,I3,st3,fr3,w3⟩;rcases turn i n σ3 kvs H3 w3 with⟨stop,qn⟩|⟨go,N,hN,step⟩
  ·refine thn (T.done (X.comp scope cl (ts++ys) { s2 with heap:=HH } (upd H2 s2.heap.objs.size (.dK [])) fp HH.objs.size) rfl rfl rfl hc i _ s3 σ3 H3 (fun _ _=>False) I3 (stat fr3) st3 stop) fun r s4 zq=>?_;obtain⟨hr,I4⟩:=zq;subst hr;obtain⟨m,hn,_⟩:=I4.loc;exact⟨m,hn,fun h' hs'=>⟨.ref s2.heap.objs.size,_,aHd (s2:={ s2 with heap:=HH }) I2d f2d I4 (ν _) hs',rfl,qn⟩⟩
  ·refine thn (T.item (X.comp scope cl (ts++ys) { s2 with heap:=HH } (upd H2 s2.heap.objs.size (.dK [])) fp HH.objs.size) rfl rfl rfl hc i _ s3 σ3 H3 (fun _ _=>False) I3 (stat fr3) st3 go) fun r s4 zq=>?_;obtain⟨u,hr,h4⟩:=zq;subst hr;refine thn h4 fun _ s5 zq=>?_;obtain⟨x,H5,I5,r5,y5,st5,fr5⟩:=zq;have I5':=I5.pinned (stat fr5) (T.obj _ _ st5);refine thn (hg _ _ _ _ _ s5 σ3 H5 x u _ I5' r5 (step x H5 y5)) fun _ s6 zq=>?_;obtain⟨σ6,H6,I6,q6⟩:=zq;refine thn (ht _ _ _ _ _ s6 σ6 H6 _ I6 q6) fun b s7 zq=>?_;obtain⟨H7,I7,q7⟩:=zq;have facts:∀{σ':St}{H':Hp}{s':ω},Inv (X.comp scope cl (ts++ys) { s2 with heap:=HH } (upd H2 s2.heap.objs.size (.dK [])) fp HH.objs.size) ([]++dO fp s5.heap) σ' H' s'->tn (i+1) s'.heap/\(∀b∈fp,H' b=none):=fun {σ' H' s'} J=>by
    refine⟨T.keep _ _ _ st5 fun b hb o e=>(J.pin (b,o) (Ψ _ (Ψ _ (yF hb e)))).1,fun b hb=>?_⟩;obtain⟨o,e,d⟩:=T.obj _ _ st5 b hb;exact(J.pin (b,o) (Ψ _ (Ψ _ (yF hb e)))).2.1
   have bare:∀{σ':St}{H':Hp}{s':ω},Inv (X.comp scope cl (ts++ys) { s2 with heap:=HH } (upd H2 s2.heap.objs.size (.dK [])) fp HH.objs.size) ([]++dO fp s5.heap) σ' H' s'->Inv (X.comp scope cl (ts++ys) { s2 with heap:=HH } (upd H2 s2.heap.objs.size (.dK [])) fp HH.objs.size) [] σ' H' s':=fun J=>J.pins_of fun p hp=>absurd hp (by simp);cases b with
   |false =>
    have q7':N σ6 kvs H7:=by simpa using q7
    obtain⟨m',hm,w7⟩:=hN _ _ _ q7';obtain⟨a3,a4⟩:=facts I7;show ∃m,m<n/\_;exact⟨m',hm,i+1,σ6,kvs,H7,bare I7,a3,a4,w7⟩
   |true =>
    rw[if_pos rfl]at q7;show iz _ _ (eval kx _) _ _ s7;refine thn (hek _ _ _ _ _ s7 σ6 H7 _ I7 q7) fun kv s8 zq=>?_;obtain⟨y,H8,I8,r8,q8⟩:=zq;refine thn (hev _ _ _ _ _ s8 σ6 H8 _ I8 q8) fun vv s9 zq=>?_;obtain⟨v,H9,I9,r9,key,ek,eD,hl,n9⟩:=zq;subst ek;obtain⟨m',hm,w9⟩:=hN _ _ _ n9;obtain⟨a3,a4⟩:=facts I9;have I9':=bare I9;obtain⟨z,hd,vs,rel,dd⟩:=oO I9'.hok eD;have hz:vs.length<=ψ:=by rw[←rel.length];exact z
    have hlp:(putK kvs key v).length<=ψ:=by have:=cW kvs key v;omega
    refine wpAny_dictSet_pairs (hsz:=hz) (sG r8) dd fun h' dd' hs=>?_;have he:∃q,h'.get? s2.heap.objs.size=some q:=let ⟨q,_,_,hq,_⟩:=dd'; ⟨q,hq⟩;exact⟨m',hm,i+1,σ6,putK kvs key v,_,uW I9' (by rw[eD];exact jm) hs he (aDe hlp hd (rel.put key r9) dd'),T.keep _ _ _ a3 fun b hb o e=>(hs.2 b (ja (fl b hb))).trans e,fun b hb=>by rw[jT (ja (fl b hb))];exact a4 b hb,w9⟩
 exact codeAny_compStart_dict (loop _ rfl) (T.self _ 0 _ _ _ tn1 (loop _ rfl))
end
def iI (P:Nat->List (Key×V)->Hp->Prop) (i:Nat) (js:List Nat) (σ:St):St->List (Key×V)->Hp->Prop:=fun σ' ys H=>P (i+1) ys H/\∃o,σ'=o::qW js σ
theorem aCd{K:Ξ}{xs:List V}{k:Nat}{tc:TT}{tk tv:TE}{Q:VK}{H1:Hp}(P:Addr->Nat->List (Key×V)->Hp->Prop)(h0:∀D,H1 D=none->P D 0 [] (upd H1 D (.dK [])))(hl:∀D i ys H,i<=xs.length->P D i ys H->SqL K H a xs)
  (hs:∀D i x ys H,xs[i]?=some x->P D i ys H->tc (some x::qW js σ) H fun b H2=>if b=true then tk (some x::qW js σ) H2 fun y H3=>tv (some x::qW js σ) H3 fun v H4=>∃key,y=kV key/\H4 D=some (.dK ys)/\ys.length<ψ/\iI (P D) i js σ (some x::qW js σ) (putK ys key v) (upd H4 D (.dK (putK ys key v))) else iI (P D) i js σ (some x::qW js σ) ys H2)
  (hd:∀D ys H,P D xs.length ys H->Q (.ref D) H)(hk:k=1:=by rfl):
  tO (Itl K a) k js (zA 0) tc tk tv σ Q H1:=by
 subst hk;intro D hD;refine⟨fun i m σ' ys H=>m=xs.length-i/\i<=xs.length/\P D i ys H/\∃o,σ'=o::qW js σ,⟨xs.length,by simp,io _,h0 D hD,none,rfl⟩,?_⟩;rintro i m σ' ys H ⟨rfl,hi,p,o,rfl⟩;have q:=hl D i ys H hi p
 by_cases hlt:i<xs.length
 ·refine .inr ⟨⟨xs,xs[i],q,by simp[hlt]⟩,iI (P D) i js σ,fun σ3 zs H3 z=>⟨xs.length-(i+1),by omega,rfl,hlt,z.1,z.2⟩,fun x H' y=>?_⟩;obtain⟨e,y⟩:=y;subst e;exact hs D i x ys _ (y xs q) p
 ·have e:i=xs.length:=by omega
  subst e;exact .inl ⟨⟨xs,q,ν _⟩,hd D ys H p⟩
section
variable {X:Cx}{tg:Expr}
def iSeq (K:Ξ) (tl:TE):TI:=fun σ H R=>tl σ H fun x H1=>∃a,x=.ref a/\(((∃xs,SqL K H1 a xs)/\R (Itl K a) H1)\/((∃xs,SqT K H1 a xs)/\R (Itt K a) H1))
theorem aRp(hl:PE X l tl):PI X tg l (iSeq X.K tl):=by
 intro pins s σ H R I h;refine thn (hl pins s σ H _ I h) fun v s1 zq=>?_;obtain⟨x,H1,I1,r1,q1⟩:=zq;obtain⟨a,e,q1⟩:=q1;subst e;cases r1;rcases q1 with⟨⟨xs,hq⟩,q⟩|⟨⟨xs,hq⟩,q⟩
 ·obtain⟨its,rv,p,hz⟩:=I1.list hq;refine qt p.isList ?_;refine⟨s1.heap.objs.size,[s1.heap.objs.size],_,_,H1,rfl,I1.kept (t':=s1.toks) fun b o e=>τ _ e,sU a _,⟨_,ij _ rfl,rfl,rfl⟩,fun b hb=>?_,q⟩;have e:b=s1.heap.objs.size:=by simpa using hb
  subst e;exact I1.fpOk (ν _) (I1.hok.fresh (ν _))
 ·obtain⟨its,rv,p,hz⟩:=I1.tuple hq;refine sx (show s1.heap.IsTuple a its.toArray from p) ?_;refine⟨s1.heap.objs.size,[s1.heap.objs.size],_,_,H1,rfl,I1.kept (t':=s1.toks) fun b o e=>τ _ e,nB a _,⟨_,ij _ rfl,rfl,rfl⟩,fun b hb=>?_,q⟩;have e:b=s1.heap.objs.size:=by simpa using hb
  subst e;exact I1.fpOk (ν _) (I1.hok.fresh (ν _))
theorem mV{K:Ξ}(hK:X.K=K)(he:PE X e ta)(hb:wu e f X.env (eval e X.env)=eval e X.env):PE X (.Attribute e f pos) (tFld K ta f):=hK ▸ qF he hb
theorem aIl:OpR X (qo .Add) (fun x y H Q=>∃a b xs ys,x=.ref a/\y=.ref b/\SqT X.K H a xs/\SqT X.K H b ys/\ys≠[]/\xs.length+ys.length<=ψ ∧
  (xs=[]->Q (.ref b) H)/\(xs≠[]->∀p,H p=none->Q (.ref p) (upd H p (.tup (xs++ys))))):=by
 intro pins s σ H x y v u Q I rx ry h;obtain⟨a,b,xs,ys,rfl,rfl,ha,hb,hx,hz,q1,q2⟩:=h
 by_cases hxs:xs=[]
 ·cases rx;cases ry;obtain⟨its,r1,p1,_⟩:=I.tuple ha;obtain⟨its2,r2,p2,_⟩:=I.tuple hb;have e1:its=[]:=r1.nil_iff.mpr hxs;subst e1;obtain⟨⟨cls,dd,data,sl⟩,ho,hc,n,hd⟩:=id p1;obtain⟨⟨cls2,dd2,data2,sl2⟩,ho2,hc2,n2,hd2⟩:=id p2;simp only at hc hd hc2 hd2;subst hc hd hc2 hd2;exact concat_meets ⟨_,ho,rfl⟩ ⟨_,ho2,rfl⟩ noFill_tuple_add seq_tuple_add xp xn (wx _ _)
   (tuple_addW0 a b _ _ n n2 dd dd2 sl sl2 rfl) ⟨ho,ho2,.ref b,H,I,rfl,q1 hxs⟩
 ·exact aMn pins s σ H _ _ v u Q I rx ry ⟨a,b,xs,ys,rfl,rfl,ha,hb,hxs,hz,fun z=>absurd z hx,fun _=>q2 hxs⟩
end
theorem aHo{X:Cx}{i:Nat}(hN:X.N.Nodup)(hi:X.N[i]?=some x)(hx:Loc X.env.scope x)(he:PEx X (.List es p1) te)(hf:X.fn x=true:=by rfl):
  aGc X (.Assign [.Name x pos'] (.List es p1) pos) (tAsg te (zA i)):=⟨aLe hN hi hx he.h rfl (.inl hf)⟩
theorem joinC(b:Bool){D:Ends}{rest:TS}{c:TT}{t u:TS}{H:Hp}(hk:if b=true then t { D with nx:=rest D } σ H' else u { D with nx:=rest D } σ H')(h:∀Q:Bool->Hp->Prop,Q b H'->c σ H Q):vG (aIo c t u) rest D σ H:=h _ hk
theorem aNu : SlR X (fun x lo hi H Q=>∃z,x=.str z/\z.length<=ψ/\Q (.str (Txt.slice z lo hi)) H):=by
 intro pins s σ H x v vl vu lo hi sl Q I rx hs pl pu h;obtain⟨z,rfl,hz,q⟩:=h;obtain⟨t,rfl⟩:=rx;refine⟨"str",_,F.slot_str_getitem.lookup,typeIs_str _ _ _,?_⟩;have fin:∀(a b:Option Int),Q (.str (Txt.slice z a b)) H->∀t' k,EP X pins σ Q (.str (Txt.slice z a b) t') { s with toks:=k }:=fun a b q t' k=>⟨.str _,H,I.tok _,⟨_,rfl⟩,q⟩;cases pl with
 |none =>
  cases pu with
  |none=>exact uq (l:=none) (u:=none) (st:=none) hs rfl (post_val_or_str ⟨ip (Txt.slice_le z none none) hz,fin none none q⟩)
  |int j tj=>exact uq (l:=none) (u:=some (j,tj)) (st:=none) hs rfl (post_val_or_str ⟨ip (Txt.slice_le z none (some j)) hz,fin none (some j) q⟩)
 |int i ti =>
  cases pu with
  |none=>exact uq (l:=some (i,ti)) (u:=none) (st:=none) hs rfl (post_val_or_str ⟨ip (Txt.slice_le z (some i) none) hz,fin (some i) none q⟩)
  |int j tj=>exact uq (l:=some (i,ti)) (u:=some (j,tj)) (st:=none) hs rfl (post_val_or_str ⟨ip (Txt.slice_le z (some i) (some j)) hz,fin (some i) (some j) q⟩)
theorem aIe : OpR X (qo .Add) (fun x y H Q=>∃a b xs ys,x=.ref a/\y=.ref b/\SqT X.K H a xs/\SqT X.K H b ys/\ys≠[]/\xs.length+ys.length<=ψ/\∀p H',jJ H H'->SqT X.K H' p (xs++ys)->Q (.ref p) H'):=by
 intro pins s σ H x y v u Q I rx ry h;obtain⟨a,b,xs,ys,rfl,rfl,ha,hb,hx,hz,q⟩:=h;refine aIl pins s σ H _ _ v u Q I rx ry ⟨a,b,xs,ys,rfl,rfl,ha,hb,hx,hz,fun e=>?_,fun _ p hp=>?_⟩
 ·subst e;exact q b H (fun _ _ z=>z) hb
 ·exact q p _ (fun b o z=>by rw[jT (jN z hp)];exact z) (SqT.of jP)
theorem zK{K:Ξ}{xs:List V}{k:Nat}{g:TG}{tc:TT}{te:TE}{Q:VK}(P:Nat->List V->Hp->Prop)(h0:P 0 [] H1)(hl:∀i ys H,i<=xs.length->P i ys H->SqT K H a xs/\ys.length<=i)(hz:xs.length<ψ)
  (hs:∀i x ys H (os:St),os.length=k->xs[i]?=some x->P i ys H->g x (os++qW js σ) H fun σ3 H3=>tc σ3 H3 fun b H2=>if b=true then te σ3 H2 fun v H3=>rY P i k js σ σ3 (ys++[v]) H3 else rY P i k js σ σ3 ys H2)
  (hd:∀ys H,P xs.length ys H->∀p,H p=none->Q (.ref p) (upd H p (.lst ys))):
  gQ (Itt K a) k js g tc te σ Q H1:=by
 refine⟨fun i m σ' ys H=>m=xs.length-i/\i<=xs.length/\P i ys H/\∃os:St,os.length=k/\σ'=os++qW js σ,⟨xs.length,by simp,io _,h0,jz k none,mw,rfl⟩,?_⟩;rintro i m σ' ys H ⟨rfl,hi,p,os,ho,rfl⟩;obtain⟨q,hy⟩:=hl i ys H hi p
 by_cases hlt:i<xs.length
 ·refine .inr ⟨⟨xs,xs[i],q,by simp[hlt]⟩,by omega,rY P i k js σ,fun σ3 zs H3 z=>⟨xs.length-(i+1),by omega,rfl,hlt,z.1,z.2⟩,fun x H' y=>?_⟩;obtain⟨e,y⟩:=y;subst e;exact hs i x ys _ os ho (y xs q) p
 ·have e:i=xs.length:=by omega
  subst e;exact .inl ⟨⟨xs,q,ν _⟩,fun l n _=>hd ys H p l n⟩
end L2
namespace L2
open PySem
inductive Kd where
 |num (w:Nat)
 |nest (i:Nat)
 |many (n:Nat) (k:Kd)
 |pick (is:List Nat)
abbrev Shp:=Str×List (Str×Kd)
abbrev Un3:=Str×Nat×Str
def xA:List Nat->Nat
 |[]=>0
 |x::xs=>max x (xA xs)
theorem eC{n:Nat}: ∀{xs:List Nat},n∈xs->n<=xA xs
 |x::xs,h=>by
  rcases π.mp h with rfl|h
  ·exact Nat.le_max_left _ _
  ·exact ip (eC h) (Nat.le_max_right _ _)
theorem aBa:∀{xs:List Nat},xs≠[]->xA xs∈xs
 |[],h=>absurd rfl h
 |[x],_=>by show max x 0∈[x];rw[Nat.max_zero];exact ο.mpr rfl
 |x::y::xs,_=>by
  have ih:=aBa (xs:=y::xs) (by simp);show max x (xA (y::xs))∈_
  by_cases h:x<=xA (y::xs)
  ·rw[Nat.max_eq_right h];exact ς _ ih
  ·rw[Nat.max_eq_left (by omega)];exact ρ ..
theorem aLj{m:Nat}{xs:List Nat}(h1:m∈xs)(h2:∀n∈xs,n<=m):m=xA xs :=
 Nat.le_antisymm (eC h1) (h2 _ (aBa fun z=>by rw[z]at h1;cases h1))
def Kd.size (sz:List Nat):Kd->Nat
 |.num w=>w
 |.nest i=>sz.getD i 0
 |.many n k=>n*k.size sz
 |.pick is=>1+xA (is.map fun i=>sz.getD i 0)
def Kd.depth (dp:List Nat):Kd->Nat
 |.num _=>0
 |.nest i=>dp.getD i 0
 |.many _ k=>k.depth dp
 |.pick is=>xA (is.map fun i=>dp.getD i 0)
def pj (p x:Str):Str:=if p.length=0 then x else p++η "." ++ x
def Kd.units (sz:List Nat) (ut:List (Str->List Un3)):Kd->Str->List Un3
 |.num w,p=>[(p,w,η "num")]
 |.nest i,p=>(ut.getD i fun _=>[]) p
 |.many n k,p=>(jk n).flatMap fun j=>k.units sz ut (pj p (η (toString j)))
 |.pick is,p=>[(pj p (η "tag"),1,η "tag"),(p,xA (is.map fun i=>sz.getD i 0),η "pick")]
structure Tab where
 sz:List Nat
 dp:List Nat
 ut:List (Str->List Un3)
def Tab.more (t:Tab) (s:Shp):Tab:=⟨t.sz++[(s.2.map fun f=>f.2.size t.sz).sum],t.dp++[1+xA (s.2.map fun f=>f.2.depth t.dp)],t.ut++[fun p=>s.2.flatMap fun f=>f.2.units t.sz t.ut (pj p f.1)]⟩
def tabs (S:List Shp):Tab:=S.foldl Tab.more ⟨[],[],[]⟩
theorem aGu(S:List Shp)(s:Shp):tabs (S++[s])=(tabs S).more s:=by unfold tabs;rw[List.foldl_append];rfl
def Tab.Ok (t:Tab):Prop:=t.ut.length=t.sz.length/\∀i p,(((t.ut.getD i fun _=>[]) p).map (·.2.1)).sum=t.sz.getD i 0
theorem wZ(f:Nat->List Un3)(m:Nat)(h:∀j,((f j).map (·.2.1)).sum=m):∀n,((((jk n).flatMap f)).map (·.2.1)).sum=n*m
 |0=>by simp
 |n+1=>by
  rw[vg,qf,χ,List.sum_append,wZ f m h n,qz,h n,Nat.succ_mul]
theorem Kd.units_sum{t:Tab}(h:t.Ok):∀(k:Kd) (p:Str),((k.units t.sz t.ut p).map (·.2.1)).sum=k.size t.sz
 |.num w,p=>by simp[Kd.units,Kd.size]
 |.nest i,p=>h.2 i p
 |.many n k,p=>wZ _ _ (fun j=>Kd.units_sum h k _) n
 |.pick is,p=>by simp[Kd.units,Kd.size]
theorem oC{t:Tab}(h:t.Ok)(p:Str):∀fs:List (Str×Kd),((fs.flatMap fun f=>f.2.units t.sz t.ut (pj p f.1)).map (·.2.1)).sum=(fs.map fun f=>f.2.size t.sz).sum
 |[]=>rfl
 |f::fs=>by
  rw[xw,χ,List.sum_append,Kd.units_sum h,oC h p fs,jx,uj]
theorem Tab.Ok.more{t:Tab}(h:t.Ok)(s:Shp):(t.more s).Ok:=by
 refine⟨by show(t.ut++[_]).length=(t.sz++[_]).length;rw[θ,θ,h.1];rfl,fun i p=>?_⟩;show((((t.ut++[_]).getD i fun _=>[]) p).map (fun u:Un3=>u.2.1)).sum=(t.sz++[_]).getD i 0;rw[Γ,Γ]
 by_cases hi:i<t.ut.length
 ·rw[ir hi,ir (by rw[←h.1];exact hi)];have:=h.2 i p;rw[Γ,Γ]at this;exact this
 ·rw[ie (by omega),ie (by rw[←h.1];omega),←h.1]
  by_cases e:i-t.ut.length=0
  ·rw[e];exact oC h p s.2
  ·obtain⟨n,hn⟩ : ∃n,i-t.ut.length=n+1:=⟨i-t.ut.length-1,by omega⟩;rw[hn];rfl
def Kd.Below (n:Nat):Kd->Prop
 |.num _=>True
 |.nest i=>i<n
 |.many _ k=>k.Below n
 |.pick is=>∀i∈is,i<n
theorem zL{α : Type}{xs ys:List α}{d : α}{i:Nat}(h:i<xs.length):(xs++ys).getD i d=xs.getD i d:=by
 rw[Γ,Γ,ir h]
theorem Kd.Below.mono{n m:Nat}(h:n<=m):∀{k:Kd},k.Below n->k.Below m
 |.num _,_=>jm
 |.nest i,q=>Δ (show i<n from q) h
 |.many _ k,q=>Kd.Below.mono (k:=k) h q
 |.pick is,q=>fun i hi=>Δ (q i hi) h
theorem tW{xs ys is:List Nat}(h:∀i∈is,i<xs.length):(is.map fun i=>(xs++ys).getD i 0)=is.map fun i=>xs.getD i 0 :=
 qg fun i hi=>zL (h i hi)
theorem Kd.size_app{sz more:List Nat}: ∀{k:Kd},k.Below sz.length->k.size (sz++more)=k.size sz
 |.num _,_=>rfl
 |.nest i,q=>zL q
 |.many n k,q=>by show n*_=n*_;rw[Kd.size_app (k:=k) q]
 |.pick is,q=>by show 1+xA _=1+xA _;rw[tW q]
theorem Kd.depth_app{dp more:List Nat}: ∀{k:Kd},k.Below dp.length->k.depth (dp++more)=k.depth dp
 |.num _,_=>rfl
 |.nest i,q=>zL q
 |.many n k,q=>Kd.depth_app (k:=k) q
 |.pick is,q=>by show xA _=xA _;rw[tW q]
theorem Kd.units_app{sz more:List Nat}{ut um:List (Str->List Un3)}(e:ut.length=sz.length):∀{k:Kd},k.Below sz.length->∀p,k.units (sz++more) (ut++um) p=k.units sz ut p
 |.num _,_,_=>rfl
 |.nest i,q,p=>by show((ut++um).getD i _) p=(ut.getD i _) p;rw[zL (by rw[e];exact q)]
 |.many n k,q,p=>by
  show(jk n).flatMap _=(jk n).flatMap _
  congr 1
  funext j
  exact Kd.units_app e (k:=k) q _
 |.pick is,q,p=>by
  show[_,(p,xA _,_)]=[_,(p,xA _,_)];rw[tW q]
theorem bG:∀S:List Shp,(tabs S).sz.length=S.length/\(tabs S).dp.length=S.length/\(tabs S).ut.length=S.length:=fun S=>by
 have:∀(S:List Shp) (t:Tab) (n:Nat),(t.sz.length=n/\t.dp.length=n/\t.ut.length=n)->((S.foldl Tab.more t).sz.length=n+S.length/\(S.foldl Tab.more t).dp.length=n+S.length/\(S.foldl Tab.more t).ut.length=n+S.length):=by
  intro S
  induction S with
  |nil=>intro t n h;exact h
  |cons s S ih =>
   intro t n h;have:=ih (t.more s) (n+1) ⟨by show(t.sz++[_]).length=_;rw[θ,h.1];rfl,by show(t.dp++[_]).length=_;rw[θ,h.2.1];rfl,by show(t.ut++[_]).length=_;rw[θ,h.2.2];rfl⟩;rw[Ω,show n+(S.length+1)=n+1+S.length by omega];exact this
 have h:=this S ⟨[],[],[]⟩ 0 ⟨rfl,rfl,rfl⟩;rw[Nat.zero_add]at h;exact h
theorem aAt(S:List Shp):∀R:List Shp,∃a b c,(tabs (S++R)).sz=(tabs S).sz++a/\(tabs (S++R)).dp=(tabs S).dp++b/\(tabs (S++R)).ut=(tabs S).ut++c:=fun R=>by
 have:∀(R:List Shp) (t:Tab),∃a b c,(R.foldl Tab.more t).sz=t.sz++a/\(R.foldl Tab.more t).dp=t.dp++b/\(R.foldl Tab.more t).ut=t.ut++c:=by
  intro R
  induction R with
  |nil=>intro t;exact⟨[],[],[],by simp,by simp,by simp⟩
  |cons s R ih =>
   intro t;obtain⟨a,b,c,h1,h2,h3⟩:=ih (t.more s);exact⟨[_]++a,[_]++b,[_]++c,h1.trans (jg _ _ _),h2.trans (jg _ _ _),h3.trans (jg _ _ _)⟩
 unfold tabs;rw[List.foldl_append];exact this R _
structure Cl5 where
 num:Addr
 nest:Addr
 many:Addr
 pick:Addr
 shape:Addr
inductive KO (c:Cl5) (K:Ξ) (H:Hp) (sa:List Addr):Addr->Kd->Prop
 |num {a dx:Addr}{w:Nat} : H a=some (.ins c.num dx [("width",.int w)])->KO c K H sa a (.num w)
 |nest {a dx s:Addr}{i:Nat} : sa[i]?=some s->H a=some (.ins c.nest dx [("shape",.ref s)])->KO c K H sa a (.nest i)
 |many {a dx b:Addr}{n:Nat}{k:Kd} : H a=some (.ins c.many dx [("count",.int n),("kind",.ref b)])->KO c K H sa b k->KO c K H sa a (.many n k)
 |pick {a dx t:Addr}{is:List Nat}{ss:List Addr} : H a=some (.ins c.pick dx [("shapes",.ref t)])->SqT K H t (ss.map V.ref)->ss.length=is.length->(∀(j i:Nat) (s:Addr),is[j]?=some i->ss[j]?=some s->sa[i]?=some s)->KO c K H sa a (.pick is)
theorem KO.same{K:Ξ}(h:KO c K H sa a k)(g:jJ H H'):KO c K H' sa a k:=by
 induction h with
 |num h=>exact .num (g _ _ h)
 |nest e h=>exact .nest e (g _ _ h)
 |many h _ ih=>exact .many (g _ _ h) ih
 |pick h t l e=>exact .pick (g _ _ h) (g.tp t) l e
theorem tJ{sa more:List Addr}{i:Nat}(h:sa[i]?=some s):(sa++more)[i]?=some s:=by
 rw[ir (ε.mp h).1];exact h
theorem KO.more{K:Ξ}(h:KO c K H sa a k)(more:List Addr):KO c K H (sa++more) a k:=by
 induction h with
 |num h=>exact .num h
 |nest e h=>exact .nest (tJ e) h
 |many h _ ih=>exact .many h ih
 |pick h t l e=>exact .pick h t l fun j i s h1 h2=>tJ (e j i s h1 h2)
theorem KO.ahead{K:Ξ}(h:KO c K H sa a k):k.Below sa.length:=by
 induction h with
 |num h=>exact jm
 |nest e h=>exact(ε.mp e).1
 |many h _ ih=>exact ih
 | @pick a dx t is ss h t' l e =>
  intro i hi;obtain⟨j,hj⟩:=jb.mp hi;have hj1:j<is.length:=(ε.mp hj).1;exact(ε.mp (e j i _ hj (ζ (by omega)))).1
inductive FO (c:Cl5) (K:Ξ) (H:Hp) (sa:List Addr):List Addr->List (Str×Kd)->Prop
 |nil:FO c K H sa [] []
 |cons {p k:Addr}{ps:List Addr}{nm:Str}{kd:Kd}{fs:List (Str×Kd)} : SqT K H p [.str nm,.ref k]->KO c K H sa k kd->FO c K H sa ps fs->FO c K H sa (p::ps) ((nm,kd)::fs)
theorem FO.same{K:Ξ}(h:FO c K H sa ps fs)(g:jJ H H'):FO c K H' sa ps fs:=by
 induction h with
 |nil=>exact .nil
 |cons t k _ ih=>exact .cons (g.tp t) (k.same g) ih
theorem FO.len{K:Ξ}(h:FO c K H sa ps fs):ps.length=fs.length:=by
 induction h with
 |nil=>rfl
 |cons _ _ _ ih=>rw[Ω,Ω,ih]
theorem FO.snoc{K:Ξ}(h:FO c K H sa ps fs)(t:SqT K H p [.str nm,.ref k])(hk:KO c K H sa k kd):FO c K H sa (ps++[p]) (fs++[(nm,kd)]):=by
 induction h with
 |nil=>exact .cons t hk .nil
 |cons t' k' _ ih=>exact .cons t' k' ih
theorem FO.get{K:Ξ}(h:FO c K H sa ps fs):∀{i:Nat}{p:Addr},ps[i]?=some p->∃nm kd k,fs[i]?=some (nm,kd)/\SqT K H p [.str nm,.ref k]/\KO c K H sa k kd:=by
 induction h with
 |nil=>intro i p e;simp at e
 |cons t k _ ih =>
  intro i p e;cases i with
  |zero=>cases e;exact⟨_,_,_,rfl,t,k⟩
  |succ i=>exact ih e
def SO (c:Cl5) (K:Ξ) (H:Hp) (sa:List Addr) (a:Addr) (s:Shp):Prop:=∃dx t ps,H a=some (.ins c.shape dx [("name",.str s.1),("fields",.ref t)])/\SqT K H t (ps.map V.ref)/\FO c K H sa ps s.2
theorem SO.same{K:Ξ}(h:SO c K H sa a s)(g:jJ H H'):SO c K H' sa a s:=by
 obtain⟨dx,t,ps,h1,h2,h3⟩:=h;exact⟨dx,t,ps,g _ _ h1,g.tp h2,h3.same g⟩
def SW (c:Cl5) (K:Ξ) (H:Hp) (sa:List Addr) (S:List Shp):Prop:=sa.length=S.length/\∀(i:Nat) (a:Addr) (s:Shp),sa[i]?=some a->S[i]?=some s->SO c K H (sa.take i) a s
theorem SW.same{K:Ξ}(h:SW c K H sa S)(g:jJ H H'):SW c K H' sa S:=⟨h.1,fun i a s h1 h2=>(h.2 i a s h1 h2).same g⟩
theorem SW.nil{K:Ξ}: SW c K H [] []:=⟨rfl,fun i a s h _=>by simp at h⟩
theorem SW.snoc{K:Ξ}(h:SW c K H sa S)(x:SO c K H sa a s):SW c K H (sa++[a]) (S++[s]):=by
 have hl:sa.length=S.length:=h.1;refine⟨by rw[θ,θ,h.1];rfl,fun i b u h1 h2=>?_⟩
 by_cases hi:i<sa.length
 ·rw[ir hi]at h1;rw[ir (by rw[←h.1];exact hi)]at h2;rw[List.take_append_of_le_length (by omega)];exact h.2 i b u h1 h2
 ·have hi2:i<(sa++[a]).length:=(ε.mp h1).1;have e:i=sa.length:=by rw[θ,mh]at hi2;omega
  subst e;rw[ie (ν _),mi]at h1;rw[ie (by omega),show sa.length-S.length=0 by omega]at h2;cases h1;cases h2;rw[List.take_left' rfl];exact x
inductive LK (K:Ξ) (H:Hp):Addr->Kd->Prop
 |num {a:Addr}{w:Nat} : SqT K H a [.str (η "num"),.int w]->LK K H a (.num w)
 |nest {a:Addr}{i:Nat} : SqT K H a [.str (η "shape"),.int i]->LK K H a (.nest i)
 |many {a b:Addr}{n:Nat}{k:Kd} : SqT K H a [.str (η "row"),.int n,.ref b]->LK K H b k->LK K H a (.many n k)
 |pick {a l:Addr}{is:List Nat} : SqT K H a [.str (η "pick"),.ref l]->SqL K H l (is.map fun (i:Nat)=>V.int i)->LK K H a (.pick is)
theorem LK.same{K:Ξ}(h:LK K H a k)(g:jJ H H'):LK K H' a k:=by
 induction h with
 |num h=>exact .num (g.tp h)
 |nest h=>exact .nest (g.tp h)
 |many h _ ih=>exact .many (g.tp h) ih
 |pick h l=>exact .pick (g.tp h) (g.seq l)
inductive LF (K:Ξ) (H:Hp):List Addr->List (Str×Kd)->Prop
 |nil:LF K H [] []
 |cons {p k:Addr}{ps:List Addr}{nm:Str}{kd:Kd}{fs:List (Str×Kd)} : SqT K H p [.str nm,.ref k]->LK K H k kd->LF K H ps fs->LF K H (p::ps) ((nm,kd)::fs)
theorem LF.same{K:Ξ}(h:LF K H ps fs)(g:jJ H H'):LF K H' ps fs:=by
 induction h with
 |nil=>exact .nil
 |cons t k _ ih=>exact .cons (g.tp t) (k.same g) ih
theorem LF.len{K:Ξ}(h:LF K H ps fs):ps.length=fs.length:=by
 induction h with
 |nil=>rfl
 |cons _ _ _ ih=>rw[Ω,Ω,ih]
theorem LF.snoc{K:Ξ}(h:LF K H ps fs)(t:SqT K H p [.str nm,.ref k])(hk:LK K H k kd):LF K H (ps++[p]) (fs++[(nm,kd)]):=by
 induction h with
 |nil=>exact .cons t hk .nil
 |cons t' k' _ ih=>exact .cons t' k' ih
theorem LF.get{K:Ξ}(h:LF K H ps fs):∀{i:Nat}{p:Addr},ps[i]?=some p->∃nm kd k,fs[i]?=some (nm,kd)/\SqT K H p [.str nm,.ref k]/\LK K H k kd:=by
 induction h with
 |nil=>intro i p e;simp at e
 |cons t k _ ih =>
  intro i p e;cases i with
  |zero=>cases e;exact⟨_,_,_,rfl,t,k⟩
  |succ i=>exact ih e
def LS (K:Ξ) (H:Hp) (a:Addr) (s:Shp):Prop:=∃l ps,SqT K H a [.str s.1,.ref l]/\SqL K H l (ps.map V.ref)/\LF K H ps s.2
theorem LS.same{K:Ξ}(h:LS K H a s)(g:jJ H H'):LS K H' a s:=by
 obtain⟨l,ps,h1,h2,h3⟩:=h;exact⟨l,ps,g.tp h1,g.seq h2,h3.same g⟩
inductive LW (K:Ξ) (H:Hp):List Addr->List Shp->Prop
 |nil:LW K H [] []
 |cons {a:Addr}{as:List Addr}{s:Shp}{S:List Shp} : LS K H a s->LW K H as S->LW K H (a::as) (s::S)
theorem LW.same{K:Ξ}(h:LW K H as S)(g:jJ H H'):LW K H' as S:=by
 induction h with
 |nil=>exact .nil
 |cons t _ ih=>exact .cons (t.same g) ih
theorem LW.len{K:Ξ}(h:LW K H as S):as.length=S.length:=by
 induction h with
 |nil=>rfl
 |cons _ _ ih=>rw[Ω,Ω,ih]
theorem LW.snoc{K:Ξ}(h:LW K H as S)(x:LS K H a s):LW K H (as++[a]) (S++[s]):=by
 induction h with
 |nil=>exact .cons x .nil
 |cons t _ ih=>exact .cons t ih
theorem LW.get{K:Ξ}(h:LW K H as S):∀{i:Nat}{a:Addr},as[i]?=some a->∃s,S[i]?=some s/\LS K H a s:=by
 induction h with
 |nil=>intro i a e;simp at e
 |cons t _ ih =>
  intro i a e;cases i with
  |zero=>cases e;exact⟨_,rfl,t⟩
  |succ i=>exact ih e
abbrev spS:Str:=⟨#[32]⟩
abbrev nlS:Str:=⟨#[10]⟩
def Kd.words (nm:Nat->Str):Kd->List Str
 |.num w=>[η "num",η (toString (w:Int))]
 |.nest i=>[nm i]
 |.many n k=>η "row" :: η (toString (n:Int))::k.words nm
 |.pick is=>η "pick" :: is.map nm
theorem Kd.words_ne(nm:Nat->Str):∀k:Kd,k.words nm≠[]
 |.num _=>by simp[Kd.words]
 |.nest _=>by simp[Kd.words]
 |.many _ _=>by simp[Kd.words]
 |.pick _=>by simp[Kd.words]
def kN (S:List Shp) (i:Nat):Str:=(S.getD i (Str.empty,[])).1
def aDz (nm:Nat->Str) (s:Shp):List (List Str):=[η "shape",s.1]::s.2.map fun f=>f.1::f.2.words nm
def mJ (S:List Shp):List (List Str):=S.flatMap (aDz (kN S))
def Pln (w:Str):Prop:=32∉w.cps.toList/\10∉w.cps.toList
theorem aFq{c d:Nat}(ne:d≠c):∀{ps:List (List Nat)},(∀p∈ps,d∉p)->d∉jn c ps
 |[],_=>by simp[jn]
 |[p],h=>h p (ο.mpr rfl)
 |p::q::r,h=>by
  have ih:=aFq ne (ps:=q::r) fun x hx=>h x (ς _ hx);have hp:=h p (ρ ..);show d∉p++c::jn c (q::r);simp only[ji,π,not_or];exact⟨hp,ne,ih⟩
theorem aDg{ws:List Str}(hne:ws≠[])(h:∀w∈ws,Pln w):qk (jt spS ws) spS=ws:=nV hne fun w hw=>(h w hw).1
theorem wY{ls:List (List Str)}(hne:ls≠[])(h:∀l∈ls,∀w∈l,Pln w):qk (jt nlS (ls.map (jt spS))) nlS=ls.map (jt spS):=by
 refine nV (by simpa using hne) fun y hy=>?_;obtain⟨l,hl,rfl⟩:=iu.mp hy;rw[mS];refine aFq (by decide) fun p hp=>?_;obtain⟨w,hw,rfl⟩:=iu.mp hp;exact(h l hl w hw).2
theorem iL{y:Str}{ys:List Str}(h:ys≠[]):jt sep (y::ys)=y++sep++jt sep ys:=by
 cases ys with
 |nil=>exact absurd rfl h
 |cons z zs=>rfl
theorem aFf{n:Nat}(h:n<=9):Pln (η (toString (n:Int))):=by
 have:∀m:Fin 10,Pln (η (toString ((m.val:Nat):Int))):=by
  intro m;unfold Pln;revert m;ac_rfl
 exact this ⟨n,by omega⟩
def Kd.Fit (n:Nat):Kd->Prop
 |.num w=>1<=w/\w<=4
 |.nest i=>i<n
 |.many m k=>1<=m/\m<=6/\((∃w,k=.num w/\1<=w/\w<=4)\/∃i,k=.nest i/\i<n)
 |.pick is=>2<=is.length/\is.length<=4/\is.Nodup/\∀i∈is,i<n
theorem Kd.Fit.below : ∀{k:Kd},k.Fit n->k.Below n
 |.num _,_=>jm
 |.nest _,h=>h
 |.many _ k,h=>by
  rcases h.2.2 with⟨w,rfl,_⟩|⟨i,rfl,hi⟩
  ·exact jm
  ·exact hi
 |.pick _,h=>h.2.2.2
theorem Kd.Fit.plain{n:Nat}{nm:Nat->Str}(hnm:∀i,i<n->Pln (nm i)):∀{k:Kd},k.Fit n->∀w∈k.words nm,Pln w:=by
 have hnum:∀w:Nat,1<=w/\w<=4->∀x∈(Kd.num w).words nm,Pln x:=fun w hw x hx=>by
  simp only[Kd.words,π,jv,or_false]at hx;rcases hx with rfl|rfl
  ·unfold Pln;ac_rfl
  ·exact aFf (by omega)
 intro k h;cases k with
 |num w=>exact hnum w h
 |nest i =>
  intro x hx;rw[ο.mp (show x∈[nm i] from hx)];exact hnm i h
 |many m k =>
  intro x hx;simp only[Kd.words,π]at hx;rcases hx with rfl|rfl|hx
  ·unfold Pln;ac_rfl
  ·exact aFf (by have:=h.2.1;omega)
  ·rcases h.2.2 with⟨w,rfl,hw⟩|⟨i,rfl,hi⟩
   ·exact hnum w hw x hx
   ·rw[ο.mp (show x∈[nm i] from hx)];exact hnm i hi
 |pick is =>
  intro x hx;simp only[Kd.words,π,iu]at hx;rcases hx with rfl|⟨i,hi,rfl⟩
  ·unfold Pln;ac_rfl
  ·exact hnm i (h.2.2.2 i hi)
def Kd.Rk (r:Nat):Kd->Prop
 |.num _=>True
 |.nest i=>2*i+2<=r
 |.many _ k=>(∃w,k=.num w/\1<=r)\/∃i,k=.nest i/\2*i+3<=r
 |.pick is=>∀i∈is,2*i+3<=r
theorem Kd.Fit.rk : ∀{k:Kd},k.Fit n->k.Rk (2*n+1)
 |.num _,_=>jm
 |.nest i,h=>by have:i<n:=h;show 2*i+2<=2*n+1;omega
 |.many m k,h=>by
  rcases h.2.2 with⟨w,e,_⟩|⟨i,e,hi⟩
  ·exact .inl ⟨w,e,by omega⟩
  ·exact .inr ⟨i,e,by omega⟩
 |.pick is,h=>fun i hi=>by have:=h.2.2.2 i hi;omega
theorem Kd.Rk.mono{r q:Nat}(h:r<=q):∀{k:Kd},k.Rk r->k.Rk q
 |.num _,_=>jm
 |.nest i,g=>ip (show 2*i+2<=r from g) h
 |.many m k,g=>by
  rcases g with⟨w,e,hw⟩|⟨i,e,hi⟩
  ·exact .inl ⟨w,e,by omega⟩
  ·exact .inr ⟨i,e,by omega⟩
 |.pick is,g=>fun i hi=>ip (g i hi) h
theorem Kd.Fit.mono{n m:Nat}(h:n<=m):∀{k:Kd},k.Fit n->k.Fit m
 |.num _,g=>g
 |.nest i,g=>Δ (show i<n from g) h
 |.many _ k,g=>⟨g.1,g.2.1,by
  rcases g.2.2 with g|⟨i,e,hi⟩
  ·exact .inl g
  ·exact .inr ⟨i,e,by omega⟩⟩
 |.pick is,g=>⟨g.1,g.2.1,g.2.2.1,fun i hi=>Δ (g.2.2.2 i hi) h⟩
structure Good (S:List Shp):Prop where
 ne:∀(i:Nat) (s:Shp),S[i]?=some s->s.2≠[]
 few:∀(i:Nat) (s:Shp),S[i]?=some s->s.2.length<=6
 fit:∀(i:Nat) (s:Shp),S[i]?=some s->∀f∈s.2,f.2.Fit i/\1<=f.1.length/\f.1.length<=6
 sz:∀i:Nat,(tabs S).sz.getD i 0<=1000
theorem oQ{α : Type}{S:List α}{i:Nat}{s : α}(h:S[i]?=some s):S=S.take i++s::S.drop (i+1)/\(S.take i).length=i:=by
 obtain⟨hi,e⟩:=ε.mp h;refine⟨?_,by rw[Θ];omega⟩
 conv=>lhs;rw[←kj i S]
 rw[jj hi,e]
theorem oJ{α : Type}{xs zs:List α}{y d : α}: (xs++y::zs).getD xs.length d=y:=by
 rw[Γ,ie (ν _),mi];rfl
theorem mL{S R:List Shp}{i:Nat}(h:i<S.length):(tabs (S++R)).sz.getD i 0=(tabs S).sz.getD i 0/\(tabs (S++R)).dp.getD i 0=(tabs S).dp.getD i 0/\((tabs (S++R)).ut.getD i fun _=>[])=(tabs S).ut.getD i fun _=>[]:=by
 obtain⟨a,b,c,e1,e2,e3⟩:=aAt S R;obtain⟨l1,l2,l3⟩:=bG S;rw[e1,e2,e3];exact⟨zL (by omega),zL (by omega),zL (by omega)⟩
theorem bJ(S:List Shp)(s:Shp)(R:List Shp):(tabs (S++s::R)).sz.getD S.length 0=(s.2.map fun f=>f.2.size (tabs S).sz).sum/\(tabs (S++s::R)).dp.getD S.length 0=1+xA (s.2.map fun f=>f.2.depth (tabs S).dp)/\∀p,((tabs (S++s::R)).ut.getD S.length fun _=>[]) p=s.2.flatMap fun f=>f.2.units (tabs S).sz (tabs S).ut (pj p f.1):=by
 have e:S++s::R=(S++[s])++R:=by rw[jg];rfl
 obtain⟨h1,h2,h3⟩:=mL (S:=S++[s]) (R:=R) (i:=S.length) (by rw[θ];exact wf _);obtain⟨l1,l2,l3⟩:=bG S;rw[e,h1,h2,h3,aGu];refine⟨?_,?_,fun p=>?_⟩
 ·show((tabs S).sz++[_]).getD _ _=_;rw[←l1,oJ]
 ·show((tabs S).dp++[_]).getD _ _=_;rw[←l2,oJ]
 ·show((tabs S).ut++[_]).getD _ _ p=_;rw[←l3,oJ]
theorem Kd.tab_lo{S R:List Shp}{k:Kd}(h:k.Below S.length):k.size (tabs (S++R)).sz=k.size (tabs S).sz/\k.depth (tabs (S++R)).dp=k.depth (tabs S).dp/\∀p,k.units (tabs (S++R)).sz (tabs (S++R)).ut p=k.units (tabs S).sz (tabs S).ut p:=by
 obtain⟨a,b,c,e1,e2,e3⟩:=aAt S R;obtain⟨l1,l2,l3⟩:=bG S;rw[e1,e2,e3];exact⟨Kd.size_app (by rw[l1];exact h),Kd.depth_app (by rw[l2];exact h),fun p=>Kd.units_app (by omega) (by rw[l1];exact h) p⟩
theorem aAg{α β : Type}{f g : α->List β}: ∀{xs:List α},(∀x∈xs,f x=g x)->xs.flatMap f=xs.flatMap g
 |[],_=>rfl
 |x::xs,h=>by rw[xw,xw,h x (ρ ..),aAg fun y hy=>h y (ς _ hy)]
theorem fU{S:List Shp}{i:Nat}(h:S[i]?=some s)(hF:∀f∈s.2,f.2.Below i):(tabs S).sz.getD i 0=(s.2.map fun f=>f.2.size (tabs S).sz).sum/\(tabs S).dp.getD i 0=1+xA (s.2.map fun f=>f.2.depth (tabs S).dp)/\∀p,((tabs S).ut.getD i fun _=>[]) p=s.2.flatMap fun f=>f.2.units (tabs S).sz (tabs S).ut (pj p f.1):=by
 obtain⟨e,hl⟩:=oQ h;generalize S.take i=A at e hl;generalize S.drop (i+1)=B at e;subst e;subst hl;obtain⟨h1,h2,h3⟩:=bJ A s B;have q:=fun f hf=>Kd.tab_lo (R:=s::B) (hF f hf);refine⟨?_,?_,fun p=>?_⟩
 ·rw[h1,qg fun f hf=>(q f hf).1]
 ·rw[h2,qg fun f hf=>(q f hf).2.1]
 ·rw[h3 p,aAg fun f hf=>(q f hf).2.2 _]
theorem Kd.units_len{sz:List Nat}{ut:List (Str->List Un3)}{n:Nat}(h:∀i,i<n->1<=sz.getD i 0/\∀p,((ut.getD i fun _=>[]) p).length<=sz.getD i 0):∀{k:Kd},k.Fit n->1<=k.size sz/\∀p,(k.units sz ut p).length<=k.size sz:=by
 have hn:∀w,1<=w->1<=(Kd.num w).size sz/\∀p,((Kd.num w).units sz ut p).length<=(Kd.num w).size sz:=fun w hw=>⟨hw,fun p=>hw⟩;intro k hk;cases k with
 |num w=>exact hn w hk.1
 |nest i=>exact h i hk
 |many m k =>
  have hs : 1<=k.size sz/\∀p,(k.units sz ut p).length<=k.size sz:=by
   rcases hk.2.2 with⟨w,rfl,hw,_⟩|⟨i,rfl,hi⟩
   ·exact hn w hw
   ·exact h i hi
  refine⟨Nat.mul_pos hk.1 hs.1,fun p=>?_⟩;show((jk m).flatMap _).length<=m*_;have:∀m,((jk m).flatMap fun j=>k.units sz ut (pj p (η (toString j)))).length<=m*k.size sz:=by
   intro m
   induction m with
   |zero=>exact io _
   |succ m ih =>
    rw[vg,qf,θ,qz,Nat.succ_mul];exact Nat.add_le_add ih (hs.2 _)
  exact this m
 |pick is =>
  refine⟨by show 1<=1+_;omega,fun p=>?_⟩;show 2<=1+xA _;cases is with
  |nil=>exact absurd hk.1 (by decide)
  |cons i r =>
   have:=(h i (hk.2.2.2 i (ρ ..))).1;have g:=eC (n:=sz.getD i 0) (xs:=(i::r).map fun i=>sz.getD i 0) (ρ ..);omega
theorem fW(p:Str):∀{fs:List (Str×Kd)},(∀f∈fs,1<=f.2.size sz/\∀p,(f.2.units sz ut p).length<=f.2.size sz)->(fs.flatMap fun f=>f.2.units sz ut (pj p f.1)).length<=(fs.map fun f=>f.2.size sz).sum/\fs.length<=(fs.map fun f=>f.2.size sz).sum
 |[],_=>⟨ν _,ν _⟩
 |f::fs,h=>by
  have ih:=fW p (fs:=fs) fun g hg=>h g (ς _ hg);have h0:=h f (ρ ..);rw[xw,θ,jx,uj,Ω];exact⟨Nat.add_le_add (h0.2 _) ih.1,by omega⟩
theorem Good.len(h:Good S):∀n i,i<n->i<S.length->1<=(tabs S).sz.getD i 0/\∀p,(((tabs S).ut.getD i fun _=>[]) p).length<=(tabs S).sz.getD i 0
 |0,i,hi,_=>absurd hi (xg _)
 |n+1,i,hi,hl=>by
  have hs:S[i]?=some S[i]:=ζ hl;have hF:=h.fit i _ hs;obtain⟨e1,e2,e3⟩:=fU hs fun f hf=>(hF f hf).1.below;have q:∀f∈S[i].2,1<=f.2.size (tabs S).sz/\∀p,(f.2.units (tabs S).sz (tabs S).ut p).length<=f.2.size (tabs S).sz:=fun f hf =>
   Kd.units_len (fun j hj=>Good.len h n j (by omega) (by omega)) (hF f hf).1
  have hne:=h.ne i _ hs;have : 1<=S[i].2.length:=by
   cases e:S[i].2 with
   |nil=>exact absurd e hne
   |cons _ _=>exact rq (io _)
  refine⟨?_,fun p=>?_⟩
  ·rw[e1];exact ip this (fW Str.empty q).2
  ·rw[e1,e3 p];exact(fW p q).1
theorem Good.kd(h:Good S){k:Kd}(hk:k.Fit S.length): 1<=k.size (tabs S).sz/\∀p,(k.units (tabs S).sz (tabs S).ut p).length<=k.size (tabs S).sz:=Kd.units_len (fun j hj=>h.len S.length j hj hj) hk
theorem uF{m:Nat}: ∀{xs:List Nat},(∀x∈xs,x<=m)->xA xs<=m
 |[],_=>io _
 |x::xs,h=>Nat.max_le.mpr ⟨h x (ρ ..),uF fun y hy=>h y (ς _ hy)⟩
theorem Kd.size_bd{sz:List Nat}{m:Nat}(h:∀i,sz.getD i 0<=m)(hm : 4<=m):∀{k:Kd},k.Fit n->k.size sz<=6*m
 |.num w,hk=>by have:=hk.2;show w<=_;omega
 |.nest i,_=>by have:=h i;show sz.getD i 0<=_;omega
 |.many c k,hk=>by
  have:k.size sz<=m:=by
   rcases hk.2.2 with⟨w,rfl,_,hw⟩|⟨i,rfl,hi⟩
   ·show w<=m;omega
   ·exact h i
  exact Nat.mul_le_mul hk.2.1 this
 |.pick is,_=>by
  have:xA (is.map fun i=>sz.getD i 0)<=m:=uF fun x hx=>by obtain⟨i,_,rfl⟩:=iu.mp hx;exact h i
  show 1+_<=_;omega
def Kd.parts (S:List Shp):Kd->List (Str×Kd)
 |.nest i=>(S.getD i (Str.empty,[])).2
 |.many n k=>(jk n).map fun j=>(η (toString j),k)
 |_=>[]
theorem Kd.parts_units(h:Good S){k:Kd}(hk:k.Fit S.length)(hs:(∃i,k=.nest i)\/∃n q,k=.many n q)(p:Str):k.units (tabs S).sz (tabs S).ut p=(k.parts S).flatMap fun f=>f.2.units (tabs S).sz (tabs S).ut (pj p f.1):=by
 rcases hs with⟨i,rfl⟩|⟨n,q,rfl⟩
 ·have hi:i<S.length:=hk;have hs:S[i]?=some S[i]:=ζ hi;have e:(Kd.nest i).parts S=S[i].2:=by show(S.getD i _).2=_;rw[Γ,hs];rfl
  rw[e];exact(fU hs fun f hf=>((h.fit i _ hs) f hf).1.below).2.2 p
 ·show(jk n).flatMap _=((jk n).map _).flatMap _;rw[List.flatMap_map]
def Kd.isNum:Kd->Bool
 |.num _=>true
 |_=>false
def Kd.isNest:Kd->Bool
 |.nest _=>true
 |_=>false
def Kd.isMany:Kd->Bool
 |.many _ _=>true
 |_=>false
def Kd.isPick:Kd->Bool
 |.pick _=>true
 |_=>false
def Nolk (m:Str):Prop:=∀v w:V,[(("width" : Str),v)].lookup m=none/\[(("shape" : Str),v)].lookup m=none/\[(("count" : Str),v),(("kind" : Str),w)].lookup m=none/\[(("shapes" : Str),v)].lookup m=none
def spV (c:Cl5) (K:Ξ) (r:Nat) (F:Kd->Bool) (val:Kd->Tab->Nat):Sp:=fun vs H Q _=>∃(a:Addr) (kd:Kd) (sa:List Addr) (S:List Shp),vs=[.ref a]/\F kd=true/\kd.Rk r/\kd.Fit S.length/\KO c K H sa a kd/\SW c K H sa S/\Good S/\∀H',jJ H H'->Q (.int (val kd (tabs S))) H'
def TV (c:Cl5) (K:Ξ) (r:Nat) (val:Kd->Tab->Nat):Addr->Sp->Prop:=fun C sp=>(C=c.num/\sp=spV c K r Kd.isNum val)\/(C=c.nest/\sp=spV c K r Kd.isNest val)\/(C=c.many/\sp=spV c K r Kd.isMany val)\/(C=c.pick/\sp=spV c K r Kd.isPick val)
theorem aEe{K:Ξ}{val:Kd->Tab->Nat}{H:Hp}{kd:Kd}{S:List Shp}{Q:VK}{E:XK}(hm:Nolk m)(hr:kd.Rk r)(hf:kd.Fit S.length)(ho:KO c K H sa a kd)(hw:SW c K H sa S)(hg:Good S)
  (q:∀H',jJ H H'->Q (.int (val kd (tabs S))) H'):∃a' C dx fs sp,V.ref a=.ref a'/\H a'=some (.ins C dx fs)/\fs.lookup m=none/\TV c K r val C sp/\sp [.ref a] H Q E:=by
 cases id ho with
 |num h=>exact⟨_,_,_,_,_,rfl,h,(hm _ .non).1,.inl ⟨rfl,rfl⟩,a,_,sa,S,rfl,rfl,hr,hf,ho,hw,hg,q⟩
 |nest e h=>exact⟨_,_,_,_,_,rfl,h,(hm _ .non).2.1,.inr (.inl ⟨rfl,rfl⟩),a,_,sa,S,rfl,rfl,hr,hf,ho,hw,hg,q⟩
 |many h _=>exact⟨_,_,_,_,_,rfl,h,(hm _ _).2.2.1,.inr (.inr (.inl ⟨rfl,rfl⟩)),a,_,sa,S,rfl,rfl,hr,hf,ho,hw,hg,q⟩
 |pick h _ _ _=>exact⟨_,_,_,_,_,rfl,h,(hm _ .non).2.2.2,.inr (.inr (.inr ⟨rfl,rfl⟩)),a,_,sa,S,rfl,rfl,hr,hf,ho,hw,hg,q⟩
inductive aFb (c:Cl5) (K:Ξ) (r:Nat) (val:Nat->Tab->Nat) (vs:List V) (H:Hp) (Q:VK):Prop|mk:∀(a:Addr) (i:Nat) (sa:List Addr) (S:List Shp),vs=[.ref a]->sa[i]?=some a->2*i+1<=r->SW c K H sa S->Good S->(∀H',jJ H H'->Q (.int (val i (tabs S))) H')->aFb c K r val vs H Q
def lJ (c:Cl5) (K:Ξ) (r:Nat) (val:Nat->Tab->Nat):Sp:=fun vs H Q _=>aFb c K r val vs H Q
inductive UR (K:Ξ) (H:Hp):List Addr->List Un3->Prop
 |nil:UR K H [] []
 |cons {t:Addr}{ts:List Addr}{u:Un3}{us:List Un3} : SqT K H t [.str u.1,.int u.2.1,.str u.2.2]->UR K H ts us->UR K H (t::ts) (u::us)
theorem UR.same{K:Ξ}(h:UR K H ts us)(g:jJ H H'):UR K H' ts us:=by
 induction h with
 |nil=>exact .nil
 |cons t _ ih=>exact .cons (g.tp t) ih
theorem UR.len{K:Ξ}(h:UR K H ts us):ts.length=us.length:=by
 induction h with
 |nil=>rfl
 |cons _ _ ih=>rw[Ω,Ω,ih]
theorem UR.app{K:Ξ}(h:UR K H ts us)(h':UR K H ts' us'):UR K H (ts++ts') (us++us'):=by
 induction h with
 |nil=>exact h'
 |cons t _ ih=>exact .cons t ih
theorem UR.get{K:Ξ}(h:UR K H ts us):∀{i:Nat}{t:Addr},ts[i]?=some t->∃u,us[i]?=some u/\SqT K H t [.str u.1,.int u.2.1,.str u.2.2]:=by
 induction h with
 |nil=>intro i t e;simp at e
 |cons t _ ih =>
  intro i a e;cases i with
  |zero=>cases e;exact⟨_,rfl,t⟩
  |succ i=>exact ih e
theorem UR.but{K:Ξ}{H:Hp}(h:UR K H ts us)(g:But l H H')(hl:H l=some (.lst zs)):UR K H' ts us:=by
 induction h with
 |nil=>exact .nil
 |cons t _ ih=>exact .cons (g.tup hl t) ih
def UL (K:Ξ) (H:Hp) (l:Addr) (us:List Un3):Prop:=∃ts:List Addr,H l=some (.lst (ts.map V.ref))/\UR K H ts us
abbrev un (kd:Kd) (S:List Shp) (p:Str):List Un3:=kd.units (tabs S).sz (tabs S).ut p
theorem Kd.parts_un(h:Good S){k:Kd}(hk:k.Fit S.length)(hs:(∃i,k=.nest i)\/∃n q,k=.many n q){p:Str}: un k S p=(k.parts S).flatMap fun f=>un f.2 S (pj p f.1):=Kd.parts_units h hk hs p
def spU (c:Cl5) (K:Ξ) (r:Nat) (F:Kd->Bool):Sp:=fun vs H Q _=>∃(a:Addr) (p:Str) (kd:Kd) (sa:List Addr) (S:List Shp),vs=[.ref a,.str p]/\p.length+8*r<=200/\F kd=true/\kd.Rk r/\kd.Fit S.length/\KO c K H sa a kd/\SW c K H sa S/\Good S ∧
 ∀l H',jJ H H'->H l=none->UL K H' l (un kd S p)->Q (.ref l) H'
def TU (c:Cl5) (K:Ξ) (r:Nat):Addr->Sp->Prop:=fun C sp=>(C=c.num/\sp=spU c K r Kd.isNum)\/(C=c.nest/\sp=spU c K r Kd.isNest)\/(C=c.many/\sp=spU c K r Kd.isMany)\/(C=c.pick/\sp=spU c K r Kd.isPick)
theorem kdU{K:Ξ}{H:Hp}{kd:Kd}{S:List Shp}(hm:Nolk m)(hr:kd.Rk r)(hf:kd.Fit S.length)(ho:KO c K H sa a kd)(hw:SW c K H sa S)(hg:Good S):
  ∃C dx fs sp,H a=some (.ins C dx fs)/\fs.lookup m=none/\TU c K r C sp/\∀(p:Str) (Q:VK) (E:XK),p.length+8*r<=200->(∀l H',jJ H H'->H l=none->UL K H' l (un kd S p)->Q (.ref l) H')->sp [.ref a,.str p] H Q E:=by
 cases id ho with
 |num h=>exact⟨_,_,_,_,h,(hm _ .non).1,.inl ⟨rfl,rfl⟩,fun p Q E hp q=>⟨a,p,_,sa,S,rfl,hp,rfl,hr,hf,ho,hw,hg,q⟩⟩
 |nest e h=>exact⟨_,_,_,_,h,(hm _ .non).2.1,.inr (.inl ⟨rfl,rfl⟩),fun p Q E hp q=>⟨a,p,_,sa,S,rfl,hp,rfl,hr,hf,ho,hw,hg,q⟩⟩
 |many h _=>exact⟨_,_,_,_,h,(hm _ _).2.2.1,.inr (.inr (.inl ⟨rfl,rfl⟩)),fun p Q E hp q=>⟨a,p,_,sa,S,rfl,hp,rfl,hr,hf,ho,hw,hg,q⟩⟩
 |pick h _ _ _=>exact⟨_,_,_,_,h,(hm _ .non).2.2.2,.inr (.inr (.inr ⟨rfl,rfl⟩)),fun p Q E hp q=>⟨a,p,_,sa,S,rfl,hp,rfl,hr,hf,ho,hw,hg,q⟩⟩
inductive PR (c:Cl5) (K:Ξ) (H:Hp) (sa:List Addr):List Addr->List (Str×Kd)->Prop
 |nil:PR c K H sa [] []
 |cons {t k:Addr}{x:V}{y:Str}{kd:Kd}{ts:List Addr}{ps:List (Str×Kd)} : SqT K H t [x,.ref k]->aBf x=some y->KO c K H sa k kd->PR c K H sa ts ps->PR c K H sa (t::ts) ((y,kd)::ps)
theorem PR.same{K:Ξ}(h:PR c K H sa ts ps)(g:jJ H H'):PR c K H' sa ts ps:=by
 induction h with
 |nil=>exact .nil
 |cons t x k _ ih=>exact .cons (g.tp t) x (k.same g) ih
theorem PR.len{K:Ξ}(h:PR c K H sa ts ps):ts.length=ps.length:=by
 induction h with
 |nil=>rfl
 |cons _ _ _ _ ih=>rw[Ω,Ω,ih]
theorem PR.snoc{K:Ξ}{x:V}(h:PR c K H sa ts ps)(t1:SqT K H t [x,.ref k])(h2:aBf x=some y)(h3:KO c K H sa k kd):PR c K H sa (ts++[t]) (ps++[(y,kd)]):=by
 induction h with
 |nil=>exact .cons t1 h2 h3 .nil
 |cons t x k _ ih=>exact .cons t x k ih
theorem PR.get{K:Ξ}(h:PR c K H sa ts ps):∀{i:Nat}{t:Addr},ts[i]?=some t->∃x y kd k,ps[i]?=some (y,kd)/\SqT K H t [x,.ref k]/\aBf x=some y/\KO c K H sa k kd:=by
 induction h with
 |nil=>intro i t e;simp at e
 |cons t x k _ ih =>
  intro i a e;cases i with
  |zero=>cases e;exact⟨_,_,_,_,rfl,t,x,k⟩
  |succ i=>exact ih e
theorem FO.parts{K:Ξ}(h:FO c K H sa ps fs)(more:List Addr):PR c K H (sa++more) ps fs:=by
 induction h with
 |nil=>exact .nil
 |cons t k _ ih=>exact .cons t rfl (k.more more) ih
theorem SW.at{K:Ξ}(h:SW c K H sa S){i:Nat}(e:sa[i]?=some a):∃s,S[i]?=some s/\SO c K H (sa.take i) a s:=by
 have hi:i<S.length:=by rw[←h.1];exact(ε.mp e).1
 exact⟨S[i],ζ hi,h.2 i a _ e (ζ hi)⟩
theorem SO.fields{K:Ξ}{H:Hp}{sa:List Addr}(h:SO c K H (sa.take i) a s):∃dx t ps,H a=some (.ins c.shape dx [("name",.str s.1),("fields",.ref t)])/\SqT K H t (ps.map V.ref)/\PR c K H sa ps s.2:=by
 obtain⟨dx,t,ps,h1,h2,h3⟩:=h;refine⟨dx,t,ps,h1,h2,?_⟩;have:=h3.parts (sa.drop i);rw[kj]at this;exact this
theorem aHq:∀j:Nat,j<6->(η (toString j)).length=1:=by ac_rfl
theorem Kd.parts_ok(h:Good S){k:Kd}{r:Nat}(hk:k.Fit S.length)(hr:k.Rk (r+1)){f:Str×Kd}(hf:f∈k.parts S):f.2.Rk r/\f.2.Fit S.length/\1<=f.1.length/\f.1.length<=6:=by
 cases k with
 |num w=>cases hf
 |nest i =>
  have hi:i<S.length:=hk;have hs:S[i]?=some S[i]:=ζ hi;have e:(Kd.nest i).parts S=S[i].2:=by show(S.getD i _).2=_;rw[Γ,hs];rfl
  rw[e]at hf;obtain⟨g1,g2,g3⟩:=h.fit i _ hs f hf;exact⟨g1.rk.mono (by have : 2*i+2<=r+1:=hr;omega),g1.mono (by omega),g2,g3⟩
 |many n q =>
  obtain⟨j,hj,rfl⟩:=iu.mp hf;have hj':j<6:=Δ (wb.mp hj) hk.2.1;have:=aHq j hj';refine⟨?_,?_,by show 1<=(η (toString j)).length;omega,by show(η (toString j)).length<=6;omega⟩
  ·rcases hr with⟨w,rfl,_⟩|⟨i,rfl,hi⟩
   ·exact jm
   ·show 2*i+2<=r;omega
  ·rcases hk.2.2 with⟨w,rfl,hw⟩|⟨i,rfl,hi⟩
   ·exact hw
   ·exact hi
 |pick is=>cases hf
def Kd.lv:Kd->Nat
 |.many _ _=>1
 |_=>0
theorem Kd.lv_le:∀k:Kd,k.lv<=1
 |.num _=>io _
 |.nest _=>io _
 |.many _ _=>ν _
 |.pick _=>io _
def LX (K:Ξ) (H:Hp) (sl:Addr) (S:List Shp):Prop:=∃as:List Addr,SqL K H sl (as.map V.ref)/\LW K H as S
theorem LX.same{K:Ξ}(h:LX K H sl S)(g:jJ H H'):LX K H' sl S:=by
 obtain⟨as,h1,h2⟩:=h;exact⟨as,g.seq h1,h2.same g⟩
def uG (K:Ξ) (val:Kd->Tab->Nat):Nat->Sp
 |0=>fun _ _ _ _=>False
 |r+1=>fun vs H Q _=>∃(a sl:Addr) (kd:Kd) (S:List Shp),vs=[.ref a,.ref sl]/\kd.Rk r/\kd.lv<=r/\kd.Fit S.length/\LK K H a kd/\LX K H sl S/\Good S/\∀H',jJ H H'->Q (.int (val kd (tabs S))) H'
def spLU (K:Ξ):Nat->Sp
 |0=>fun _ _ _ _=>False
 |r+1=>fun vs H Q _=>∃(a sl:Addr) (p:Str) (kd:Kd) (S:List Shp),vs=[.ref a,.ref sl,.str p]/\p.length+8*r<=200/\kd.Rk r/\kd.lv<=r/\kd.Fit S.length/\LK K H a kd/\LX K H sl S/\Good S ∧
  ∀l H',jJ H H'->H l=none->UL K H' l (un kd S p)->Q (.ref l) H'
def vSz (kd:Kd) (t:Tab):Nat:=kd.size t.sz
def vDp (kd:Kd) (t:Tab):Nat:=kd.depth t.dp
def sSz (i:Nat) (t:Tab):Nat:=t.sz.getD i 0
def sDp (i:Nat) (t:Tab):Nat:=t.dp.getD i 0
theorem KO.but{K:Ξ}{H:Hp}(g:But l H H')(hl:H l=some (.lst zs))(h:KO c K H sa a k):KO c K H' sa a k:=by
 have n:∀{a C dx fs},H a=some (.ins C dx fs)->H' a=some (.ins C dx fs):=fun h=>g _ _ (gW h hl (by intro z;cases z)) h
 induction h with
 |num h=>exact .num (n h)
 |nest e h=>exact .nest e (n h)
 |many h _ ih=>exact .many (n h) ih
 |pick h t l e=>exact .pick (n h) (g.tup hl t) l e
theorem FO.but{K:Ξ}{H:Hp}(g:But l H H')(hl:H l=some (.lst zs))(h:FO c K H sa ps fs):FO c K H' sa ps fs:=by
 induction h with
 |nil=>exact .nil
 |cons t k _ ih=>exact .cons (g.tup hl t) (k.but g hl) ih
theorem SO.but{K:Ξ}{H:Hp}(g:But l H H')(hl:H l=some (.lst zs))(h:SO c K H sa a s):SO c K H' sa a s:=by
 obtain⟨dx,t,ps,h1,h2,h3⟩:=h;exact⟨dx,t,ps,g _ _ (gW h1 hl (by intro z;cases z)) h1,g.tup hl h2,h3.but g hl⟩
theorem SW.but{K:Ξ}{H:Hp}(g:But l H H')(hl:H l=some (.lst zs))(h:SW c K H sa S):SW c K H' sa S:=⟨h.1,fun i a s h1 h2=>(h.2 i a s h1 h2).but g hl⟩
theorem But.from{H:Hp}(g:jJ H H1)(hl:H l=none)(b:But l H1 H2):jJ H H2:=fun x o q=>b x o (jN q hl) (g x o q)
theorem zZ{H:Hp}(hx:H x=none)(hd:H dx=none):jJ H (upd (upd H dx o) x u):=fun b v q=>by
 rw[jT (jN q hx),jT (jN q hd)];exact q
theorem jJ.putn{H:Hp}(g:jJ H H1)(h:H a=none):jJ H (upd H1 a o):=fun b v q=>by
 rw[jT (jN q h)];exact g _ _ q
theorem qJ{ss:List Addr}{i:Nat}(h:(ss.map V.ref)[i]?=some x):∃s,ss[i]?=some s/\x=.ref s:=by
 rw[ig]at h;cases e:ss[i]? with
 |none=>rw[e]at h;cases h
 |some c=>rw[e]at h;cases h;exact⟨c,rfl,rfl⟩
theorem qO{α β : Type}{f : α->β}{l:List α}{i:Nat}{a : α}(h:l[i]?=some a):(l.take (i+1)).map f=(l.take i).map f++[f a]:=by
 rw[iw,h,χ];rfl
theorem dZ{α β : Type}{f : α->List β}{l:List α}{i:Nat}{a : α}(h:l[i]?=some a):(l.take (i+1)).flatMap f=(l.take i).flatMap f++f a:=by
 rw[iw,h,qf];show _++[a].flatMap f=_;rw[qz]
theorem jZ{α : Type}{l:List α}: l.take l.length=l:=List.take_length
theorem aGv{ns:List Nat}{m:Int}(h1:m∈ns.map fun n:Nat=>(n:Int))(h2:∀n∈ns.map fun n:Nat=>(n:Int),n<=m):m=((xA ns:Nat):Int):=by
 obtain⟨n,hn,rfl⟩:=iu.mp h1;rw[←aLj hn fun k hk=>by have:=h2 (k:Int) (List.mem_map_of_mem hk);omega]
theorem sumI:∀ns:List Nat,(ns.map fun n:Nat=>(n:Int)).sum=((ns.sum:Nat):Int)
 |[]=>rfl
 |n::ns=>by rw[jx,uj,uj,sumI ns];omega
theorem Kd.Rk.zero : ∀{k:Kd},k.Rk 0->k.Fit n->k.isNum=true
 |.num _,_,_=>rfl
 |.nest i,h,_=>by have : 2*i+2<=0:=h;omega
 |.many _ _,h,_=>by
  rcases h with⟨_,_,h⟩|⟨i,_,h⟩ <;> omega
 |.pick is,h,q=>by
  cases is with
  |nil=>exact absurd q.1 (by decide)
  |cons i _=>have:=h i (ρ ..);omega
theorem Kd.Rk.sub{r:Nat}(h:(Kd.many n k).Rk (r+1)):k.Rk r:=by
 rcases h with⟨w,rfl,_⟩|⟨i,rfl,hi⟩
 ·exact jm
 ·show 2*i+2<=r;omega
theorem Kd.Fit.sub(h:(Kd.many n k).Fit m):k.Fit m:=by
 rcases h.2.2 with⟨w,rfl,hw⟩|⟨i,rfl,hi⟩
 ·exact hw
 ·exact hi
theorem rN{os:St}(h:os.length=2):∃a b,os=[a,b]:=by
 match os,h with
 |[a,b],_=>exact⟨a,b,rfl⟩
theorem pH{m:Str}(h:m = "size" ∨ m = "depth" ∨ m = "units_at" ∨ m = "parted"):Nolk m:=by
 rcases h with rfl|rfl|rfl|rfl <;> exact fun _ _=>⟨rfl,rfl,rfl,rfl⟩
theorem yN.mono{K:Ξ}{k:Nat}(h:yN P w K mg base CX j m C sp)(hk:j<=k):yN P w K mg base CX k m C sp:=by
 obtain⟨c,f,fd,ps,h1,h2,h3⟩:=h;exact⟨c,f,fd,ps,h1,h2.mono hk,h3⟩
theorem noFn{K:Ξ}{sp:Sp}(h:∀vs H Q E,sp vs H Q E->False):kH P w K mg base CX k f fd ps sp:=⟨fun vs H Q E q=>(h vs H Q E q).elim,fun _ _ _ H _ _ vs Q E _ _ _ _ q=>(h vs H Q E q).elim⟩
theorem noV{K:Ξ}{F:Kd->Bool}(hF:∀k,F k=true->k.isNum=true->False):∀vs H Q E,spV c K 0 F val vs H Q E->False:=fun vs H Q E h=>by obtain⟨a,kd,sa,S,_,h1,h2,h3,_⟩:=h;exact hF kd h1 (h2.zero h3)
theorem noU{K:Ξ}{F:Kd->Bool}(hF:∀k,F k=true->k.isNum=true->False):∀vs H Q E,spU c K 0 F vs H Q E->False:=fun vs H Q E h=>by obtain⟨a,p,kd,sa,S,_,_,h1,h2,h3,_⟩:=h;exact hF kd h1 (h2.zero h3)
theorem nn1:∀k:Kd,k.isNest=true->k.isNum=true->False:=fun k h g=>by cases k <;> first|exact υ h|exact υ g
theorem nn2:∀k:Kd,k.isMany=true->k.isNum=true->False:=fun k h g=>by cases k <;> first|exact υ h|exact υ g
theorem nn3:∀k:Kd,k.isPick=true->k.isNum=true->False:=fun k h g=>by cases k <;> first|exact υ h|exact υ g
theorem ff1:∀k:Kd,k.isNest=true->(∃i,k=.nest i)\/∃n q,k=.many n q:=fun k h=>by
 cases k <;> first|exact .inl ⟨_,rfl⟩|cases h
theorem ff2:∀k:Kd,k.isMany=true->(∃i,k=.nest i)\/∃n q,k=.many n q:=fun k h=>by
 cases k <;> first|exact .inr ⟨_,_,rfl⟩|cases h
inductive Itm where
 |sh (n:Str)
 |fd (n:Str) (k:Kd)
def gZ (s:Shp):List Itm:=.sh s.1::s.2.map fun f=>.fd f.1 f.2
def vB (S:List Shp):List Itm:=S.flatMap gZ
def Itm.line (nm:Nat->Str):Itm->List Str
 |.sh n=>[η "shape",n]
 |.fd n k=>n::k.words nm
theorem cL(S:List Shp):mJ S=(vB S).map (Itm.line (kN S)):=by
 unfold mJ vB;rw[List.map_flatMap]
 congr 1
 funext s
 unfold aDz gZ;rw[jx,jp];rfl
theorem zM(A B:List Shp):vB (A++B)=vB A++vB B:=qf
def mH (S:List Shp) (j:Nat) (T:List Shp):Prop:=(∃S2,S=T++S2/\j=(vB T).length)\/∃S1 s S2 f1 f2,S=S1++s::S2/\s.2=f1++f2/\T=S1++[(s.1,f1)]/\j=(vB S1).length+1+f1.length
theorem mH.start(S:List Shp):mH S 0 []:=.inl ⟨S,rfl,rfl⟩
theorem mH.next(h:mH S j T)(hj:j<(vB S).length):∃S1 s S2,S=S1++s::S2 ∧
  (((vB S)[j]?=some (.sh s.1)/\T=S1/\mH S (j+1) (S1++[(s.1,[])]))\/∃f1 n k f2,s.2=f1++(n,k)::f2/\(vB S)[j]?=some (.fd n k)/\T=S1++[(s.1,f1)]/\mH S (j+1) (S1++[(s.1,f1++[(n,k)])])):=by
 have one:∀{T:List Shp}{S2:List Shp},S=T++S2->j=(vB T).length->∃S1 s S2,S=S1++s::S2 ∧
  (((vB S)[j]?=some (.sh s.1)/\T=S1/\mH S (j+1) (S1++[(s.1,[])]))\/∃f1 n k f2,s.2=f1++(n,k)::f2/\(vB S)[j]?=some (.fd n k)/\T=S1++[(s.1,f1)]/\mH S (j+1) (S1++[(s.1,f1++[(n,k)])])):=by
  intro T S2 e ej;cases S2 with
  |nil=>rw[e,jy,←ej]at hj;exact absurd hj (qc _)
  |cons s S2 =>
   refine⟨T,s,S2,e,.inl ⟨?_,rfl,.inr ⟨T,s,S2,[],s.2,e,rfl,rfl,by rw[ej];rfl⟩⟩⟩;rw[e,zM,ie (by omega),ej,mi];rfl
 rcases h with⟨S2,e,ej⟩|⟨S1,s,S2,f1,f2,e,ef,eT,ej⟩
 ·exact one e ej
 ·cases f2 with
  |nil =>
   rw[jy]at ef;have e2:T=S1++[s]:=by rw[eT,←ef]
   refine one (S2:=S2) (by rw[e,e2,jg];rfl) ?_;rw[e2,zM,θ,ej];show _=_+([s].flatMap gZ).length;rw[qz];unfold gZ;rw[Ω,δ,ef];omega
  |cons f f2 =>
   refine⟨S1,s,S2,e,.inr ⟨f1,f.1,f.2,f2,ef,?_,eT,.inr ⟨S1,s,S2,f1++[(f.1,f.2)],f2,e,by rw[ef,jg];rfl,rfl,by rw[ej,θ];rfl⟩⟩⟩;rw[e,zM,ie (by omega),show j-(vB S1).length=f1.length+1 by omega];show((gZ s)++vB S2)[f1.length+1]?=_;unfold gZ;rw[uu,List.getElem?_cons_succ,ir (by rw[δ,ef,θ,Ω];omega),ig,ef,ie (ν _),mi];rfl
theorem uN{A:List Shp}(h:A≠[]): 0<(vB A).length:=by
 cases A with
 |nil=>exact absurd rfl h
 |cons a A=>exact Nat.succ_pos _
theorem mH.done(h:mH S (vB S).length T):T=S:=by
 rcases h with⟨S2,e,ej⟩|⟨S1,s,S2,f1,f2,e,ef,eT,ej⟩
 ·cases S2 with
  |nil=>rw[e,jy]
  |cons s S2 =>
   rw[e,zM,θ]at ej;have:=uN (A:=s::S2) (by simp);omega
 ·rw[e,zM,θ,show vB (s::S2)=gZ s++vB S2 from rfl,θ]at ej;unfold gZ at ej;rw[Ω,δ,ef,θ]at ej;have h2:f2=[]:=uv.mp (by omega);have h3:S2=[]:=by
   cases S2 with
   |nil=>rfl
   |cons a A=>have:=uN (A:=a::A) (by simp);omega
  rw[eT,e,h3];subst h2;rw[jy]at ef;rw[←ef]
theorem bH(sa:List Addr)(z:Addr):atI ((sa++[z]).map V.ref) (-1)=some (.ref z):=by
 have l:((sa++[z]).map V.ref).length=sa.length+1:=by rw[δ,θ];rfl
 have e:ixN (sa.length+1) (-1)=some sa.length:=by
  unfold ixN;rw[if_neg (by omega),if_pos (by omega)]
  congr 1
  omega
 unfold atI;rw[l,e];show((sa++[z]).map V.ref)[sa.length]?=_;rw[χ,ie (by rw[δ];exact ν _),δ,mi];rfl
theorem aIw(sa:List Addr)(z:Addr):ixN ((sa++[z]).map V.ref).length (-1)=some sa.length:=by
 rw[δ,θ,mh];unfold ixN;rw[if_neg (by omega),if_pos (by omega)]
 congr 1
 omega
theorem aJk(sa:List Addr)(z y:Addr):((sa++[z]).map V.ref).set sa.length (.ref y)=(sa++[y]).map V.ref:=by
 rw[χ,χ,List.set_append_right _ _ (by rw[δ];exact ν _),δ,mi];rfl
theorem cutA(xs:List V)(k:Nat):eK xs (some (k:Int)) none=xs.drop k:=by
 unfold eK;rw[HT.sIx_none,HT.sIx_nat];have e:xs.drop (min k xs.length)=xs.drop k:=by
  by_cases h:k<=xs.length
  ·rw[Nat.min_eq_left h]
  ·rw[Nat.min_eq_right (by omega),List.drop_length,List.drop_eq_nil_of_le (by omega)]
 rw[e,qd];rw[wg];omega
theorem wT(x:V)(xs:List V):eK (x::xs) (some 1) none=xs:=cutA (x::xs) 1
theorem aOq(x y:V)(xs:List V):eK (x::y::xs) (some 2) none=xs:=cutA (x::y::xs) 2
theorem at0{x:V}{xs:List V}: atI (x::xs) 0=some x:=qR (j:=0) rfl
theorem at1{x y:V}{xs:List V}: atI (x::y::xs) 1=some y:=qR (j:=1) rfl
theorem cutB(xs:List V)(k:Nat):eK xs none (some (k:Int))=xs.take k:=by
 unfold eK;rw[HT.sIx_none,HT.sIx_nat,List.drop_zero,Nat.sub_zero]
 by_cases h:k<=xs.length
 ·rw[Nat.min_eq_left h]
 ·rw[Nat.min_eq_right (by omega),List.take_length,qd (by omega)]
theorem cutC(sa:List Addr)(z:Addr):eK ((sa++[z]).map V.ref) none (some (-1))=sa.map V.ref:=by
 unfold eK;rw[HT.sIx_none,List.drop_zero,Nat.sub_zero];have l:((sa++[z]).map V.ref).length=sa.length+1:=by rw[δ,θ];rfl
 have e:HT.sIx ((sa++[z]).map V.ref).length ((sa++[z]).map V.ref).length (some (-1))=(sa.map V.ref).length:=by
  rw[l,δ];show(if (-1:Int)<0 then ((-1:Int)+((sa.length+1:Nat):Int)).toNat else min (-1:Int).toNat (sa.length+1))=_;rw[if_pos (by decide)];omega
 rw[e,χ,List.take_left' rfl]
def dk (T:List Shp) (sa:List Addr):List (Key×V):=il (fun (s:Shp) (a:Addr)=>((.inr s.1:Key),V.ref a)) T sa
theorem aIy{T:List Shp}{sa:List Addr}(hn:(T.map (·.1)).Nodup):∀{i:Nat}{s:Shp}{a:Addr},T[i]?=some s->sa[i]?=some a->aS (dk T sa) (.inr s.1)=some (.ref a):=by
 induction T generalizing sa with
 |nil=>intro i s a h;simp at h
 |cons t T ih =>
  intro i s a h1 h2;cases sa with
  |nil=>simp at h2
  |cons b sa =>
   cases i with
   |zero =>
    cases h1;cases h2;unfold dk aS;rw[rc,List.find?_cons_of_pos (by simp)];rfl
   |succ i =>
    have hn':=md.mp (show(t.1::T.map (·.1)).Nodup from hn);have:=ih hn'.2 (sa:=sa) h1 h2;unfold dk aS at this ⊢;rw[rc,List.find?_cons_of_neg]
    ·exact this
    ·intro z;have z2:t.1=s.1:=xl (show(qr t.1:Key)=.inr s.1 from of_decide_eq_true z);have h1':T[i]?=some s:=h1;exact hn'.1 (by rw[z2];exact List.mem_map_of_mem (ι h1'))
theorem eE{kvs:List (Key×V)}{k:Key}(h:∀x∈kvs,x.1≠k):putK kvs k v=kvs++[(k,v)]:=by
 unfold putK
 first
 |rw[if_neg (by simp only[yj,not_exists];rintro x ⟨hx,z⟩;exact h x hx (of_decide_eq_true z))]
 | (split
    · rename_i z
      simp only[yj]at z;obtain⟨x,hx,z⟩:=z;exact absurd (by simpa using z) (h x hx)
    · rfl)
theorem aAl{α β γ : Type}(f : α->β->γ):∀{xs:List α}{ys:List β}{x : α}{y : β},xs.length=ys.length->il f (xs++[x]) (ys++[y])=il f xs ys++[f x y]
 |[],[],_,_,_=>rfl
 |a::xs,b::ys,x,y,h=>by
  rw[uu,uu,rc,rc,aAl f (lc h)];rfl
theorem aNi{T:List Shp}{sa:List Addr}{j:Nat}(h1:T[j]?=some s)(h2:sa[j]?=some a):dk (T.take (j+1)) (sa.take (j+1))=dk (T.take j) (sa.take j)++[(.inr s.1,.ref a)]:=by
 unfold dk;rw[iw,iw,h1,h2];refine aAl _ ?_;rw[Θ,Θ];have:=(ε.mp h1).1;have:=(ε.mp h2).1;omega
theorem aMd{T:List Shp}{sa:List Addr}: ∀x∈dk T sa,∃s∈T,x.1=.inr s.1:=by
 induction T generalizing sa with
 |nil=>intro x hx;cases sa <;> simp[dk]at hx
 |cons t T ih =>
  intro x hx;cases sa with
  |nil=>simp[dk]at hx
  |cons a sa =>
   unfold dk at hx;rw[rc]at hx;rcases π.mp hx with rfl|hx
   ·exact⟨t,ρ ..,rfl⟩
   ·obtain⟨s,hs,e⟩:=ih x hx;exact⟨s,ς _ hs,e⟩
theorem SW.init{K:Ξ}{sa:List Addr}{z:Addr}{T:List Shp}{s:Shp}(h:SW c K H (sa++[z]) (T++[s])):SW c K H sa T/\SO c K H sa z s:=by
 have hl:sa.length=T.length:=by have:=h.1;rw[θ,θ]at this;exact lc this
 refine⟨⟨hl,fun i a u h1 h2=>?_⟩,?_⟩
 ·have hi:i<sa.length:=(ε.mp h1).1;have:=h.2 i a u (tJ h1) (by rw[ir (by omega)];exact h2);rw[List.take_append_of_le_length (by omega)]at this;exact this
 ·have:=h.2 sa.length z s (by rw[ie (ν _),mi];rfl) (by rw[hl,ie (ν _),mi];rfl);rw[List.take_left' rfl]at this;exact this
theorem aLc(c:Nat):∀ps:List (List Nat),(jn c ps).length<=(ps.map (·.length)).sum+ps.length
 |[]=>ν _
 |[p]=>by show p.length<=(p.length+0)+1;omega
 |p::q::r=>by
  have ih:=aLc c (q::r);show(p++c::jn c (q::r)).length<=_;rw[θ,Ω,jx,uj,Ω];omega
theorem iJ{α : Type}{f : α->Nat}{m:Nat}: ∀{l:List α},(∀x∈l,f x<=m)->(l.map f).sum<=l.length*m
 |[],_=>io _
 |x::l,h=>by
  have h1:=h x (ρ ..);have h2:=iJ (f:=f) (l:=l) fun y hy=>h y (ς _ hy);rw[jx,uj,Ω,Nat.succ_mul];omega
theorem oE{c:Nat}{ws:List Str}{m:Nat}(h:∀w∈ws,w.length<=m):(jt ⟨#[c]⟩ ws).length<=ws.length*(m+1):=by
 have e:(jt ⟨#[c]⟩ ws).length=(jn c (ws.map fun w=>w.cps.toList)).length:=by
  rw[←mS];exact(mz).symm
 rw[e];refine ip (aLc _ _) ?_;rw[jp,δ,Nat.mul_add,Nat.mul_one];exact Nat.add_le_add_right (iJ fun w hw=>by show w.cps.toList.length<=m;rw[mz];exact h w hw) _
theorem pF{ns:List Nat}{i:Nat}(h:(ns.map fun n:Nat=>V.int n)[i]?=some x):∃c:Nat,ns[i]?=some c/\x=.int c:=by
 rw[ig]at h;cases e:ns[i]? with
 |none=>rw[e]at h;cases h
 |some c=>rw[e]at h;cases h;exact⟨c,rfl,rfl⟩
theorem aI{ss:List Addr}{i:Nat}(h:ss[i]?=some s):atI (ss.map V.ref) (i:Int)=some (.ref s):=qR (by rw[ig,h];rfl)
theorem oP{ss:List Str}{i:Nat}(h:ss[i]?=some s):atI (ss.map V.str) (i:Int)=some (.str s):=qR (by rw[ig,h];rfl)
theorem LX.at{K:Ξ}(h:LX K H sl S){i:Nat}(hi:i<S.length):∃(as:List Addr) (s l:Addr) (ps:List Addr),SqL K H sl (as.map V.ref)/\as[i]?=some s/\SqT K H s [.str (S[i]).1,.ref l]/\SqL K H l (ps.map V.ref)/\LF K H ps (S[i]).2:=by
 obtain⟨as,h1,h2⟩:=h;have hl:=h2.len;have ha:as[i]?=some (as[i]'(by omega)):=ζ _;obtain⟨s,hs,l,ps,q1,q2,q3⟩:=h2.get ha;rw[ζ hi]at hs;cases hs;exact⟨as,_,l,ps,h1,ha,q1,q2,q3⟩
theorem len3{os:St}(h:os.length=3):∃a b c,os=[a,b,c]:=by
 match os,h with
 |[a,b,c],_=>exact⟨a,b,c,rfl⟩
def offs (xs:List Addr) (H:Hp):Hp:=fun b=>if b∈xs then none else H b
theorem vC{xs:List Addr}{a:Addr}{H:Hp}(n:a∉xs)(h:H a=some o):offs xs H a=some o:=by unfold offs;rw[if_neg n];exact h
theorem kO : jJ (offs xs H) H:=fun b o q=>by
 unfold offs at q
 split at q
 ·cases q
 ·exact q
theorem xX{xs:List Addr}{H H':Hp}(h:∀b o,b∉xs->H b=some o->H' b=some o):jJ (offs xs H) (offs xs H'):=fun b o q=>by
 unfold offs at q ⊢
 split at q
 ·cases q
 ·rename_i n;rw[if_neg n];exact h b o n q
theorem qD(g:jJ H H'):jJ (offs xs H) (offs xs H'):=xX fun b o _ q=>g b o q
theorem oS{xs ys:List Addr}(h:∀b,b∈xs->b∈ys):jJ (offs ys H) (offs xs H):=fun b o q=>by
 unfold offs at q ⊢
 split at q
 ·cases q
 ·rename_i n;rw[if_neg fun z=>n (h b z)];exact q
def Al (xs:List Addr) (H:Hp):Prop:=∀b∈xs,∃o,H b=some o
theorem Al.same(h:Al xs H)(g:jJ H H'):Al xs H':=fun b hb=>by
 obtain⟨o,ho⟩:=h b hb;exact⟨o,g _ _ ho⟩
theorem Al.new{H:Hp}(h:Al xs H)(ht:H t=none):t∉xs:=fun z=>by
 obtain⟨o,ho⟩:=h t z;rw[ht]at ho;cases ho
end L2
namespace L2
open PySem PySem.Spec PyProof.Rows
theorem pB(h:(qN P w).is k u=true):RelV (kV k) u:=by
 rcases qV (show mZ k u=true from h) with⟨i,t,rfl,rfl⟩|⟨x,t,rfl,rfl⟩
 ·exact⟨t,rfl⟩
 ·exact⟨t,rfl⟩
def epOf (o:Obj):Nat:=match o.data with | .dict _ ep=>ep|_=>0
theorem Inv.frozen{H:Hp}(I:Inv X pins σ H s)(e:H a=some (.dK kvs)):∃o,s.heap.get? a=some o/\Inv X pins σ (upd H a (.frz o (.dK kvs))) s:=by
 obtain⟨z,hd,vs,rel,dd⟩:=oO I.hok e;obtain⟨o,es,ep,ho,r⟩:=id dd;exact⟨o,ho,I.write (x:=a) (e:=a) (h':=s.heap) (t':=s.toks) (by rw[e];exact jm) (.inl rfl) (fun _ _ _ q=>q) ⟨o,ho⟩ ⟨ho,aDe z hd rel dd⟩⟩
theorem iZ{H:Hp}(ok:HOk P w H h)(e:H a=some (.frz o (.dK kvs))):(a == ky)=false/\∃vs,KV kvs vs/\h.DictAt (qN P w) a vs (epOf o):=by
 obtain⟨h1,z,hd,vs,rel,q,es,ep,hq,h2,h3,r⟩:=(show qZ P w H h a (.frz o (.dK kvs)) from ok a _ e);rw[h1]at hq;cases hq;refine⟨hd,vs,rel,o,es,h1,h2,?_,r⟩;rw[h3];unfold epOf;rw[h3]
theorem KV.get:∀{kvs:List (Key×V)}{vs:List (Key×Value)},KV kvs vs->∀{i:Nat}{kv:Key×V},kvs[i]?=some kv->∃u,vs[i]?=some (kv.1,u)
 |_,_,.nil,_,_,e=>by simp at e
 |_,_,.cons (a:=p) (b:=q) r _,0,kv,e=>by
  simp at e;subst e;exact⟨q.2,by simp[r.1]⟩
 |_,_,.cons _ t,i+1,kv,e=>by
  obtain⟨u,h⟩:=KV.get t (i:=i) (kv:=kv) (by simpa using e);exact⟨u,by simpa using h⟩
def Itd (a:Addr) (o:Obj) (kvs:List (Key×V)):It :=
 ⟨fun i H=>H a=some (.frz o (.dK kvs))/\i<kvs.length,fun i H x H'=>H'=H/\∃kv,kvs[i]?=some kv/\x=kV kv.1,fun i H=>H a=some (.frz o (.dK kvs))/\kvs.length<=i⟩
theorem aGf{K:Ξ}(a it:Addr)(o:Obj)(kvs:List (Key×V)):Turn P w K tg (Itd a o kvs) [it] it (fun i h=>h.IsKeyIter it a i kvs.length (epOf o)) where
 mem:=by simp
 obj:=fun i h st b hb=>by
  have e:b=it:=by simpa using hb
  subst e;obtain⟨o,e,c,d⟩:=st;exact⟨o,e,fun v z=>by rw[d]at z;cases z⟩
 keep:=fun i h h' st k=>st.at fun o e=>k it (by simp) o e
 item:=by
  intro X hP hw hK hc i pins s σ H E I hf st hg;subst hP hw hK;obtain⟨hq,hi⟩:=hg;obtain⟨_,vs,rel,dd⟩:=iZ I.hok hq;obtain⟨u,hu⟩:=KV.get rel (i:=i) (kv:=kvs[i]) (by simp[hi]);obtain⟨f0,f1,f2,f3,f4,f5⟩:=hf it (by simp);have hl:kvs.length=vs.length:=qb rel;rw[hl]at st;refine wpAny_pyNext_dict_item st dd hu fun key h' hk st' sb=>?_;have I1:Inv X pins σ H { s with heap:=h' }:=I.turned (t':=s.toks) (fun b o hb e=>(sb.2 b hb).trans e) f0 f1 f3 f4 f5;exact⟨key,rfl,letGo_keyiter st' ⟨kV kvs[i].1,H,I1,pB hk,⟨rfl,kvs[i],by simp[hi],rfl⟩,by rw[hl];exact st',fun b hb=>(hf b hb).1⟩⟩
 done:=by
  intro X hP hw hK hc i pins s σ H E I hf st hg;subst hP hw hK;obtain⟨hq,hi⟩:=hg;obtain⟨_,vs,rel,dd⟩:=iZ I.hok hq;obtain⟨f0,f1,f2,f3,f4,f5⟩:=hf it (by simp);have hl:kvs.length=vs.length:=qb rel;rw[hl]at st hi;exact wpAny_pyNext_dict_end (I.ok.hd hc) st dd (by simp;omega) fun h' eb=>⟨rfl,I.turned (t':=s.toks) (fun b o hb e=>eb b o hb e) f0 f1 f3 f4 f5⟩
 self:=fun _ _ _ _ _ st h=>wpAny_pyIter_keyiter st h
def iDict (tl:TE):TI:=fun σ H R=>tl σ H fun x H1=>∃a kvs,x=.ref a/\H1 a=some (.dK kvs)/\∀o,R (Itd a o kvs) (upd H1 a (.frz o (.dK kvs)))
theorem aMa(hl:PE X l tl):PI X tg l (iDict tl):=by
 intro pins s σ H R I h;refine thn (hl pins s σ H _ I h) fun v s1 zq=>?_;obtain⟨x,H1,I1,r1,q1⟩:=zq;obtain⟨a,kvs,e,hq,q⟩:=q1;subst e;cases r1;obtain⟨o,ho,I2⟩:=I1.frozen hq;obtain⟨hd,vs,rel,dd⟩:=iZ I2.hok (jP);have hl:kvs.length=vs.length:=qb rel;refine wpAny_pyIter_dict hd dd ?_;refine⟨s1.heap.objs.size,[s1.heap.objs.size],_,_,_,rfl,I2.kept (t':=s1.toks) fun b o e=>τ _ e,aGf a _ o kvs,⟨_,ij _ rfl,rfl,?_⟩,fun b hb=>?_,q o⟩
 ·rw[hl];rfl
 have e:b=s1.heap.objs.size:=by simpa using hb
 subst e;exact I2.fpOk (ν _) (I2.hok.fresh (ν _))
end L2
namespace L2.TX
open PySem PySem.Spec PyProof.Rows
section
variable {prog:mf}{w:oo}{A:mn}{R:Result->ω->Prop}{I:Addr}{fp wr:List Addr}{G:Array GenState->Array GenState->Prop}{n:Nat}{P:Nat->Value->Prop}{St:Nat->ω->Prop}
end
end L2.TX
namespace L2
open PySem PySem.Spec PyProof.Rows
structure InsC (K:Ξ) (C:Addr):Prop where
 cl:Cls K C
 ha:ud K (.ref C) "__class__" = some (some (.builtin "object.__class__"))
 hn:PySem.W.specialIn K (.builtin "object.__class__") "__get__" = some (some (.builtin "getset_descriptor.__get__"))
 htk:PySem.W.takesIn K (.builtin "object.__class__")=some true
 hm:ww K C (.type "object")=some true
theorem InsC.ty{K:Ξ}(c:InsC K C){H:Hp}(e:H a=some (.ins C dx fs)):gI K H (.ref a) (.ref C):=.ins e c.cl c.ha c.hn c.htk c.hm
theorem xP{X:Cx}{K:Ξ}(hK:X.K=K):vK X (.builtin "isinstance") (fun xs H Q=>∃(x:V) (D:Addr) (t:Value) (b:Bool),xs=[x,.ref D]/\gI K H x t/\ki K t (.ref D)=some b/\Q (.bl b) H):=by
 intro pins s σ H xs us Q I r h;obtain⟨x,D,t,b,rfl,ht,hk,q⟩:=h;subst hK;obtain⟨u,w',rfl,rx,rD⟩:=vals2 r;cases rD;exact aGw I rx ht hk fun tk=>⟨.bl b,H,I.tok tk,rfl,q⟩
section
variable {P:mf}{w:oo}{A:mn}{E:Value->ω->Prop}{s:ω}
structure ZpM (b c2:Bool) (h:mv) (z ti to j1 j2 a1 a2:Addr) (n:Nat):Prop where
 z:IsZip h z ti to .none
 ti:IsPair h ti (.ref j1) (.ref j2)
 to:∃p q,IsPair h to p q
 i1:aF b h j1 a1 n
 i2:aF c2 h j2 a2 n
theorem aLl{Q:Option Value->ω->Prop}(D:ZipApart z ti to j1 j2 a1 a2)(hz:ZpM b c2 s.heap z ti to j1 j2 a1 a2 n)
  (g1:zB b s.heap a1 us)(g2:zB c2 s.heap a2 vs)(hu:us[n]?=some u)(hv:vs[n]?=some v)
  (k:∀g,IsZip g z ti to (rawInt s.heap.objs.size)->IsPair g to u v->aF b g j1 a1 (n+1)->aF c2 g j2 a2 (n+1)->IsPair g s.heap.objs.size u v →
   (∀c o,c∉[z,to,j1,j2]->s.heap.get? c=some o->g.get? c=some o)->Q (some (.ref s.heap.objs.size)) { s with heap:=g }):iz (jh P w) A (pyNext (.ref z)) Q E s:=by
 obtain⟨hz,hi,⟨p,q,ho⟩,h1,h2⟩:=hz;have ty:s.TypeIs (.ref z) "zip":=⟨_,hz,rfl⟩;unfold pyNext;refine ξ (wpAny_attempt (wpAny_callSpecial?_slot (name:=η "__next__") ty F.slot_zip_next (sd F.slot_zip_next ty F.entry_zip_next ?_ (F.args_zip_next_1 _))));show iz _ _ (field (.ref z) 2 >>= fun _=>_) _ _ _;refine ξ (qq hz rfl (x:=.bool false) rfl ?_);show iz _ _ (field (.ref z) 3 >>= fun _=>_) _ _ _;refine ξ (qq hz rfl (x:=.ref ti) rfl ?_);refine ξ (qp hi rfl ?_);show iz _ _ (oz (.ref z) >>= fun _=>_) _ _ _;refine ξ ?_;unfold oz;refine ξ (qq hz rfl (x:=sg) rfl (iy ?_));simp only[if_true];refine ξ (wpAny_rule ?_);refine ξ (qq hz rfl (x:=.ref to) rfl ?_);refine ξ (tx hz (by simp) fun e1 z1 s1=>?_);replace z1:IsZip e1 z ti to .ellipsis:=z1;refine ξ ?_;simp only[List.zipIdx_cons,List.zipIdx_nil,List.forIn_cons,List.forIn_nil];have x1:=s1.extBut;refine ξ (ξ (wpAny_onRaise ?_));show iz _ _ (kh (.ref j1) >>= fun _=>_) _ _ _;refine ξ (aBw (h1.keep fun o e=>x1 _ o D.i1z e) (g1.keep fun o e=>x1 _ o D.l1z e) hu fun e2 m2 s2=>iy ?_);have x2:=s2.extBut;have o2:IsPair e2 to p q:=x2 _ _ D.TOi1 (x1 _ _ D.TOz ho);refine ξ (qp o2 rfl ?_);refine ξ (yt o2 fun e3 o3 s3=>?_);replace o3:IsPair e3 to u q:=o3;have x3:=s3.extBut;refine ξ (wpAny_letGo (iy ?_));refine ξ (ξ (wpAny_onRaise ?_));show iz _ _ (kh (.ref j2) >>= fun _=>_) _ _ _;refine ξ (aBw (h2.keep fun o e=>x3 _ o D.TOi2.symm (x2 _ o D.i12.symm (x1 _ o D.i2z e))) (g2.keep fun o e=>x3 _ o D.l2TO (x2 _ o D.l2i1 (x1 _ o D.l2z e))) hv fun e4 m4 s4=>iy ?_);have x4:=s4.extBut;have o4:IsPair e4 to u q:=x4 _ _ D.TOi2 o3;refine ξ (qp o4 rfl ?_);refine ξ (yt o4 fun e5 o5 s5=>?_);replace o5:IsPair e5 to u v:=o5;have x5:=s5.extBut;refine ξ (wpAny_letGo (iy (iy ?_)));refine ξ (qp o5 rfl ?_);refine ξ (wpAny_newTuple ?_);have sz:e5.objs.size=s.heap.objs.size:=by rw[s5.1,s4.1,s3.1,s2.1,s1.1]
 have z5:IsZip e5 z ti to .ellipsis:=x5 _ _ D.TOz.symm (x4 _ _ D.i2z.symm (x3 _ _ D.TOz.symm (x2 _ _ D.i1z.symm z1)));have k5:∀c o,c∉[z,to,j1,j2]->s.heap.get? c=some o->e5.get? c=some o:=fun c o hc e=>by
  simp only[π,jv,or_false,not_or]at hc;exact x5 _ _ hc.2.1 (x4 _ _ hc.2.2.2 (x3 _ _ hc.2.1 (x2 _ _ hc.2.2.1 (x1 _ _ hc.1 e))))
 have m25:aF b e5 j1 a1 (n+1):=m2.keep fun o e=>x5 _ o D.TOi1.symm (x4 _ o D.i12 (x3 _ o D.TOi1.symm e));have m45:aF c2 e5 j2 a2 (n+1):=m4.keep fun o e=>x5 _ o D.TOi2.symm e;have lz:z<e5.objs.size:=ik z5;show iz _ _ (wn (.ref z) (.ref e5.objs.size) >>= fun _=>_) _ _ _;refine ξ ?_;unfold wn;have z6:IsZip (e5.push { cls:=.type "tuple",data:=.seq #[u,v] }) z ti to .ellipsis:=τ _ z5;refine ξ (tx z6 (by simp) fun e7 z7 s7=>?_);replace z7:IsZip e7 z ti to (rawInt e5.objs.size):=z7;refine tx z7 (by simp) fun e8 z8 s8=>?_;replace z8:IsZip e8 z ti to (rawInt e5.objs.size):=z8;have up:∀c o,c≠z->e5.get? c=some o->e8.get? c=some o:=fun c o c1 e=>s8.extBut _ _ c1 (s7.extBut _ _ c1 (τ _ e));have t8:IsPair e8 e5.objs.size u v:=s8.extBut _ _ (we lz) (s7.extBut _ _ (we lz) (ij _ rfl));rw[sz]at z8 t8;refine iy ⟨_,rfl,iy ?_⟩;rw[sz];exact k e8 z8 (up _ _ D.TOz o5) (m25.keep fun o e=>up _ o D.i1z e) (m45.keep fun o e=>up _ o D.i2z e) t8 fun c o hc e=>up c o (fun x=>hc (by simp[x])) (k5 c o hc e)
theorem aRe{Q:Option Value->ω->Prop}(hh:A.handled=none)(D:ZipApart z ti to j1 j2 a1 a2)(hz:ZpM b c2 s.heap z ti to j1 j2 a1 a2 n)
  (g1:zB b s.heap a1 us)(g2:zB c2 s.heap a2 vs)(hend:us[n]?=none\/vs[n]?=none)
  (k:∀g,(∀c o,c∉[z,to,j1,j2]->s.heap.get? c=some o->g.get? c=some o)->Q none { s with heap:=g }):iz (jh P w) A (pyNext (.ref z)) Q E s:=by
 obtain⟨hz,hi,⟨p,q,ho⟩,h1,h2⟩:=hz;have ty:s.TypeIs (.ref z) "zip":=⟨_,hz,rfl⟩;have nx:∀c,c∉[z,to,j1,j2]->c≠z/\c≠to/\c≠j1/\c≠j2:=fun c hc=>by simpa only[π,jv,or_false,not_or] using hc
 unfold pyNext;refine ξ (wpAny_attempt (wpAny_callSpecial?_slot (name:=η "__next__") ty F.slot_zip_next (sd F.slot_zip_next ty F.entry_zip_next ?_ (F.args_zip_next_1 _))));show iz _ _ (field (.ref z) 2 >>= fun _=>_) _ _ _;refine ξ (qq hz rfl (x:=.bool false) rfl ?_);show iz _ _ (field (.ref z) 3 >>= fun _=>_) _ _ _;refine ξ (qq hz rfl (x:=.ref ti) rfl ?_);refine ξ (qp hi rfl ?_);show iz _ _ (oz (.ref z) >>= fun _=>_) _ _ _;refine ξ ?_;unfold oz;refine ξ (qq hz rfl (x:=sg) rfl (iy ?_));simp only[if_true];refine ξ (wpAny_rule ?_);refine ξ (qq hz rfl (x:=.ref to) rfl ?_);refine ξ (tx hz (by simp) fun e1 z1 s1=>?_);replace z1:IsZip e1 z ti to .ellipsis:=z1;refine ξ ?_;simp only[List.zipIdx_cons,List.zipIdx_nil,List.forIn_cons,List.forIn_nil];have x1:=s1.extBut;refine ξ (ξ (wpAny_onRaise ?_));show iz _ _ (kh (.ref j1) >>= fun _=>_) _ _ _;cases hu:us[n]? with
 |none =>
  refine ξ (aOp hh (h1.keep fun o e=>x1 _ o D.i1z e) (g1.keep fun o e=>x1 _ o D.l1z e) hu fun e2 x s2 hx=>?_);obtain⟨ox,ex,cx⟩:=hx;have z2:IsZip e2 z ti to .ellipsis:=s2 _ _ D.i1z.symm z1;have nz:x≠z:=fun y=>by subst y;rw[z2]at ex;cases ex;simp at cx
  refine tx z2 (by simp) fun e3 _ s3=>?_;refine ξ (yk (T:="StopIteration") (b:=true) ⟨ox,s3.extBut _ _ nz ex,cx⟩ isSubtype_stop ?_);refine iy (k _ fun c o hc e=>?_);exact s3.extBut _ _ (nx c hc).1 (s2 _ _ (nx c hc).2.2.1 (x1 _ _ (nx c hc).1 e))
 |some u =>
  have hv:vs[n]?=none:=by
   rcases hend with y|y
   ·rw[hu]at y;cases y
   ·exact y
  refine ξ (aBw (h1.keep fun o e=>x1 _ o D.i1z e) (g1.keep fun o e=>x1 _ o D.l1z e) hu fun e2 m2 s2=>iy ?_);have x2:=s2.extBut;have o2:IsPair e2 to p q:=x2 _ _ D.TOi1 (x1 _ _ D.TOz ho);refine ξ (qp o2 rfl ?_);refine ξ (yt o2 fun e3 o3 s3=>?_);have x3:=s3.extBut;refine ξ (wpAny_letGo (iy ?_));refine ξ (ξ (wpAny_onRaise ?_));show iz _ _ (kh (.ref j2) >>= fun _=>_) _ _ _;refine ξ (aOp hh (h2.keep fun o e=>x3 _ o D.TOi2.symm (x2 _ o D.i12.symm (x1 _ o D.i2z e))) (g2.keep fun o e=>x3 _ o D.l2TO (x2 _ o D.l2i1 (x1 _ o D.l2z e))) hv fun e4 x s4 hx=>?_);obtain⟨ox,ex,cx⟩:=hx;have z4:IsZip e4 z ti to .ellipsis:=s4 _ _ D.i2z.symm (x3 _ _ D.TOz.symm (x2 _ _ D.i1z.symm z1));have nz:x≠z:=fun y=>by subst y;rw[z4]at ex;cases ex;simp at cx
  refine tx z4 (by simp) fun e5 _ s5=>?_;refine ξ (yk (T:="StopIteration") (b:=true) ⟨ox,s5.extBut _ _ nz ex,cx⟩ isSubtype_stop ?_);refine iy (k _ fun c o hc e=>?_);exact s5.extBut _ _ (nx c hc).1 (s4 _ _ (nx c hc).2.2.2 (x3 _ _ (nx c hc).2.1 (x2 _ _ (nx c hc).2.2.1 (x1 _ _ (nx c hc).1 e))))
end
abbrev zp3M (b c2:Bool) (h:mv) (a1 a2:Addr):mv:=(zp1 c2 (zp1 b h a1) a2).push { cls:=.type "tuple",data:=.seq #[.ref h.objs.size,.ref (zp1 b h a1).objs.size] }
abbrev zp4M (b c2:Bool) (h:mv) (a1 a2:Addr):mv:=(zp3M b c2 h a1 a2).push { cls:=.type "tuple",data:=.seq #[.none,.none] }
abbrev aHi (b c2:Bool) (h:mv) (a1 a2:Addr):mv:=(zp4M b c2 h a1 a2).push { cls:=.type "zip",data:=.fields #[.none,.bool false,.bool false,.ref (zp1 c2 (zp1 b h a1) a2).objs.size,.ref (zp3M b c2 h a1 a2).objs.size] }
theorem aKj(b c2:Bool)(a1 a2:Addr)(us vs:Array Value):Meets (ub.«zip.__new__» ⟨[.type "zip",.ref a1,.ref a2],[]⟩) (fun _ R s=>zB b s.heap a1 us/\zB c2 s.heap a2 vs/\R (.ok (.ret (.ref (zp4M b c2 s.heap a1 a2).objs.size))) { s with heap:=aHi b c2 s.heap a1 a2 }) :=
 .of_wp fun prog w A R s h=>by
  obtain⟨hp,g,d,tk,os⟩:=s;obtain⟨k1,k2,h⟩:=h;have hsub:=sub_zip;cases b <;> cases c2
  ·have y1:mv.IsList (wc ⟨hp,g,d,tk,os⟩) a1 us:=k1;have y2:mv.IsList (wc ⟨hp.push { cls:=.type "list_iterator",data:=.fields #[.ref a1,.int 0 0] },g,d,tk,os⟩) a2 vs:=mv.IsList.push k2 _
   wp_walk using qt y1,qt y2
   exact⟨_,rfl,h⟩
  ·have y1:mv.IsList (wc ⟨hp,g,d,tk,os⟩) a1 us:=k1;have y2:xx (wc ⟨hp.push { cls:=.type "list_iterator",data:=.fields #[.ref a1,.int 0 0] },g,d,tk,os⟩) a2 vs:=xx.push k2 _
   wp_walk using qt y1,sx y2
   exact⟨_,rfl,h⟩
  ·have y1:xx (wc ⟨hp,g,d,tk,os⟩) a1 us:=k1;have y2:mv.IsList (wc ⟨hp.push { cls:=.type "tuple_iterator",data:=.fields #[.ref a1,.int 0 0] },g,d,tk,os⟩) a2 vs:=mv.IsList.push k2 _
   wp_walk using sx y1,qt y2
   exact⟨_,rfl,h⟩
  ·have y1:xx (wc ⟨hp,g,d,tk,os⟩) a1 us:=k1;have y2:xx (wc ⟨hp.push { cls:=.type "tuple_iterator",data:=.fields #[.ref a1,.int 0 0] },g,d,tk,os⟩) a2 vs:=xx.push k2 _
   wp_walk using sx y1,sx y2
   exact⟨_,rfl,h⟩
section
variable {P:mf}{w:oo}{A:mn}{E:Value->ω->Prop}{s:ω}
theorem aMl{Q:Value->ω->Prop}(k1:zB b s.heap a1 us)(k2:zB c2 s.heap a2 vs)
  (h:∀g,ZpM b c2 g (s.heap.objs.size+4) (s.heap.objs.size+2) (s.heap.objs.size+3) s.heap.objs.size (s.heap.objs.size+1) a1 a2 0->(∀c o,s.heap.get? c=some o->g.get? c=some o)->Q (.ref (s.heap.objs.size+4)) { s with heap:=g }):
  iz (jh P w) A (call (.type "zip") [.ref a1,.ref a2]) Q E s:=by
 refine callType_new F.called_zip (by decide) (F.typeCall_zip_2 _ _) (F.newCall_zip_2 _ _) (fun obj=>F.args_object_init_3 obj _ _) F.entry_zip_new (aKj b c2 a1 a2 us vs) ⟨k1,k2,?_⟩;have z1:(zp1 b s.heap a1).objs.size=s.heap.objs.size+1:=sy ..;have z2:(zp1 c2 (zp1 b s.heap a1) a2).objs.size=s.heap.objs.size+2:=by rw[sy,z1]
 have z3:(zp3M b c2 s.heap a1 a2).objs.size=s.heap.objs.size+3:=by rw[sy,z2]
 have z4:(zp4M b c2 s.heap a1 a2).objs.size=s.heap.objs.size+4:=by rw[sy,z3]
 have up:=fun {h:mv}{c:Addr}{x:Obj}(o:Obj) (e:h.get? c=some x)=>τ o e;have g5:(aHi b c2 s.heap a1 a2).get? (zp4M b c2 s.heap a1 a2).objs.size=some _:=ij _ rfl;have g4:(aHi b c2 s.heap a1 a2).get? (zp3M b c2 s.heap a1 a2).objs.size=some _:=up _ (ij _ rfl);have g3:(aHi b c2 s.heap a1 a2).get? (zp1 c2 (zp1 b s.heap a1) a2).objs.size=some _:=up _ (up _ (ij _ rfl));have g2:(aHi b c2 s.heap a1 a2).get? (zp1 b s.heap a1).objs.size=some _:=up _ (up _ (up _ (ij _ rfl)));have g1:(aHi b c2 s.heap a1 a2).get? s.heap.objs.size=some _:=up _ (up _ (up _ (up _ (ij _ rfl))));show _/\_;rw[z2,z3,z4]at g5;rw[z1,z2]at g3;rw[z3]at g4;rw[z1]at g2;rw[z4];refine⟨⟨_,g5,rfl⟩,h _ ⟨g5,g3,⟨_,_,g4⟩,?_,?_⟩ fun c o x=>up _ (up _ (up _ (up _ (up _ x))))⟩
 ·cases b <;> exact⟨_,g1,rfl,rfl⟩
 ·cases c2 <;> exact⟨_,g2,rfl,rfl⟩
end
def ItzM (K:Ξ) (b c2:Bool) (a1 a2:Addr):It :=
 ⟨fun i H=>∃xs ys x y,Sq2 K b H a1 xs/\Sq2 K c2 H a2 ys/\xs[i]?=some x/\ys[i]?=some y,
   fun i H v H'=>∃x y p,v=.ref p/\H p=none/\H'=upd H p (.tup [x,y])/\(∀xs,Sq2 K b H a1 xs->xs[i]?=some x)/\∀ys,Sq2 K c2 H a2 ys->ys[i]?=some y,
   fun i H=>∃xs ys,Sq2 K b H a1 xs/\Sq2 K c2 H a2 ys/\(xs.length<=i\/ys.length<=i)⟩
theorem aGn{K:Ξ}(D:ZipApart z ti to j1 j2 a1 a2):
  Turn P w K (.Tuple elts x1 pos) (ItzM K b c2 a1 a2) [z,ti,to,j1,j2] z (fun i h=>ZpM b c2 h z ti to j1 j2 a1 a2 i) where
 mem:=by simp
 obj:=fun i h st c hc=>by
  obtain⟨hz,hi,⟨p,q,ho⟩,h1,h2⟩:=st;have:c=z\/c=ti\/c=to\/c=j1\/c=j2:=by simpa using hc
  rcases this with rfl|rfl|rfl|rfl|rfl
  ·exact⟨_,hz,fun v z=>by cases z⟩
  ·exact⟨_,hi,fun v z=>by cases z⟩
  ·exact⟨_,ho,fun v z=>by cases z⟩
  ·exact h1.obj
  ·exact h2.obj
 keep:=fun i h h' st k=>by
  obtain⟨hz,hi,⟨p,q,ho⟩,h1,h2⟩:=st;exact⟨k z (by simp) _ hz,k ti (by simp) _ hi,⟨p,q,k to (by simp) _ ho⟩,h1.keep fun o e=>k j1 (by simp) o e,h2.keep fun o e=>k j2 (by simp) o e⟩
 item:=by
  intro X hP hw hK hc i pins s σ H E I hf st hg;subst hP hw hK;obtain⟨xs,ys,x,y,hq1,hq2,hx,hy⟩:=hg;obtain⟨is1,r1,p1⟩:=I.seq2 hq1;obtain⟨is2,r2,p2⟩:=I.seq2 hq2;obtain⟨u,hu,ru⟩:=r1.get hx;obtain⟨v,hv,rv⟩:=r2.get hy;refine aLl D st p1 p2 (u:=u) (v:=v) (by simpa using hu) (by simpa using hv) fun g gz go g1 g2 gn gk=>⟨_,rfl,?_⟩;refine wpAny_letOwnedTupleGo_zip gz fun h2 z2 s2=>?_;replace s2:pq z g h2:=s2;have nz:s.heap.objs.size≠z:=we (ik st.z);have t2:IsPair h2 s.heap.objs.size u v:=(s2.2 _ nz).trans gn;have k2:∀c o,c∉[z,to,j1,j2]->s.heap.get? c=some o->h2.get? c=some o:=fun c o hc e=>(s2.2 c (fun q=>hc (by simp[q]))).trans (gk c o hc e);have mem:∀c∈[z,to,j1,j2],c∈[z,ti,to,j1,j2]:=fun c hc=>by
   simp only[π,jv,or_false]at hc ⊢;rcases hc with q|q|q|q <;> simp[q]
  refine⟨.ref s.heap.objs.size,upd H s.heap.objs.size (.tup [x,y]),I.turnedL (t':=s.toks) k2 (fun c hc=>hf c (mem c hc)) (ν _) ⟨(by show 2<=ψ;decide),[u,v],.cons ru (.cons rv .nil),_,t2,rfl,_,rfl⟩,rfl,
   ⟨x,y,_,rfl,I.hok.fresh (ν _),rfl,fun zs hz=>by rw[I.seq2_inj hz hq1];exact hx,fun zs hz=>by rw[I.seq2_inj hz hq2];exact hy⟩,
   ⟨z2,k2 ti _ (by simp[D.TIz,D.TITO,D.TIi1,D.TIi2]) st.ti,⟨_,_,(s2.2 to D.TOz).trans go⟩,g1.keep fun o e=>(s2.2 j1 D.i1z).trans e,g2.keep fun o e=>(s2.2 j2 D.i2z).trans e⟩,fun c hc=>?_⟩
  obtain⟨oc,ec,_⟩ : ∃o,s.heap.get? c=some o/\∀v,o.data≠.cell v:=by
   obtain⟨hz,hi,⟨p,q,ho⟩,h1,h2⟩:=st;have:c=z\/c=ti\/c=to\/c=j1\/c=j2:=by simpa using hc
   rcases this with rfl|rfl|rfl|rfl|rfl
   ·exact⟨_,hz,fun v z=>by cases z⟩
   ·exact⟨_,hi,fun v z=>by cases z⟩
   ·exact⟨_,ho,fun v z=>by cases z⟩
   ·exact h1.obj
   ·exact h2.obj
  rw[jT (ja (ik ec))];exact(hf c hc).1
 done:=by
  intro X hP hw hK hc i pins s σ H E I hf st hg;subst hP hw hK;obtain⟨xs,ys,hq1,hq2,hl⟩:=hg;obtain⟨is1,r1,p1⟩:=I.seq2 hq1;obtain⟨is2,r2,p2⟩:=I.seq2 hq2;have e1:=r1.length;have e2:=r2.length;have mem:∀c∈[z,to,j1,j2],c∈[z,ti,to,j1,j2]:=fun c hc=>by
   simp only[π,jv,or_false]at hc ⊢;rcases hc with q|q|q|q <;> simp[q]
  refine aRe (I.ok.hd hc) D st p1 p2 ?_ fun g gk=>⟨rfl,I.turnedL0 (t':=s.toks) gk fun c hc=>hf c (mem c hc)⟩;rcases hl with q|q
  ·exact .inl (by simp;omega)
  ·exact .inr (by simp;omega)
 self:=fun _ _ _ _ _ st h=>wpAny_pyIter_zip st.z h
def iZipM (K:Ξ) (b c2:Bool) (ta:TA):TI:=fun σ H R=>ta σ H fun vs H1=>∃a1 a2 xs ys,vs=[.ref a1,.ref a2]/\Sq2 K b H1 a1 xs/\Sq2 K c2 H1 a2 ys/\R (ItzM K b c2 a1 a2) H1
def aRm (K:Ξ) (ta:TA):TI:=fun σ H R=>∃b c2,iZipM K b c2 ta σ H R
theorem aNd{a c:Expr}(hg:Gl X "zip")(hm:X.mg "zip" = none)(ha:PA X [a,c] ta)(hs:jl [a,c] X.env=(false,eval a X.env)::jl [c] X.env:=by rfl)(hs2:jl [c] X.env=[(false,eval c X.env)]:=by rfl):
  PI X (.Tuple elts x1 tpos) (.Call (.Name "zip" p) [a,c] [] pos) (aRm X.K ta):=by
 intro pins s σ H R I h;obtain⟨b,c2,h⟩:=h;refine Call_ (lA I hg hm (show my "zip" = some (.type "zip") from by ac_rfl) (qy (thn (ha pos pins s σ H _ I h) fun us s1 zq=>?_) (by rw[hs,hs2]) (by rw[hs2];rfl)));obtain⟨vs,H1,I1,r1,q1⟩:=zq;obtain⟨a1,a2,xs,ys,e,h1,h2,q⟩:=q1;subst e;obtain⟨u,v,rfl,rx,ry⟩:=vals2 r1;cases rx;cases ry;obtain⟨is1,v1,p1⟩:=I1.seq2 h1;obtain⟨is2,v2,p2⟩:=I1.seq2 h2;have l1:=p1.lt;have l2:=p2.lt;refine aMl p1 p2 fun g gz gk=>wpAny_pyIter_zip gz.z ?_;have D:ZipApart (s1.heap.objs.size+4) (s1.heap.objs.size+2) (s1.heap.objs.size+3) s1.heap.objs.size (s1.heap.objs.size+1) a1 a2:=by
  have A1:(s1.heap.objs.size:Nat)+4=s1.heap.objs.size+4:=rfl;constructor <;> simp <;> first|exact ja (Δ l1 (Nat.le_add_right _ _))|exact ja (Δ l2 (Nat.le_add_right _ _))|exact ja l1|exact ja l2|decide
 refine⟨_,_,_,_,H1,rfl,I1.kept (t':=s1.toks) gk,aGn D,gz,fun c hc=>?_,q⟩;have:c=s1.heap.objs.size+4\/c=s1.heap.objs.size+2\/c=s1.heap.objs.size+3\/c=s1.heap.objs.size\/c=s1.heap.objs.size+1:=by simpa using hc
 have ge:s1.heap.objs.size<=c:=by
  rcases this with rfl|rfl|rfl|rfl|rfl <;> first|exact Nat.le_add_right _ _|exact ν _
 exact I1.fpOk ge (I1.hok.fresh ge)
end L2
namespace L2
open PySem
def dB:Str:=η "tag"
def eJ (fs:List (Str×Kd)) (ds:List PyData):List (PyData×PyData):=il (fun (f:Str×Kd) (d:PyData)=>(jr f.1,d)) fs ds
def zC:Kd->List (Str×Kd)->List PyData->PyData
 |.many _ _,_,ds=>.list ds
 |_,fs,ds=>.dict (eJ fs ds)
def rX:PyData->List PyData
 |.list ds=>ds
 |.dict kvs=>kvs.map (·.2)
 |_=>[]
def zF (c:Kd->PyData->Prop):List (Str×Kd)->List PyData->Prop
 |[],[]=>True
 |f::fs,d::ds=>c f.2 d/\zF c fs ds
 |_,_=>False
def Can (S:List Shp):Nat->Kd->PyData->Prop
 |_,.num w,d=>∃v:Nat,d=.int v/\v<256 ^ w
 |0,_,_=>False
 |n+1,.pick is,d=>∃(j i:Nat) (e:PyData),is[j]?=some i/\d=.tuple [.int j,e]/\Can S n (.nest i) e
 |n+1,.nest i,d=>∃ds,d=zC (.nest i) ((Kd.nest i).parts S) ds/\zF (Can S n) ((Kd.nest i).parts S) ds
 |n+1,.many m k,d=>∃ds,d=zC (.many m k) ((Kd.many m k).parts S) ds/\zF (Can S n) ((Kd.many m k).parts S) ds
def Kd.Pd (k:Kd):Prop:=(∃i,k=.nest i)\/∃n q,k=.many n q
theorem iS{n:Nat}{k:Kd}(hk:k.Pd):Can S (n+1) k d ↔ ∃ds,d=zC k (k.parts S) ds/\zF (Can S n) (k.parts S) ds:=by
 rcases hk with⟨i,rfl⟩|⟨m,q,rfl⟩ <;> exact Iff.rfl
theorem zF.len : ∀{fs:List (Str×Kd)}{ds:List PyData},zF c fs ds->fs.length=ds.length
 |[],[],_=>rfl
 |_::_,_::_,h=>congrArg (·+1) (zF.len h.2)
theorem zF.get{c:Kd->PyData->Prop}: ∀{fs:List (Str×Kd)}{ds:List PyData}{i:Nat}{f:Str×Kd},zF c fs ds->fs[i]?=some f->∃d,ds[i]?=some d/\c f.2 d
 |_::_,d::_,0,_,h,e=>by cases e;exact⟨d,rfl,h.1⟩
 |_::_,_::_,i+1,f,h,e=>zF.get (i:=i) (f:=f) h.2 e
theorem zF.app : ∀{fs gs:List (Str×Kd)}{ds es:List PyData},zF c fs ds->zF c gs es->zF c (fs++gs) (ds++es)
 |[],_,[],_,_,h=>h
 |_::_,_,_::_,_,h,g=>⟨h.1,zF.app h.2 g⟩
theorem iO{k:Kd}(hk:k.Pd){ds:List PyData}(h:(k.parts S).length=ds.length):rX (zC k (k.parts S) ds)=ds:=by
 have z:∀(fs:List (Str×Kd)) (ds:List PyData),fs.length=ds.length->(eJ fs ds).map (·.2)=ds:=by
  intro fs
  induction fs with
  |nil=>intro ds e;cases ds with|nil=>rfl|cons _ _=>cases e
  |cons f fs ih=>intro ds e;cases ds with
   |nil=>cases e
   |cons d ds=>show d::_=_;exact congrArg (d :: ·) (ih ds (lc e))
 rcases hk with⟨i,rfl⟩|⟨m,q,rfl⟩
 ·exact z _ _ h
 ·rfl
def flL (f:Kd->Str->PyData->List (Str×Int)):List (Str×Kd)->Str->List PyData->List (Str×Int)
 |q::fs,p,d::ds=>f q.2 (pj p q.1) d++flL f fs p ds
 |_,_,_=>[]
def flv (S:List Shp):Nat->Kd->Str->PyData->List (Str×Int)
 |_,.num _,p,.int v=>[(p,v)]
 |0,_,_,_=>[]
 |n+1,.pick is,p,.tuple [.int j,e]=>(pj p dB,j)::flv S n (.nest (is.getD j.toNat 0)) (pj p (kN S (is.getD j.toNat 0))) e
 |n+1,k,p,d=>flL (flv S n) (k.parts S) p (rX d)
theorem aDh{n:Nat}{k:Kd}(hk:k.Pd)(p:Str){ds:List PyData}(h:(k.parts S).length=ds.length):flv S (n+1) k p (zC k (k.parts S) ds)=flL (flv S n) (k.parts S) p ds:=by
 have e:flv S (n+1) k p (zC k (k.parts S) ds)=flL (flv S n) (k.parts S) p (rX (zC k (k.parts S) ds)):=by
  rcases hk with⟨i,rfl⟩|⟨m,q,rfl⟩ <;> rfl
 rw[e,iO hk h]
theorem uA(p:Str):∀{fs gs:List (Str×Kd)}{ds es:List PyData},fs.length=ds.length->flL f (fs++gs) p (ds++es)=flL f fs p ds++flL f gs p es
 |[],_,[],_,_=>rfl
 |q::fs,gs,d::ds,es,h=>by
  show f q.2 (pj p q.1) d++flL f (fs++gs) p (ds++es)=(f q.2 (pj p q.1) d++flL f fs p ds)++flL f gs p es;rw[uA p (lc h),jg]
def yC (q:Str×Int):PyData:=.tuple [.str q.1,.int q.2]
def rowB:PyData->Bool
 |.tuple [.str _,.int _]=>true
 |_=>false
def nx (p:Str) (b:Int):List PyData->Option Int
 |.tuple [.str q,.int v]::_=>if q=p/\0<=v/\v<b then some v else none
 |_=>none
def rdL (f:Kd->Str->List PyData->Option (PyData×Nat)):List (Str×Kd)->Str->List PyData->Option (List PyData×Nat)
 |[],_,_=>some ([],0)
 |q::fs,p,l=>(f q.2 (pj p q.1) l).bind fun x=>(rdL f fs p (l.drop x.2)).map fun y=>(x.1::y.1,x.2+y.2)
def rdv (S:List Shp):Nat->Kd->Str->List PyData->Option (PyData×Nat)
 |_,.num w,p,l=>(nx p (256 ^ w) l).map fun v=>(.int v,1)
 |0,_,_,_=>none
 |n+1,.pick is,p,l=>(nx (pj p dB) is.length l).bind fun j=>(rdv S n (.nest (is.getD j.toNat 0)) (pj p (kN S (is.getD j.toNat 0))) (l.drop 1)).map fun x=>(.tuple [.int j,x.1],1+x.2)
 |n+1,.nest i,p,l=>(rdL (rdv S n) ((Kd.nest i).parts S) p l).map fun x=>(zC (.nest i) ((Kd.nest i).parts S) x.1,x.2)
 |n+1,.many m k,p,l=>(rdL (rdv S n) ((Kd.many m k).parts S) p l).map fun x=>(zC (.many m k) ((Kd.many m k).parts S) x.1,x.2)
theorem aHr{n:Nat}{k:Kd}(hk:k.Pd)(p:Str)(l:List PyData):rdv S (n+1) k p l=(rdL (rdv S n) (k.parts S) p l).map fun x=>(zC k (k.parts S) x.1,x.2):=by
 rcases hk with⟨i,rfl⟩|⟨m,q,rfl⟩ <;> rfl
theorem mT(p:Str):∀(a b:List (Str×Kd)) (l:List PyData),rdL f (a++b) p l=(rdL f a p l).bind fun x=>(rdL f b p (l.drop x.2)).map fun y=>(x.1++y.1,x.2+y.2)
 |[],b,l=>by
  show rdL f b p l=(rdL f b p (l.drop 0)).map fun y=>([]++y.1,0+y.2);rw[List.drop_zero];cases rdL f b p l with
  |none=>rfl
  |some y=>show some y=some ([]++y.1,0+y.2);rw[List.nil_append,Nat.zero_add]
 |q::a,b,l=>by
  show(f q.2 (pj p q.1) l).bind _=((f q.2 (pj p q.1) l).bind _).bind _;cases f q.2 (pj p q.1) l with
  |none=>rfl
  |some x =>
   show(rdL f (a++b) p (l.drop x.2)).map _=((rdL f a p (l.drop x.2)).map _).bind _;rw[mT p a b];cases rdL f a p (l.drop x.2) with
   |none=>rfl
   |some y =>
    show((rdL f b p ((l.drop x.2).drop y.2)).map _).map _=(rdL f b p (l.drop (x.2+y.2))).map _;rw[List.drop_drop];cases rdL f b p (l.drop (x.2+y.2)) with
    |none=>rfl
    |some z=>show some (x.1::(y.1++z.1),x.2+(y.2+z.2))=some (x.1::y.1++z.1,x.2+y.2+z.2);rw[wz];rfl
theorem aKw{f:Kd->Str->List PyData->Option (PyData×Nat)}{fs:List (Str×Kd)}{j:Nat}{ds:List PyData}{m:Nat}(hq:fs[j]?=some q)(h:rdL f (fs.take j) p l=some (ds,m)):
  (f q.2 (pj p q.1) (l.drop m)=none->rdL f fs p l=none)/\∀d m',f q.2 (pj p q.1) (l.drop m)=some (d,m')->rdL f (fs.take (j+1)) p l=some (ds++[d],m+m'):=by
 have e:=(oQ hq).1;refine⟨fun z=>?_,fun d m' z=>?_⟩
 ·rw[e,mT,h];show(rdL f (q::fs.drop (j+1)) p (l.drop m)).map _=none;show((f q.2 (pj p q.1) (l.drop m)).bind _).map _=none;rw[z];rfl
 ·rw[iw,hq];show rdL f (fs.take j++[q]) p l=_;rw[mT,h];show((f q.2 (pj p q.1) (l.drop m)).bind _).map _=_;rw[z];rfl
theorem aFi{p:Str}{b:Int}{l:List PyData}(h:nx p b l=some v): 0<=v/\v<b/\∃r,l=yC (p,v)::r:=by
 unfold nx at h
 split at h
 ·split at h
  ·rename_i q u r c;cases h;exact⟨c.2.1,c.2.2,r,by rw[c.1];rfl⟩
  ·cases h
 ·cases h
theorem aIt{p:Str}{b v:Int}{r:List PyData}(h0 : 0<=v)(h1:v<b):nx p b (yC (p,v)::r)=some v:=if_pos ⟨rfl,h0,h1⟩
theorem aMg(hG:Good S):∀{n:Nat}{k:Kd}{d:PyData},k.Fit S.length->Can S n k d->∀(p:Str) (tl:List PyData),rdv S n k p ((flv S n k p d).map yC++tl)=some (d,(flv S n k p d).length):=by
 have num:∀{n w:Nat}{d:PyData},Can S n (.num w) d->∀(p:Str) (tl:List PyData),rdv S n (.num w) p ((flv S n (.num w) p d).map yC++tl)=some (d,(flv S n (.num w) p d).length):=by
  intro n w d h p tl;have h':∃v:Nat,d=.int v/\v<256 ^ w:=by cases n <;> exact h
  obtain⟨v,rfl,hv⟩:=h';have e:flv S n (.num w) p (.int v)=[(p,(v:Int))]:=by cases n <;> rfl
  have e2:∀l,rdv S n (.num w) p l=(nx p (256 ^ w) l).map fun v=>(.int v,1):=by intro l;cases n <;> rfl
  rw[e,e2];show(nx p (256 ^ w) (yC (p,(v:Int))::tl)).map _=_;rw[aIt (xk _) (by exact_mod_cast hv)];rfl
 intro n
 induction n with
 |zero=>intro k d _ h;cases k with
  |num w=>exact num h
  |_=>exact h.elim
 |succ n ih =>
  have ls:∀(fs:List (Str×Kd)) (ds:List PyData),(∀f∈fs,f.2.Fit S.length)->zF (Can S n) fs ds->∀(p:Str) (tl:List PyData),rdL (rdv S n) fs p ((flL (flv S n) fs p ds).map yC++tl)=some (ds,(flL (flv S n) fs p ds).length):=by
   intro fs
   induction fs with
   |nil=>intro ds _ h p tl;cases ds with
    |nil=>rfl
    |cons _ _=>exact h.elim
   |cons q fs ihl=>intro ds hf h p tl;cases ds with
    |nil=>exact h.elim
    |cons d ds =>
     obtain⟨h1,h2⟩:=h;have e:(flL (flv S n) (q::fs) p (d::ds)).map yC++tl=(flv S n q.2 (pj p q.1) d).map yC++((flL (flv S n) fs p ds).map yC++tl):=by
      show(flv S n q.2 (pj p q.1) d++flL (flv S n) fs p ds).map yC++tl=_;rw[χ,jg]
     rw[e];show(rdv S n q.2 (pj p q.1) ((flv S n q.2 (pj p q.1) d).map yC++((flL (flv S n) fs p ds).map yC++tl))).bind _=some (d::ds,((flv S n q.2 (pj p q.1) d)++flL (flv S n) fs p ds).length);rw[ih (hf q (ρ ..)) h1];show(rdL (rdv S n) fs p (((flv S n q.2 (pj p q.1) d).map yC++((flL (flv S n) fs p ds).map yC++tl)).drop (flv S n q.2 (pj p q.1) d).length)).map _=_;rw[List.drop_left' (by rw[δ]),ihl ds (fun f hf'=>hf f (ς _ hf')) h2,θ];rfl
  have pd:∀{k:Kd}(hk:k.Pd) (hf:k.Fit S.length) {d:PyData},Can S (n+1) k d->(∀f∈k.parts S,f.2.Fit S.length)->∀(p:Str) (tl:List PyData),rdv S (n+1) k p ((flv S (n+1) k p d).map yC++tl)=some (d,(flv S (n+1) k p d).length):=by
   intro k hk hf d h hfs p tl;obtain⟨ds,rfl,hc⟩:=(iS hk).mp h;rw[aDh hk p hc.len,aHr hk,ls _ _ hfs hc];rfl
  intro k d hf h;cases k with
  |num w=>exact num h
  |nest i =>
   refine pd (.inl ⟨i,rfl⟩) hf h fun f hf'=>?_;exact(Kd.parts_ok hG hf (hf.rk.mono (ug _)) hf').2.1
  |many c q =>
   refine pd (.inr ⟨c,q,rfl⟩) hf h fun f hf'=>?_;exact(Kd.parts_ok hG hf (hf.rk.mono (ug _)) hf').2.1
  |pick is =>
   intro p tl;obtain⟨j,i,e,hi,rfl,hc⟩ : ∃(j i:Nat) (e:PyData),is[j]?=some i/\d=.tuple [.int j,e]/\Can S n (.nest i) e:=h;have eg:is.getD ((j:Int).toNat) 0=i:=by rw[oe,Γ,hi];rfl
   have ef:flv S (n+1) (.pick is) p (.tuple [.int j,e])=(pj p dB,(j:Int))::flv S n (.nest i) (pj p (kN S i)) e:=by
    show _::flv S n (.nest (is.getD ((j:Int).toNat) 0)) (pj p (kN S (is.getD ((j:Int).toNat) 0))) e=_;rw[eg]
   have hj:j<is.length:=(ε.mp hi).1;rw[ef];show(nx (pj p dB) is.length (yC (pj p dB,(j:Int))::((flv S n (.nest i) (pj p (kN S i)) e).map yC++tl))).bind _=_;rw[aIt (xk _) (by exact_mod_cast hj)];show(rdv S n (.nest (is.getD ((j:Int).toNat) 0)) (pj p (kN S (is.getD ((j:Int).toNat) 0))) ((flv S n (.nest i) (pj p (kN S i)) e).map yC++tl)).map _=_;rw[eg,ih (k:=.nest i) (hf.2.2.2 i (ι hi)) hc];show some (PyData.tuple [.int j,e],1+_)=some (_,_+1);rw[Nat.add_comm]
def Sml (x:Str):Prop:=x.cps.toList.all (fun c=>decide (c<128))=true
theorem Sml.short(h:Sml x):(jr x).leavesShort 200=true:=jq.mpr fun c hc=>decide_eq_true (Δ (of_decide_eq_true (jq.mp h c hc)) (by decide))
theorem Sml.ok(h:Sml x):ou (.str x)=true:=by
 have e:PyData.canLay0 (.str x)=true:=by
  show x.cps.all (fun c=>decide (c<0x110000))=true;rw[←Array.all_toList];exact jq.mpr fun c hc=>decide_eq_true (Δ (of_decide_eq_true (jq.mp h c hc)) (by decide))
 unfold ou;rw[e];rfl
structure NmS (S:List Shp):Prop where
 nm:∀i,i<S.length->(kN S i).length<=6/\Sml (kN S i)
 fd:∀s∈S,∀f∈s.2,Sml f.1
theorem Sml.app(h:Sml x)(g:Sml y):Sml (x++y):=by
 unfold Sml at *;rw[tw,qe,List.all_append,h,g];rfl
theorem Sml.pj(h:Sml p)(g:Sml x):Sml (pj p x):=by
 unfold L2.pj
 split
 ·exact g
 ·exact(h.app (by unfold Sml;ac_rfl)).app g
theorem bU{p x:Str}(h:x.length<=6):(pj p x).length<=p.length+7:=by
 unfold pj
 split
 ·omega
 ·rw[kq,kq];have:(η ".").length=1:=rfl;omega
theorem aMj:∀j:Nat,j<6->Sml (η (toString j)):=by
 have:∀j:Fin 6,Sml (η (toString j.val)):=by unfold Sml;ac_rfl
 exact fun j hj=>this ⟨j,hj⟩
theorem xC{S:List Shp}{i:Nat}(h:S[i]?=some s):(Kd.nest i).parts S=s.2:=by
 show(S.getD i _).2=_;rw[Γ,h];rfl
theorem iG(hN:NmS S){k:Kd}(hk:k.Fit S.length){f:Str×Kd}(hf:f∈k.parts S):Sml f.1:=by
 cases k with
 |num w=>cases hf
 |nest i =>
  have hs:S[i]?=some S[i]:=ζ (show i<S.length from hk);rw[xC hs]at hf;exact hN.fd _ (ju _) f hf
 |many n q =>
  obtain⟨j,hj,rfl⟩:=iu.mp hf;exact aMj j (Δ (wb.mp hj) hk.2.1)
 |pick is=>cases hf
theorem fK(hG:Good S){k:Kd}(hp:k.Pd)(hk:k.Fit S.length):((k.parts S).map fun f=>f.2.size (tabs S).sz).sum=k.size (tabs S).sz:=by
 rcases hp with⟨i,rfl⟩|⟨n,q,rfl⟩
 ·have hs:S[i]?=some S[i]:=ζ (show i<S.length from hk);rw[xC hs];exact(fU hs fun f hf=>((hG.fit i _ hs) f hf).1.below).1.symm
 ·show(((jk n).map _).map _).sum=n*q.size (tabs S).sz;rw[jp];have:∀n:Nat,((jk n).map fun _=>q.size (tabs S).sz).sum=n*q.size (tabs S).sz:=by
   intro n;rw[List.map_const',List.sum_replicate_nat,jw]
  exact this n
def aJb (p n:Nat) (q:Str×Int):Prop:=q.1.length<=p+8*n/\Sml q.1/\0<=q.2/\q.2<4294967296
theorem aHz{w v:Nat}(hw:w<=4)(h:v<256 ^ w):v<4294967296:=Δ h (ip (Nat.pow_le_pow_right (by decide) hw) (by decide))
theorem aKa(hG:Good S)(hN:NmS S):∀{n:Nat}{k:Kd}{d:PyData},k.Fit S.length->k.Rk n->Can S n k d->∀p:Str,Sml p->(flv S n k p d).length<=k.size (tabs S).sz/\∀q∈flv S n k p d,aJb p.length n q:=by
 have num:∀{n w:Nat}{d:PyData},(Kd.num w).Fit S.length->Can S n (.num w) d->∀p:Str,Sml p->(flv S n (.num w) p d).length<=(Kd.num w).size (tabs S).sz/\∀q∈flv S n (.num w) p d,aJb p.length n q:=by
  intro n w d hf h p hp;obtain⟨v,rfl,hv⟩ : ∃v:Nat,d=.int v/\v<256 ^ w:=by cases n <;> exact h
  have e:flv S n (.num w) p (.int v)=[(p,(v:Int))]:=by cases n <;> rfl
  rw[e];refine⟨hf.1,fun q hq=>?_⟩;rw[ο.mp hq];have:=aHz hf.2 hv;exact⟨by show p.length<=_;omega,hp,xk _,by show(v:Int)<_;omega⟩
 intro n
 induction n with
 |zero=>intro k d hf _ h;cases k with
  |num w=>exact num hf h
  |_=>exact h.elim
 |succ n ih =>
  have ls:∀(fs:List (Str×Kd)) (ds:List PyData),(∀f∈fs,f.2.Rk n/\f.2.Fit S.length/\f.1.length<=6/\Sml f.1)->zF (Can S n) fs ds->∀p:Str,Sml p->(flL (flv S n) fs p ds).length<=(fs.map fun f=>f.2.size (tabs S).sz).sum/\∀q∈flL (flv S n) fs p ds,aJb p.length (n+1) q:=by
   intro fs
   induction fs with
   |nil=>intro ds _ h p hp;cases ds with
    |nil=>exact⟨ν _,fun q hq=>by cases hq⟩
    |cons _ _=>exact h.elim
   |cons f fs ihl=>intro ds hf h p hp;cases ds with
    |nil=>exact h.elim
    |cons d ds =>
     obtain⟨a1,a2,a3,a4⟩:=hf f (ρ ..);obtain⟨b1,b2⟩:=ih a2 a1 h.1 (pj p f.1) (hp.pj a4);obtain⟨c1,c2⟩:=ihl ds (fun g hg=>hf g (ς _ hg)) h.2 p hp;refine⟨?_,fun q hq=>?_⟩
     ·show(flv S n f.2 (pj p f.1) d++flL (flv S n) fs p ds).length<=_;rw[θ,jx,uj];omega
     ·rcases ji.mp (show q∈flv S n f.2 (pj p f.1) d++flL (flv S n) fs p ds from hq) with hq|hq
      ·obtain⟨z1,z2⟩:=b2 q hq;have:=bU (p:=p) a3;exact⟨by omega,z2⟩
      ·exact c2 q hq
  have pd:∀{k:Kd}{d:PyData},k.Pd->k.Fit S.length->k.Rk (n+1)->Can S (n+1) k d->∀p:Str,Sml p->(flv S (n+1) k p d).length<=k.size (tabs S).sz/\∀q∈flv S (n+1) k p d,aJb p.length (n+1) q:=by
   intro k d hk hf hr h p hp;obtain⟨ds,rfl,hc⟩:=(iS hk).mp h;rw[aDh hk p hc.len,←fK hG hk hf];exact ls _ _ (fun f hf'=>by
    obtain⟨z1,z2,_,z3⟩:=Kd.parts_ok hG hf hr hf';exact⟨z1,z2,z3,iG hN hf hf'⟩) hc p hp
  intro k d hf hr h;cases k with
  |num w=>exact num hf h
  |nest i=>exact pd (.inl ⟨i,rfl⟩) hf hr h
  |many c q=>exact pd (.inr ⟨c,q,rfl⟩) hf hr h
  |pick is =>
   intro p hp;obtain⟨j,i,e,hi,rfl,hc⟩ : ∃(j i:Nat) (e:PyData),is[j]?=some i/\d=.tuple [.int j,e]/\Can S n (.nest i) e:=h;have hm:=ι hi;have hl:=hf.2.2.2 i hm;have eg:is.getD ((j:Int).toNat) 0=i:=by rw[oe,Γ,hi];rfl
   have ef:flv S (n+1) (.pick is) p (.tuple [.int j,e])=(pj p dB,(j:Int))::flv S n (.nest i) (pj p (kN S i)) e:=by
    show _::flv S n (.nest (is.getD ((j:Int).toNat) 0)) (pj p (kN S (is.getD ((j:Int).toNat) 0))) e=_;rw[eg]
   have hj:j<is.length:=(ε.mp hi).1;obtain⟨n6,ns⟩:=hN.nm i hl;obtain⟨b1,b2⟩:=ih (k:=.nest i) hl (show 2*i+2<=n by have:=hr i hm;omega) hc (pj p (kN S i)) (hp.pj ns);rw[ef];have hs:(Kd.nest i).size (tabs S).sz<=xA (is.map fun i=>(tabs S).sz.getD i 0):=eC (iu.mpr ⟨i,hm,rfl⟩);refine⟨by show _+1<=1+xA _;omega,fun q hq=>?_⟩;rcases π.mp hq with rfl|hq
   ·have:=bU (p:=p) (x:=dB) (by decide);have:=hf.2.1;exact⟨by show(pj p dB).length<=_;omega,hp.pj (by unfold Sml;ac_rfl),xk _,by show(j:Int)<_;omega⟩
   ·obtain⟨z1,z2⟩:=b2 q hq;have:=bU (p:=p) n6;exact⟨by omega,z2⟩
structure Sn (d:PyData) (w m:Nat):Prop where
 sh:d.showable=true
 ls:d.leavesShort 200=true
 wt:d.weight<=w
 dp:d.depth<=m
structure SnA (ds:List PyData) (w m:Nat):Prop where
 sh:PyData.showableAll ds=true
 ls:PyData.leavesShortAll 200 ds=true
 wt:PyData.weightAll ds<=w
 dp:lj ds<=m
theorem Sm.sn(h:Sm d w m):Sn d w m:=⟨h.sh,h.ls,h.wt,h.dp⟩
theorem Sn.le{n' m':Nat}(h:Sn d n m)(hn:n<=n')(hm:m<=m'):Sn d n' m':=⟨h.sh,h.ls,ip h.wt hn,ip h.dp hm⟩
theorem SnA.nil(m:Nat):SnA [] 0 m:=⟨rfl,rfl,ν _,io _⟩
theorem SnA.cons{d:PyData}{ds:List PyData}{n m n':Nat}(h:Sn d n m)(t:SnA ds n' m):SnA (d::ds) (n+1+n') m:=by
 refine⟨?_,?_,?_,?_⟩
 ·show(d.showable&&PyData.showableAll ds)=true;rw[h.sh,t.sh];rfl
 ·show(d.leavesShort 200&&PyData.leavesShortAll 200 ds)=true;rw[h.ls,t.ls];rfl
 ·show d.weight+1+PyData.weightAll ds<=_;have:=h.wt;have:=t.wt;omega
 ·exact Nat.max_le.mpr ⟨h.dp,t.dp⟩
theorem SnA.tup{ds:List PyData}{n m:Nat}(t:SnA ds n m):Sn (.tuple ds) n (m+1):=⟨t.sh,t.ls,t.wt,rq t.dp⟩
theorem SnA.lst{ds:List PyData}{n m:Nat}(t:SnA ds n m):Sn (.list ds) n (m+1):=⟨t.sh,t.ls,t.wt,rq t.dp⟩
theorem Sn.str(h:Sml x):Sn (.str x) x.length 0:=⟨rfl,h.short,ν _,ν _⟩
theorem Sn.int32{i:Int}(h0 : -1<=i)(h:i<2 ^ 99):Sn (.int i) 101 0:=(Sm.int (by omega)).sn
theorem Sn.len(h:Sn d n m)(hn:n<=80000):d.shown.length<=ψ:=by
 have h1:=PyData.shown_le 200 (by decide) d h.ls;have h2:=h.wt;rw[jf];omega
end L2
namespace L2
open PySem PySem.Spec PyProof.Rows
mutual
inductive Dt (z:Bool) (K:Ξ) (H:Hp):V->PyData->Prop
 |non:Dt z K H .non .none
 |bl (b:Bool):Dt z K H (.bl b) (.bool b)
 |int (i:Int):Dt z K H (.int i) (.int i)
 |str (x:Str):Dt z K H (.str x) (.str x)
 |lst {a:Addr}{xs:List V}{ds:List PyData} : SqL K H a xs->(z=true->a≠ky)->Dts z K H xs ds->Dt z K H (.ref a) (.list ds)
 |tup {a:Addr}{xs:List V}{ds:List PyData} : SqT K H a xs->Dts z K H xs ds->Dt z K H (.ref a) (.tuple ds)
 |dct {a:Addr}{ks:List Str}{xs:List V}{ds:List PyData} : H a=some (.dK (il (fun k v=>((.inr k:Key),v)) ks xs))->ks.length=xs.length->Dts z K H xs ds->Dt z K H (.ref a) (.dict (il (fun k d=>(jr k,d)) ks ds))
inductive Dts (z:Bool) (K:Ξ) (H:Hp):List V->List PyData->Prop
 |nil:Dts z K H [] []
 |cons {x:V}{xs:List V}{d:PyData}{ds:List PyData} : Dt z K H x d->Dts z K H xs ds->Dts z K H (x::xs) (d::ds)
end
mutual
theorem Dt.same{K:Ξ}(g:jJ H H'):∀{x:V}{d:PyData},Dt z K H x d->Dt z K H' x d
 |_,_,.non=>.non
 |_,_,.bl b=>.bl b
 |_,_,.int i=>.int i
 |_,_,.str x=>.str x
 |_,_,.lst h n t=>.lst (g.seq h) n (Dts.same g t)
 |_,_,.tup h t=>.tup (g.tp h) (Dts.same g t)
 |_,_,.dct h l t=>.dct (g _ _ h) l (Dts.same g t)
theorem Dts.same{K:Ξ}(g:jJ H H'):∀{xs:List V}{ds:List PyData},Dts z K H xs ds->Dts z K H' xs ds
 |_,_,.nil=>.nil
 |_,_,.cons h t=>.cons (Dt.same g h) (Dts.same g t)
end
mutual
theorem Dt.any{K:Ξ}: ∀{x:V}{d:PyData},Dt z K H x d->Dt false K H x d
 |_,_,.non=>.non
 |_,_,.bl b=>.bl b
 |_,_,.int i=>.int i
 |_,_,.str x=>.str x
 |_,_,.lst h n t=>.lst h (fun z=>nomatch z) (Dts.any t)
 |_,_,.tup h t=>.tup h (Dts.any t)
 |_,_,.dct h l t=>.dct h l (Dts.any t)
theorem Dts.any{K:Ξ}: ∀{xs:List V}{ds:List PyData},Dts z K H xs ds->Dts false K H xs ds
 |_,_,.nil=>.nil
 |_,_,.cons h t=>.cons (Dt.any h) (Dts.any t)
end
mutual
theorem Dat.dt{K:Ξ}: ∀{x:V}{d:PyData},Dat K H x d->Dt false K H x d
 |_,_,.non=>.non
 |_,_,.bl b=>.bl b
 |_,_,.int i=>.int i
 |_,_,.str x=>.str x
 |_,_,.lst h t=>.lst h (fun z=>nomatch z) (DatAll.dt t)
 |_,_,.tup h t=>.tup h (DatAll.dt t)
theorem DatAll.dt{K:Ξ}: ∀{xs:List V}{ds:List PyData},DatAll K H xs ds->Dts false K H xs ds
 |_,_,.nil=>.nil
 |_,_,.cons h t=>.cons (Dat.dt h) (DatAll.dt t)
end
theorem Dts.length{K:Ξ}: ∀{xs:List V}{ds:List PyData},Dts z K H xs ds->xs.length=ds.length
 |_,_,.nil=>rfl
 |_,_,.cons _ t=>congrArg (·+1) (Dts.length t)
theorem Dts.get{K:Ξ}: ∀{xs:List V}{ds:List PyData}{i:Nat}{d:PyData},Dts z K H xs ds->ds[i]?=some d->∃x,xs[i]?=some x/\Dt z K H x d
 |_,_,_,_,.nil,e=>by simp at e
 |_,_,0,_,.cons h _,e=>by simp at e;subst e;exact⟨_,rfl,h⟩
 |_,_,i+1,d,.cons _ t,e=>by
  obtain⟨x,h1,h2⟩:=Dts.get (i:=i) (d:=d) t (by simpa using e);exact⟨x,by simpa using h1,h2⟩
theorem Dts.snoc{K:Ξ}: ∀{xs:List V}{ds:List PyData}{x:V}{d:PyData},Dts z K H xs ds->Dt z K H x d->Dts z K H (xs++[x]) (ds++[d])
 |_,_,_,_,.nil,h=>.cons h .nil
 |_,_,_,_,.cons h t,g=>.cons h (Dts.snoc t g)
theorem Dt.ty{K:Ξ}(h:Dt z K H x d):tyM K x H (tyD d):=by
 cases h with
 |lst h _ _=>exact .inl (.inl ⟨rfl,_,h⟩)
 |tup h _=>exact .inl (.inr ⟨rfl,_,h⟩)
 |dct h _ _=>exact .inr ⟨rfl,_,_,rfl,h⟩
 |_=>exact .inl rfl
section
variable {X:Cx}{pins:List (Addr×Obj)}{σ:St}{H:Hp}{s:ω}
theorem Inv.dkz(I:Inv X pins σ H s)(h:H a=some (.dK (il (fun k v=>((.inr k:Key),v)) ks xs)))(hl:ks.length=xs.length):(a == ky)=false/\∃us:List Value,kM xs us/\s.heap.DictOf (qN X.prog X.w) a (il (fun k v=>((.inr k:Key),v)) ks us):=by
 obtain⟨_,hsm,vs,kv,dd⟩:=oO I.hok h;have:∀(ks:List Str) (xs:List V) (vs:List (Key×Value)),ks.length=xs.length->KV (il (fun k v=>((.inr k:Key),v)) ks xs) vs->∃us,kM xs us/\vs=il (fun k v=>((.inr k:Key),v)) ks us:=by
  intro ks
  induction ks with
  |nil=>intro xs vs e h;cases xs with
   |nil=>cases h;exact⟨[],.nil,rfl⟩
   |cons _ _=>cases e
  |cons k ks ih=>intro xs vs e h;cases xs with
   |nil=>cases e
   |cons x xs =>
    have h':KV (((.inr k:Key),x)::il (fun k v=>((.inr k:Key),v)) ks xs) vs:=h;cases h' with
    | @cons p q ps qs h1 h2 =>
     obtain⟨us,r,e2⟩:=ih xs qs (lc e) h2;refine⟨q.2::us,.cons h1.2 r,?_⟩;rw[e2];show q::_=((.inr k:Key),q.2)::_;have:q.1=(.inr k:Key):=h1.1.symm;rw[←this]
 obtain⟨us,r,e⟩:=this ks xs vs hl kv;exact⟨hsm,us,r,e ▸ dd⟩
mutual
theorem Inv.readsT(I:Inv X pins σ H s):∀{x:V}{d:PyData}{u:Value},Dt true X.K H x d->RelV x u->∃as,Reads s.heap u d as/\ky∉as
 |_,_,_,.non,r=>by cases r;exact⟨_,.none,by simp⟩
 |_,_,_,.bl b,r=>by cases r;exact⟨_,.bool b,by simp⟩
 |_,_,_,.int i,r=>by obtain⟨t,rfl⟩:=r;exact⟨_,.int i t,by simp⟩
 |_,_,_,.str x,r=>by obtain⟨t,rfl⟩:=r;exact⟨_,.str x t,by simp⟩
 |_,_,_,.lst h n ds,r=>by
  cases r;obtain⟨its,rv,⟨o,m,e,hc,_,hd⟩,_⟩:=I.list h;obtain⟨as,ra,hn⟩:=Inv.readsTs I ds rv;exact⟨_,.list e hc hd ra,by simp only[π,not_or];exact⟨lm (n rfl),hn⟩⟩
 |_,_,_,.tup h ds,r=>by
  cases r;obtain⟨its,rv,⟨o,e,hc,n,hd⟩,_⟩:=I.tuple h;obtain⟨as,ra,hn⟩:=Inv.readsTs I ds rv;exact⟨_,.tuple e hc hd ra,hn⟩
 |_,_,_,.dct (a:=a) (ks:=ks) (ds:=ds) h hl hv,r=>by
  cases r;obtain⟨hsm,us,rv,o,es,ep,e1,hx,e2,_,e3,_⟩:=I.dkz h hl;obtain⟨bs,rb,hb⟩:=Inv.readsTs I hv rv;have l1:ks.length=us.length:=hl.trans rv.length;have l2:ks.length=ds.length:=hl.trans hv.length;have keys:∀(el:List DictEntry) (ks:List Str) (us:List Value) (ds:List PyData),ks.length=us.length->ks.length=ds.length->Pairs (qN X.prog X.w) el (il (fun k v=>((.inr k:Key),v)) ks us) →
    ReadsAll s.heap (el.map (·.key)) ((il (fun k d=>(jr k,d)) ks ds).map (·.1)) []/\el.map (·.val)=us/\(il (fun k d=>(jr k,d)) ks ds).map (·.2)=ds:=by
   intro el ks
   induction ks generalizing el with
   |nil=>intro us ds z1 z2 p;cases us with
    |nil=>cases ds with
     |nil=>cases p;exact⟨.nil,rfl,rfl⟩
     |cons _ _=>cases z2
    |cons _ _=>cases z1
   |cons k ks ih=>intro us ds z1 z2 p;cases us with
    |nil=>cases z1
    |cons u us=>cases ds with
     |nil=>cases z2
     |cons d ds =>
      have p':Pairs (qN X.prog X.w) el (((.inr k:Key),u)::il (fun k v=>((.inr k:Key),v)) ks us):=p;cases p' with
      |cons p1 p2 p3 =>
       obtain⟨q1,q2,q3⟩:=ih _ us ds (lc z1) (lc z2) p3;refine⟨.cons (as:=[]) (bs:=[]) (aHa (h:=s.heap) p1) q1,?_,?_⟩
       ·rw[jx,q2];exact congrArg (· :: us) p2
       ·show d::_=d::ds;rw[q3]
  obtain⟨k1,k2,k3⟩:=keys es.toList ks us ds l1 l2 e3;refine⟨_,.dict e1 hx.1 e2 k1 (by rw[k2,k3];exact rb),?_⟩;have ha:ky≠a:=fun z=>by rw[←z]at hsm;simp at hsm
  simp only[List.nil_append,jy,uu,π,not_or];exact⟨ha,hb⟩
theorem Inv.readsTs(I:Inv X pins σ H s):∀{xs:List V}{ds:List PyData}{us:List Value},Dts true X.K H xs ds->kM xs us->∃as,ReadsAll s.heap us ds as/\ky∉as
 |_,_,_,.nil,r=>by cases r;exact⟨_,.nil,by simp⟩
 |_,_,_,.cons h t,r=>by
  cases r with
  |cons r1 r2 =>
   obtain⟨a1,e1,n1⟩:=Inv.readsT I h r1;obtain⟨a2,e2,n2⟩:=Inv.readsTs I t r2;exact⟨_,.cons e1 e2,by simp only[ji,not_or];exact⟨n1,n2⟩⟩
end
def DtR (K:Ξ) (H:Hp) (x:V) (d:PyData):Prop:=Dt true K H x d\/(Dat K H x d/\d.hasDict=false)
def aQx (K:Ξ):List V->Hp->VK->Prop:=fun xs H Q=>∃x d,xs=[x]/\DtR K H x d/\d.showable=true/\d.depth<=60/\d.shown.length<=ψ/\Q (.str d.shown) H
theorem xR{K:Ξ}(hK:X.K=K)(hg:X.A.guards=some [])(hu:X.A.units+64<qj):vK X (.builtin "repr") (aQx K):=by
 subst hK;intro pins s σ H xs us Q I r h;obtain⟨x,d,rfl,hd,hs,hdep,hsz,q⟩:=h;obtain⟨u,rfl,rx⟩:=r.one;have fin:∀(h':mv) (u:Tok) (tk:Nat),(∀b o,s.heap.get? b=some o->h'.get? b=some o)->EP X pins σ Q (.str d.shown u) { s with heap:=h',toks:=tk }:=fun h' u tk hk=>⟨.str d.shown,H,I.kept hk,⟨u,rfl⟩,q⟩;have rd:∃as,Reads s.heap u d as/\(d.hasDict=true->ky∉as):=by
  rcases hd with hd|⟨hd,n⟩
  ·obtain⟨as,ra,hn⟩:=I.readsT hd rx;exact⟨as,ra,fun _=>hn⟩
  ·obtain⟨as,ra⟩:=I.reads hd rx;exact⟨as,ra,PyData.noDict_hsm n⟩
 obtain⟨as,ra,hn⟩:=rd;cases ra with
 |none=>exact P.repr_of_none (fin s.heap _ _ (fun _ _ e=>e))
 |bool b=>cases b <;> exact P.repr_of_bool (fin s.heap _ _ (fun _ _ e=>e))
 |int i t=>exact P.repr_of_int (by simpa [PyData.showable] using hs) (fin s.heap _ _ (fun _ _ e=>e))
 |str x t=>exact P.repr_of_str (fin s.heap _ _ (fun _ _ e=>e)) hsz
 |list h1 h2 h3 h4=>exact repr_of_reads' (.list h1 h2 h3 h4) hs hn hg (by omega) (fun _ _ e=>e) fin hsz
 |tuple h1 h2 h3 h4=>exact repr_of_reads' (.tuple h1 h2 h3 h4) hs hn hg (by omega) (fun _ _ e=>e) fin hsz
 |dict h1 h2 h3 h4 h5=>exact repr_of_reads' (.dict h1 h2 h3 h4 h5) hs hn hg (by omega) (fun _ _ e=>e) fin hsz
end
end L2
namespace L2
open PySem PySem.Spec PyProof.Rows PySem.SeqAt
open AutoSeq1 (wpAny_loadPart')
open MeetsSeq MeetsSeq2 MeetsSeq3 SeqRoads2
def EqP (P:mf) (w:oo) (A:mn) (s:ω) (y x:Value):Prop:=∀(E:Value->ω->Prop) (Q:Bool->ω->Prop),Q true s->iz (jh P w) A (eqBool y x) Q E s
def RcP (P:mf) (w:oo) (A:mn) (s:ω) (y x:Value):Prop:=∀(E:Value->ω->Prop) (Q:Value->ω->Prop),Q (.bool true) s->iz (jh P w) A (richCompare .Eq y x) Q E s
section
variable {P:mf}{w:oo}{A:mn}{s:ω}
theorem EqP.of(h:EqAt A s y x true):EqP P w A s y x:=fun E Q q=>h P w E Q q
theorem EqP.refs{l b:Addr}(h:l≠b->RcP P w A s (.ref l) (.ref b)):EqP P w A s (.ref l) (.ref b):=by
 by_cases e:l=b
 ·subst e;exact .of (EqAt.same _)
 ·intro E Q q;unfold eqBool;refine rm (wpAny_ite_split (fun hab=>absurd (by have:=eq_of_beq hab;injection this) e) fun _=>?_);exact ξ (h e E _ (mq q))
theorem loopP(l b:Addr)(xs ys:Array Value)(n m:Nat)(d1 d2:Option Addr)(s1 s2:Array (Option Value))(hz:xs.size=ys.size)(k:Nat):
  ∀i:Nat,xs.size-i=k->MeetsIn P w (ub.«list.__eq__.loop» ⟨[.ref l,.ref b,rawInt i,rawInt 2],[]⟩)
   (fun A R s=>s.heap.get? l=some ⟨.type "list",d1,.seq xs n,s1⟩/\s.heap.get? b=some ⟨.type "list",d2,.seq ys m,s2⟩/\(∀j (h1:j<xs.size) (h2:j<ys.size),EqP P w A.in1 s xs[j] ys[j])/\R (.ok (.ret (.bool true))) s):=by
 induction k with
 |zero =>
  intro i hk A R s ⟨hl,hb,he,h⟩;obtain⟨hp,g,d,tk,os⟩:=s
  wp_walk using om hl,om hb
  rw[show xs[((i:Nat):Int).toNat]?=none by simp;omega,show ys[((i:Nat):Int).toNat]?=none by simp;omega]
  wp_walk using om hl,om hb
  show R (.ok (.ret (.bool (xs.size == ys.size)))) _;rw[hz];simpa using h
 |succ k ih =>
  intro i hk A R s ⟨hl,hb,he,h⟩;obtain⟨hp,g,d,tk,os⟩:=s
  wp_walk using om hl,om hb
  have q1:i<xs.size:=by omega
  have q2:i<ys.size:=by omega
  have hc:((i:Int)+1)=((i+1:Nat):Int):=by push_cast;rfl
  rw[show xs[((i:Nat):Int).toNat]?=some xs[i] by simp[q1],show ys[((i:Nat):Int).toNat]?=some ys[i] by simp[q2]];refine ξ (he i q1 q2 _ _ ?_)
  wp_walk
  rw[hc];exact⟨plainId_quiet plain_eq_loop _,codeAny_builtin entry_eq_loop (by
   rw[mn.under_plainId plain_eq_loop _];exact ih (i+1) (by omega) A R _ ⟨hl,hb,he,h⟩)⟩
theorem RcP.lists(hl:s.heap.IsList l xs)(hb:s.heap.IsList b ys)(hz:xs.size=ys.size)(hu:A.units<qj)(he:∀j (h1:j<xs.size) (h2:j<ys.size),EqP P w A.in1 s xs[j] ys[j]):RcP P w A s (.ref l) (.ref b):=fun E Q q=>by
 obtain⟨⟨c1,d1,t1,s1⟩,ho,hc,n,hd⟩:=hl;obtain⟨⟨c2,d2,t2,s2⟩,ho2,hc2,m,hd2⟩:=hb;simp only at hc hd hc2 hd2;subst hc hd hc2 hd2;refine rf (op:=.Eq) ⟨_,ho,rfl⟩ ⟨_,ho2,rfl⟩ F.slot_list_eq (call_meetsIn F.slot_list_eq ⟨_,ho,rfl⟩ F.entry_list_eq (F.args_list_eq_2 _ _) (S:=fun A R s=>s.heap.get? l=some ⟨.type "list",d1,.seq xs n,s1⟩/\s.heap.get? b=some ⟨.type "list",d2,.seq ys m,s2⟩/\(∀j (h1:j<xs.size) (h2:j<ys.size),EqP P w A.in1 s xs[j] ys[j])/\R (.ok (.ret (.bool true))) s) ?_ ⟨ho,ho2,he,(fun x=>nomatch x),q⟩) hu;intro A R s ⟨hl,hb,he,h⟩;obtain⟨hp,g,d,tk,os⟩:=s;have f3:=AutoSeq1.sub_list_list;have hne:¬ (xs.size != ys.size)=true:=by simp[hz]
 wp_walk using om hl,om hb
 exact⟨plainId_quiet plain_eq_loop _,codeAny_builtin entry_eq_loop (by
  rw[mn.under_plainId plain_eq_loop _];exact loopP l b xs ys n m d1 d2 s1 s2 hz _ 0 rfl A R _ ⟨hl,hb,he,h⟩)⟩
theorem RcP.tups(hl:s.heap.IsTuple l xs)(hb:s.heap.IsTuple b ys)(hz:xs.size=ys.size)(hu:A.units<qj)(he:∀j (h1:j<xs.size) (h2:j<ys.size),EqP P w A.in1 s xs[j] ys[j]):RcP P w A s (.ref l) (.ref b):=fun E Q q=>by
 obtain⟨⟨c1,d1,t1,s1⟩,ho,hc,n,hd⟩:=hl;obtain⟨⟨c2,d2,t2,s2⟩,ho2,hc2,m,hd2⟩:=hb;simp only at hc hd hc2 hd2;subst hc hd hc2 hd2;refine rf (op:=.Eq) ⟨_,ho,rfl⟩ ⟨_,ho2,rfl⟩ F.slot_tuple_eq (call_meetsIn F.slot_tuple_eq ⟨_,ho,rfl⟩ F.entry_tuple_eq (F.args_tuple_eq_2 _ _) (S:=fun A R s=>s.heap.get? l=some ⟨.type "tuple",d1,.seq xs n,s1⟩/\s.heap.get? b=some ⟨.type "tuple",d2,.seq ys m,s2⟩/\(∀j (h1:j<xs.size) (h2:j<ys.size),EqP P w A.in1 s xs[j] ys[j])/\R (.ok (.ret (.bool true))) s) ?_ ⟨ho,ho2,he,(fun x=>nomatch x),q⟩) hu;refine .of_wp fun A R s zq=>?_;obtain⟨hl,hb,he,h⟩:=zq;obtain⟨hp,g,d,tk,os⟩:=s;have f2:=AutoSeq1.sub_tuple_tuple
 wp_walk using om hl,om hb,wpAny_forIn_list _ (fun rest b s'=>b.1=none/\s'=⟨hp,g,d,tk,os⟩/\∃i,rest=(xs.toList.zip ys.toList).drop i) _
 case turn =>
  rintro ⟨y,x⟩ rest b s' ⟨hb',rfl,i,hz'⟩;have hlt:i<(xs.toList.zip ys.toList).length:=by
   rcases Nat.lt_or_ge i (xs.toList.zip ys.toList).length with h'|h'
   ·exact h'
   ·rw[xy h']at hz';cases hz'
  have hm:i<min xs.size ys.size:=by simpa using hlt
  rw[jj hlt]at hz';injection hz' with hyx hrest;have e1:y=xs[i]'(Δ hm (kg _ _)):=by have:=congrArg Prod.fst hyx;simpa using this
  have e2:x=ys[i]'(Δ hm (yl _ _)):=by have:=congrArg Prod.snd hyx;simpa using this
  subst e1 e2;refine ξ (he i _ _ _ _ ?_)
  wp_walk
  exact⟨rfl,rfl,i+1,hrest⟩
 case fin =>
  rintro ⟨b1,b2⟩ s' ⟨hb',rfl,i,_⟩;simp only at hb';subst hb'
  wp_walk
  exact⟨_,rfl,by simpa [ub.Tuple.tupleCompareSizes,hz] using h⟩
 case h=>exact⟨rfl,rfl,0,rfl⟩
theorem aKi{κ : Type}[DecidableEq κ]{knd:KeyKind P w κ}{nm:String}{a b:Addr}{ka kb:List (κ×Value)}{E:Value->ω->Prop}{Q:Bool->ω->Prop}(ha:(a == ky)=false)(hb:(b == ky)=false)
  (da:s.heap.DictOf knd a ka)(db:s.heap.DictOf knd b kb)(hl:ka.length=kb.length)(hits:∀(i:Nat) (k : κ) (v:Value),ka[i]?=some (k,v)->∃y,vo kb k=some y/\EqP P w A s v y)(h:Q true s):
  iz (jh P w) A (ub.Dict.samePairs nm a b) Q E s:=by
 obtain⟨oa,es,ep,hoa,_,hda,hka,hpa,_⟩:=da;obtain⟨ob,fs,fp,hob,_,hdb,hkb,hpb,_⟩:=db;have la:ka.length=es.size:=by rw[←hpa.length];exact mz
 have lb:kb.length=fs.size:=by rw[←hpb.length];exact mz
 have hz:es.size=fs.size:=by omega
 have hfind:∀k,findBy knd.is fs k=vo kb k:=fun k=>by
  rw[←hpb.find k];clear lb hpb hkb hdb hob hz;obtain⟨l⟩:=fs;simp[findBy]
 unfold ub.Dict.samePairs ub.Dict.showsAll;rw[if_neg (by rw[ha];exact υ),if_neg (by rw[hb];exact υ)];refine ξ (iy (ξ (iy (ξ (ya hoa hda ?_)))));dsimp only;refine ξ (ya hob hdb ?_);rw[if_neg (by rw[hz];simp)];refine ξ (wpAny_dictEpoch hoa hda (ξ ?_));rw[Std.Legacy.Range.forIn_eq_forIn_range'];simp only[Std.Legacy.Range.size,Nat.sub_zero,Nat.add_sub_cancel,Nat.div_one];refine wpAny_forIn_list _ (fun rest q s'=>s'=s/\q=(none,())/\∃i,rest=List.range' i (es.size-i)/\i<=es.size) _ ?_ ?_ _ _ ⟨rfl,rfl,0,by simp,io _⟩
 ·rintro x rest q s' ⟨rfl,rfl,i,hr,hi⟩;have hlt:i<es.size:=by
   rcases Nat.lt_or_ge i es.size with z|z
   ·exact z
   ·rw[Nat.sub_eq_zero_of_le z]at hr;simp at hr
  obtain⟨rfl,hrest⟩ : x=i/\rest=List.range' (i+1) (es.size-(i+1)):=by
   rw[show es.size-i=(es.size-(i+1))+1 by omega,List.range'_succ]at hr;injection hr with h1 h2;exact⟨h1,h2⟩
  refine ξ (ya hoa hda ?_);rw[ow hlt];have hlt':x<ka.length:=by rw[la];exact hlt
  obtain⟨k,v,hkv⟩ : ∃k v,ka[x]=(k,v):=⟨_,_,rfl⟩;have hg:ka[x]?=some (k,v):=by rw[ζ hlt',hkv]
  obtain⟨hkey,hval⟩:=hpa.get? (i:=x) (e:=es[x]) (k:=k) (v:=v) (by rw[vj];exact ow hlt) hg;obtain⟨k',hk',hh⟩:=hka es[x] (Array.getElem_mem hlt);rw[knd.inj _ _ _ hk' hkey]at hh;obtain⟨y,hy,he⟩:=hits x k v hg;show iz _ _ (holding [es[x].key,es[x].val] _ >>= _) _ _ _;rw[hh];refine ξ (rm (ξ (wpAny_dictFind_of hkey hob hdb hkb ?_)));cases hj:fs.findIdx? fun e=>knd.is k e.key with
  |none=>exact absurd hy (by rw[←hfind k,findBy_of_findIdx?,hj];exact fun z=>nomatch z)
  |some j =>
   obtain⟨hjlt,_,_⟩:=Array.findIdx?_eq_some_iff_getElem.mp hj;have hv':vo kb k=some fs[j].val:=by
    rw[←hfind k,findBy_of_findIdx?,hj];simp[ow hjlt]
   refine ξ (ya hob hdb ?_);rw[ow hjlt];have ey:fs[j].val=y:=kf (hv'.symm.trans hy);rw[←ey,←hval]at he;refine rm (he _ _ ?_);show iz _ _ (if (!true)=true then _ else _) _ _ _;rw[if_neg (by decide)];refine ξ (wpAny_dictEpoch hoa hda ?_);rw[if_neg (by simp)];exact iy ⟨rfl,rfl,x+1,hrest,hlt⟩
 ·rintro q s' ⟨rfl,rfl,_⟩;exact iy h
theorem cmpP{κ : Type}[DecidableEq κ]{knd:KeyKind P w κ}{a b:Addr}{ka kb:List (κ×Value)}(ng:Bool){E:Value->ω->Prop}{Q:Value->ω->Prop}(ha:(a == ky)=false)(hb:(b == ky)=false)
  (da:s.heap.DictOf knd a ka)(db:s.heap.DictOf knd b kb)(hl:ka.length=kb.length)(hu:A.units<qj)(hits:∀(i:Nat) (k : κ) (v:Value),ka[i]?=some (k,v)->∃y,vo kb k=some y/\EqP P w A.in1 s v y)(h:Q (.bool (!ng)) s):
  iz (jh P w) A (mj (if ng then .NotEq else .Eq) (.ref a) (.ref b)) Q E s:=by
 cases ng
 ·refine rf (op:=.Eq) da.typeIs db.typeIs PySem.F.slot_dict_eq (sd PySem.F.slot_dict_eq da.typeIs PySem.F.entry_dict_eq ?_ (PySem.F.args_dict_eq_2 _ _)) hu;show iz _ _ (ue "__eq__" ⟨[.ref a,.ref b],[]⟩ >>= _) _ _ s;unfold ue;refine ξ (ξ (wpAny_notOrdered_dict da.typeIs ?_));refine iy (ξ (yk (T:="dict") db.typeIs PySem.F.sub_dict_dict ?_));simp only[Bool.not_true,uz,if_false];refine ξ (iy (ξ (iy (ξ (aKi ha hb da db hl hits (iy ⟨_,rfl,(fun x=>nomatch x),h⟩))))))
 ·refine rf (op:=.NotEq) da.typeIs db.typeIs PySem.F.slot_dict_ne (sd PySem.F.slot_dict_ne da.typeIs PySem.F.entry_dict_ne ?_ (PySem.F.args_dict_ne_2 _ _)) hu;show iz _ _ (ue "__ne__" ⟨[.ref a,.ref b],[]⟩ >>= _) _ _ s;unfold ue;refine ξ (ξ (wpAny_notOrdered_dict da.typeIs ?_));refine iy (ξ (yk (T:="dict") db.typeIs PySem.F.sub_dict_dict ?_));simp only[Bool.not_true,uz,if_false];refine ξ (iy (ξ (iy (ξ (aKi ha hb da db hl hits (iy ⟨_,rfl,(fun x=>nomatch x),h⟩))))))
end
theorem zip_get{κ : Type}: ∀{ks:List Str}{us:List κ}{i:Nat}{k:Key}{v : κ},(il (fun k v=>((.inr k:Key),v)) ks us)[i]?=some (k,v)->us[i]?=some v/\∃x,ks[i]?=some x/\k=.inr x
 |[],_,_,_,_,e=>by simp at e
 |_::_,[],_,_,_,e=>by simp at e
 |x::_,_::_,0,_,_,e=>by simp at e;obtain⟨rfl,rfl⟩:=e;exact⟨rfl,x,rfl,rfl⟩
 |_::ks,_::us,i+1,k,v,e=>zip_get (ks:=ks) (us:=us) (i:=i) (k:=k) (v:=v) (by simpa using e)
theorem uQ{κ : Type}: ∀{ks:List Str}{us:List κ}{i:Nat}{x:Str}{v : κ},((il (fun k v=>((.inr k:Key),v)) ks us).map (·.1)).Nodup->ks[i]?=some x->us[i]?=some v->(il (fun k v=>((.inr k:Key),v)) ks us).find? (fun kv=>decide (kv.1=(.inr x:Key)))=some (.inr x,v)
 |[],_,_,_,_,_,e,_=>by simp at e
 |_::_,[],_,_,_,_,_,e=>by simp at e
 |y::_,_::_,0,_,_,_,e,e2=>by simp at e e2;subst e e2;show List.find? _ (_::_)=_;rw[List.find?_cons_of_pos (by simp)]
 |y::ks,u::us,i+1,x,v,n,e,e2=>by
  have n':((.inr y:Key)::(il (fun k v=>((.inr k:Key),v)) ks us).map (·.1)).Nodup:=n;have ih:=uQ (ks:=ks) (us:=us) (i:=i) (x:=x) (v:=v) (md.mp n').2 (by simpa using e) (by simpa using e2);show List.find? _ (((.inr y:Key),u)::_)=_;rw[List.find?_cons_of_neg]
  ·exact ih
  ·simp only[decide_eq_true_eq];intro z;refine(md.mp n').1 ?_;rw[z];exact iu.mpr ⟨_,List.mem_of_find?_eq_some ih,rfl⟩
section
variable {X:Cx}{pins:List (Addr×Obj)}{σ:St}{H:Hp}{s:ω}
theorem Inv.hits{us:List Value}(hd:((il (fun k v=>((.inr k:Key),v)) ks vs).map (·.1)).Nodup)(e:us.length=vs.length)(h:∀j (h1:j<us.length) (h2:j<vs.length),EqP X.prog X.w A s us[j] vs[j]):
  ∀(i:Nat) (k:Key) (v:Value),(il (fun k v=>((.inr k:Key),v)) ks us)[i]?=some (k,v)->∃y,vo (il (fun k v=>((.inr k:Key),v)) ks vs) k=some y/\EqP X.prog X.w A s v y:=by
 intro i k v hi;obtain⟨hu,x,hx,rfl⟩:=zip_get hi;obtain⟨h1,rfl⟩:=ε.mp hu;have h2:i<vs.length:=by omega
 exact⟨vs[i],by unfold vo;rw[uQ hd hx (ζ h2)];rfl,h i h1 h2⟩
theorem aFh(A:mn){d:PyData}{ds:List PyData}(h:A.units+lj (d::ds)<qj):A.units+d.depth<qj/\A.units+lj ds<qj:=by
 have e:lj (d::ds)=max d.depth (lj ds):=rfl;rw[e]at h;omega
theorem aDp:∀{ks:List Str}{ds:List PyData},ks.length=ds.length->wd (il (fun k d=>(jr k,d)) ks ds)=lj ds
 |[],[],_=>rfl
 |_::ks,d::ds,e=>by
  show max (max 0 d.depth) (wd (il (fun k d=>(jr k,d)) ks ds))=max d.depth (lj ds);rw[aDp (lc e),Nat.zero_max]
theorem zG{ks ks':List Str}{ds ds':List PyData}(l:ks.length=ds.length)(l':ks'.length=ds'.length)(e:il (fun k d=>(jr k,d)) ks ds=il (fun k d=>(jr k,d)) ks' ds'):ks=ks'/\ds=ds':=by
 induction ks generalizing ds ks' ds' with
 |nil=>cases ds with
  |nil=>cases ks' with
   |nil=>cases ds' with
    |nil=>exact⟨rfl,rfl⟩
    |cons _ _=>cases l'
   |cons _ _=>cases ds' with
    |nil=>cases l'
    |cons _ _=>cases e
  |cons _ _=>cases l
 |cons k ks ih=>cases ds with
  |nil=>cases l
  |cons d ds=>cases ks' with
   |nil=>cases e
   |cons k' ks'=>cases ds' with
    |nil=>cases e
    |cons d' ds' =>
     injection e with e1 e2;injection e1 with e3 e4;injection e3 with e5;obtain⟨z1,z2⟩:=ih (lc l) (lc l') e2;exact⟨by rw[e5,z1],by rw[e4,z2]⟩
mutual
theorem Inv.eqT(I:Inv X pins σ H s):∀{A:mn}{x y:V}{d d':PyData}{u v:Value},Dt false X.K H x d->d=d'->Dt false X.K H y d'->RelV x u->RelV y v->A.units+d.depth<qj->EqP X.prog X.w A s u v
 |_,_,_,_,_,_,_,.non,e,h2,r1,r2,hu=>by subst e;cases h2;cases r1;cases r2;exact .of (EqAt.same _)
 |_,_,_,_,_,_,_,.bl b,e,h2,r1,r2,hu=>by subst e;cases h2;cases r1;cases r2;exact .of (EqAt.same _)
 |_,_,_,_,_,_,_,.int i,e,h2,r1,r2,hu=>by
  subst e;cases h2;obtain⟨t,rfl⟩:=r1;obtain⟨t',rfl⟩:=r2;exact .of (by simpa using EqAt.int_int i t i t')
 |_,_,_,_,_,_,_,.str x,e,h2,r1,r2,hu=>by
  subst e;cases h2;obtain⟨t,rfl⟩:=r1;obtain⟨t',rfl⟩:=r2;exact .of (by simpa using EqAt.str_str x t x t')
 |A,_,_,_,_,_,_,.lst h _ ds,e,h2,r1,r2,hu=>by
  subst e;cases h2 with
  |lst h' _ ds' =>
   cases r1;cases r2;obtain⟨its,rv,⟨o,m,g1,g2,_,g3⟩,_⟩:=I.list h;obtain⟨its',rv',⟨o',m',g1',g2',_,g3'⟩,_⟩:=I.list h';have hz:its.toArray.size=its'.toArray.size:=by rw[Φ,Φ,←rv.length,←rv'.length,ds.length,ds'.length]
   have hu':A.units+lj _+1<qj:=hu;exact .refs fun _=>.lists ⟨_,g1,g2,_,g3⟩ ⟨_,g1',g2',_,g3'⟩ hz (by omega) fun j h1 h2=>by
    have:=Inv.eqTs I (A:=A.in1) ds rfl ds' rv rv' (by show A.units+1+_<qj;omega) j (by simpa using h1) (by simpa using h2);simpa using this
 |A,_,_,_,_,_,_,.tup h ds,e,h2,r1,r2,hu=>by
  subst e;cases h2 with
  |tup h' ds' =>
   cases r1;cases r2;obtain⟨its,rv,⟨o,g1,g2,m,g3⟩,_⟩:=I.tuple h;obtain⟨its',rv',⟨o',g1',g2',m',g3'⟩,_⟩:=I.tuple h';have hz:its.toArray.size=its'.toArray.size:=by rw[Φ,Φ,←rv.length,←rv'.length,ds.length,ds'.length]
   have hu':A.units+lj _+1<qj:=hu;exact .refs fun _=>.tups ⟨_,g1,g2,_,g3⟩ ⟨_,g1',g2',_,g3'⟩ hz (by omega) fun j h1 h2=>by
    have:=Inv.eqTs I (A:=A.in1) ds rfl ds' rv rv' (by show A.units+1+_<qj;omega) j (by simpa using h1) (by simpa using h2);simpa using this
 |A,_,_,_,_,_,_,.dct h l ds,e,h2,r1,r2,hu=>by
  cases h2 with
  |non=>cases e
  |bl=>cases e
  |int=>cases e
  |str=>cases e
  |lst=>cases e
  |tup=>cases e
  |dct h' l' ds' =>
   injection e with hd;obtain⟨rfl,e2⟩:=zG (l.trans ds.length) (l'.trans ds'.length) hd;cases r1;cases r2;obtain⟨n1,us,rv,dd1⟩:=I.dkz h l;obtain⟨n2,us',rv',dd2⟩:=I.dkz h' l';have e3:us.length=us'.length:=by rw[←rv.length,←rv'.length,←l,←l']
   obtain⟨_,_,_,_,_,_,_,_,nd⟩:=id dd2;have hu':A.units+(wd _+1)<qj:=hu;rw[aDp (l.trans ds.length)]at hu';refine .refs fun _ E Q q=>cmpP false n1 n2 dd1 dd2 (by simp[e3]) (by omega) (Inv.hits nd e3 ?_) q;exact Inv.eqTs I (A:=A.in1) ds e2 ds' rv rv' (by show A.units+1+_<qj;omega)
theorem Inv.eqTs(I:Inv X pins σ H s):∀{A:mn}{xs ys:List V}{ds ds':List PyData}{us vs:List Value},Dts false X.K H xs ds->ds=ds'->Dts false X.K H ys ds'->kM xs us->kM ys vs->A.units+lj ds<qj->∀j (h1:j<us.length) (h2:j<vs.length),EqP X.prog X.w A s us[j] vs[j]
 |_,_,_,_,_,_,_,.nil,e,_,r1,_,_=>by cases r1;exact fun j h1=>absurd h1 (xg _)
 |A,_,_,_,_,_,_,.cons h t,e,h2,r1,r2,hu=>by
  subst e;cases h2 with
  |cons h' t' =>
   cases r1 with
   |cons q1 q2 =>
    cases r2 with
    |cons q1' q2' =>
     intro j h1 h2;cases j with
     |zero=>exact Inv.eqT I h rfl h' q1 q1' (aFh A hu).1
     |succ j=>exact Inv.eqTs I t rfl t' q2 q2' (aFh A hu).2 j (Nat.lt_of_succ_lt_succ h1) (Nat.lt_of_succ_lt_succ h2)
end
def rNeT (K:Ξ):R2:=fun x y H Q=>(∃(a b:Addr) (ks:List Str) (xs ys:List V) (ds:List PyData),x=.ref a/\y=.ref b/\H a=some (.dK (il (fun k v=>((.inr k:Key),v)) ks xs))/\H b=some (.dK (il (fun k v=>((.inr k:Key),v)) ks ys))/\ks.length=xs.length/\ks.length=ys.length/\Dts false K H xs ds/\Dts false K H ys ds/\lj ds<=60/\Q (.bl false) H)\/∃d:PyData,Dat K H x d/\Dat K H y d/\ou d=true/\Q (.bl false) H
theorem aMv(hu:X.A.units+64<qj):OpR X (mj .NotEq) (rNeT X.K):=by
 intro pins s σ H x y v u Q I rx ry h;rcases h with⟨a,b,ks,xs,ys,ds,rfl,rfl,h,h',l,l',d1,d2,hd,q⟩|⟨d,hx,hy,sh,q⟩
 ·cases rx;cases ry;obtain⟨n1,us,rv,dd1⟩:=I.dkz h l;obtain⟨n2,us',rv',dd2⟩:=I.dkz h' l';have e3:us.length=us'.length:=by rw[←rv.length,←rv'.length,←l,←l']
  obtain⟨_,_,_,_,_,_,_,_,nd⟩:=id dd2;exact cmpP true n1 n2 dd1 dd2 (by simp[e3]) (by omega) (Inv.hits nd e3 (Inv.eqTs I (A:=X.A.in1) d1 rfl d2 rv rv' (by show X.A.units+1+_<qj;omega))) ⟨.bl false,H,I,rfl,q⟩
 ·exact aId hu pins s σ H x y v u Q I rx ry ⟨d,d,hx,hy,sh,sh,by rw[eqv_refl d (canLay_of_shaped sh)];exact q⟩
theorem aGl:vK X (.builtin "len") (fun xs H Q=>∃p kvs,xs=[.ref p]/\H p=some (.dK kvs)/\Q (.int kvs.length) H):=by
 intro pins s σ H xs us Q I r h;obtain⟨p,kvs,rfl,hp,q⟩:=h;obtain⟨u,rfl,rx⟩:=r.one;cases rx;obtain⟨z,hd,vs,rel,dd⟩:=oO I.hok hp;refine call_len_dict hd dd ?_ ⟨.int kvs.length,H,I.tok _,⟨_,by rw[rel.length]⟩,q⟩;rw[←rel.length];have:ψ=16777216:=jf;omega
end
def aCb (P:Nat->List (Key×V)->Hp->Prop) (i k:Nat) (js:List Nat) (σ:St) (σ3:St) (ys:List (Key×V)) (H:Hp):Prop:=P (i+1) ys H/\∃os:St,os.length=k/\σ3=os++qW js σ
theorem aCf{K:Ξ}{b:Bool}{xs ys:List V}{k:Nat}{g:TG}{tc:TT}{tk tv:TE}{Q:VK}{H1:Hp}(P:Addr->Nat->List (Key×V)->Hp->Prop)(he:ys.length=xs.length)(h0:∀D,H1 D=none->P D 0 [] (upd H1 D (.dK [])))
  (hl:∀D i zs H,i<=xs.length->P D i zs H->Sq2 K b H a1 xs/\Sq2 K c2 H a2 ys)
  (hs:∀D i x y zs H p (os:St),os.length=k->xs[i]?=some x->ys[i]?=some y->P D i zs H->H p=none->g (.ref p) (os++qW js σ) (upd H p (.tup [x,y])) fun σ3 H3=>tc σ3 H3 fun b H4=>if b=true then tk σ3 H4 fun y H5=>tv σ3 H5 fun v H6=>∃key,y=kV key/\H6 D=some (.dK zs)/\zs.length<ψ/\aCb (P D) i k js σ σ3 (putK zs key v) (upd H6 D (.dK (putK zs key v))) else aCb (P D) i k js σ σ3 zs H4)
  (hd:∀D zs H,P D xs.length zs H->Q (.ref D) H):tO (ItzM K b c2 a1 a2) k js g tc tk tv σ Q H1:=by
 intro D hD;refine⟨fun i m σ' zs H=>m=xs.length-i/\i<=xs.length/\P D i zs H/\∃os:St,os.length=k/\σ'=os++qW js σ,⟨xs.length,by simp,io _,h0 D hD,jz k none,mw,rfl⟩,?_⟩;rintro i m σ' zs H ⟨rfl,hi,p,os,ho,rfl⟩;obtain⟨q1,q2⟩:=hl D i zs H hi p
 by_cases hlt:i<xs.length
 ·have hl2:i<ys.length:=by omega
  refine .inr ⟨⟨xs,ys,xs[i],ys[i],q1,q2,by simp[hlt],by simp[hl2]⟩,aCb (P D) i k js σ,fun σ3 zs H3 z=>⟨xs.length-(i+1),by omega,rfl,hlt,z.1,z.2⟩,fun v H' y=>?_⟩;obtain⟨x,y,pa,rfl,hn,rfl,hx,hy⟩:=y;exact hs D i x y zs H pa os ho (hx xs q1) (hy ys q2) p hn
 ·have e:i=xs.length:=by omega
  subst e;exact .inl ⟨⟨xs,ys,q1,q2,.inl (ν _)⟩,hd D zs H p⟩
theorem aAy{lo:Int}{n k:Nat}{tc:TT}{te:TE}{Q:VK}(P:Nat->List V->Hp->Prop)(h0:P 0 [] H1)(hl:∀i ys H,i<=n->P i ys H->ys.length<=i)(hz:n<ψ)
  (hs:∀i ys H,i<n->P i ys H->tc (some (.int (lo+i))::qW js σ) H fun b H2=>if b=true then te (some (.int (lo+i))::qW js σ) H2 fun v H3=>yD P i js σ (some (.int (lo+i))::qW js σ) (ys++[v]) H3 else yD P i js σ (some (.int (lo+i))::qW js σ) ys H2)
  (hd:∀ys H,P n ys H->∀p,H p=none->p≠ky->Q (.ref p) (upd H p (.lst ys)))(hk:k=1:=by rfl):gQ (Itr lo n) k js (zA 0) tc te σ Q H1:=by
 subst hk;refine⟨fun i m σ' ys H=>m=n-i/\i<=n/\P i ys H/\∃o,σ'=o::qW js σ,⟨n,by simp,io _,h0,none,rfl⟩,?_⟩;rintro i m σ' ys H ⟨rfl,hi,p,o,rfl⟩;have hy:=hl i ys H hi p
 by_cases hlt:i<n
 ·refine .inr ⟨hlt,by omega,yD P i js σ,fun σ3 zs H3 z=>⟨n-(i+1),by omega,rfl,hlt,z.1,z.2⟩,fun x H' y=>?_⟩;obtain⟨e,y⟩:=y;subst e y;exact hs i ys _ hlt p
 ·have e:i=n:=by omega
  subst e;exact .inl ⟨ν _,hd ys H p⟩
end L2
namespace L2
open PySem PySem.Spec PyProof.Rows
section
variable {X:Cx}
theorem sD:∀{ss:List Str}{us:List Value},kM (ss.map V.str) us->StrsAre us ss
 |[],us,h=>by cases h;exact .nil
 |x::ss,us,h=>by
  rw[jx]at h;cases h with
  |cons r rs =>
   obtain⟨t,rfl⟩:=r;exact .cons _ _ (sD rs)
theorem aDl(h:StrsAre us ss):kM (ss.map V.str) us:=by
 induction h with
 |nil=>exact .nil
 |cons y t _ ih=>exact .cons ⟨t,rfl⟩ ih
end
def leS (a b:Str):Prop:=ltCps b.cps.toList a.cps.toList=false
theorem gT : leS a b ↔ a.cps.toList<=b.cps.toList:=by
 unfold leS;rw[ltCps_eq,decide_eq_false_iff_not];exact List.not_lt
theorem aGs(h:leS a b)(h':leS b c):leS a c:=gT.mpr (List.le_trans (gT.mp h) (gT.mp h'))
theorem aJj(h:leS a b)(h':leS b a):a=b:=Str.ext' (Array.toList_inj.mp (List.le_antisymm (gT.mp h) (gT.mp h')))
theorem fH:∀{l:List Str}{p:Str},risingS p l=true->∀x∈l,leS p x
 |[],_,_,x,hx=>by cases hx
 |y::l,p,h,x,hx=>by
  have h':(!ltCps y.cps.toList p.cps.toList&&risingS y l)=true:=h;rw[ke,Bool.not_eq_true']at h';have h1:leS p y:=h'.1;rcases π.mp hx with rfl|hx
  ·exact h1
  ·exact aGs h1 (fH h'.2 x hx)
theorem sS{x:Str}{l:List Str}(h:sortedS (x::l)=true):sortedS l=true:=by
 cases l with
 |nil=>rfl
 |cons y l =>
  have h':(!ltCps y.cps.toList x.cps.toList&&risingS y l)=true:=h;rw[ke]at h';exact h'.2
theorem nI:∀{a b:List Str},sortedS a=true->sortedS b=true->a.Perm b->a=b
 |[],b,_,_,p=>p.nil_eq
 |x::a,[],_,_,p=>absurd p.length_eq (by simp)
 |x::a,y::b,ha,hb,p=>by
  have e:x=y:=by
   have h1:x∈y::b:=p.mem_iff.mp (ρ ..);have h2:y∈x::a:=p.mem_iff.mpr (ρ ..);rcases π.mp h1 with h1|h1
   ·exact h1
   rcases π.mp h2 with h2|h2
   ·exact h2.symm
   exact aJj (fH ha y h2) (fH hb x h1)
  subst e;rw[nI (sS ha) (sS hb) ((List.perm_cons x).mp p)]
def kvD (ks:List Str) (ds:List PyData):List (PyData×PyData):=il (fun k d=>(jr k,d)) ks ds
def Tre:Nat->PyData->Prop
 |_,.int _=>True
 |0,_=>False
 |r+1,.list ds=>ds≠[]/\ds.length<=6/\∀d∈ds,Tre r d
 |r+1,.tuple [.int _,e]=>Tre r e/\∀v,e≠.int v
 |r+1,.dict kvs=>∃ks ds,kvs=kvD ks ds/\ks.length=ds.length/\ks.Nodup/\ks.length<=6/\∀d∈ds,Tre r d
 |_,_=>False
theorem uU : Tre r (.int v):=by cases r <;> trivial
def xB (c:Kd->PyData->PyData->Prop):List (Str×Kd)->List PyData->List PyData->Prop
 |[],[],[]=>True
 |f::fs,d::ds,e::es=>c f.2 d e/\xB c fs ds es
 |_,_,_=>False
def Rec (S:List Shp):Nat->Kd->PyData->PyData->Prop
 |_,.num w,d,e=>∃v:Nat,d=.int v/\e=.int v/\v<256 ^ w
 |0,_,_,_=>False
 |n+1,.pick is,d,e=>∃(j i:Nat) (a b:PyData),is[j]?=some i/\d=.tuple [.int j,a]/\e=.tuple [.int j,b]/\Rec S n (.nest i) a b
 |n+1,.many m k,d,e=>∃ds es,d=.list ds/\e=.list es/\xB (Rec S n) ((Kd.many m k).parts S) ds es
 |n+1,.nest i,d,e=>∃ds es ks es',d=.dict (eJ ((Kd.nest i).parts S) ds)/\e=.dict (kvD ks es')/\ks.length=es'.length/\(kvD ks es').Perm (eJ ((Kd.nest i).parts S) es)/\xB (Rec S n) ((Kd.nest i).parts S) ds es
theorem xB.len : ∀{fs:List (Str×Kd)}{ds es:List PyData},xB c fs ds es->fs.length=ds.length/\fs.length=es.length
 |[],[],[],_=>⟨rfl,rfl⟩
 |_::_,_::_,_::_,h=>⟨congrArg (·+1) (xB.len h.2).1,congrArg (·+1) (xB.len h.2).2⟩
theorem xB.get{c:Kd->PyData->PyData->Prop}: ∀{fs:List (Str×Kd)}{ds es:List PyData}{i:Nat}{f:Str×Kd},xB c fs ds es->fs[i]?=some f->∃d e,ds[i]?=some d/\es[i]?=some e/\c f.2 d e
 |_::_,d::_,e::_,0,_,h,z=>by cases z;exact⟨d,e,rfl,rfl,h.1⟩
 |_::_,_::_,_::_,i+1,f,h,z=>xB.get (i:=i) (f:=f) h.2 z
theorem xB.imp{c:Kd->PyData->PyData->Prop}{c':Kd->PyData->Prop}(hc:∀k d e,c k d e->c' k d):∀{fs:List (Str×Kd)}{ds es:List PyData},xB c fs ds es->zF c' fs ds
 |[],[],[],_=>jm
 |_::_,_::_,_::_,h=>⟨hc _ _ _ h.1,xB.imp hc h.2⟩
theorem xB.app : ∀{fs gs:List (Str×Kd)}{ds es ds' es':List PyData},xB c fs ds es->xB c gs ds' es'->xB c (fs++gs) (ds++ds') (es++es')
 |[],_,[],[],_,_,_,h=>h
 |_::_,_,_::_,_::_,_,_,h,g=>⟨h.1,xB.app h.2 g⟩
theorem dY : ∀{n:Nat}{k:Kd}{d e:PyData},Rec S n k d e->Can S n k d
 |0,.num w,d,e,h=>by obtain⟨v,h1,_,h2⟩:=h;exact⟨v,h1,h2⟩
 |0,.nest _,_,_,h=>h.elim
 |0,.many _ _,_,_,h=>h.elim
 |0,.pick _,_,_,h=>h.elim
 |n+1,.num w,d,e,h=>by obtain⟨v,h1,_,h2⟩:=h;exact⟨v,h1,h2⟩
 |n+1,.pick is,d,e,h=>by
  obtain⟨j,i,a,b,h1,h2,_,h3⟩:=h;exact⟨j,i,a,h1,h2,dY h3⟩
 |n+1,.many m k,d,e,h=>by
  obtain⟨ds,es,rfl,_,h⟩:=h;exact⟨ds,rfl,h.imp fun _ _ _ z=>dY z⟩
 |n+1,.nest i,d,e,h=>by
  obtain⟨ds,es,ks,es',rfl,_,_,_,h⟩:=h;exact⟨ds,rfl,h.imp fun _ _ _ z=>dY z⟩
def lkD:List (PyData×PyData)->Str->Option PyData
 |[],_=>none
 | (.str k,d)::r,x=>if k=x then some d else lkD r x
 |_::r,x=>lkD r x
theorem mX:∀{ks:List Str}{ds:List PyData}{x:Str}{d:PyData},ks.Nodup->(jr x,d)∈kvD ks ds->lkD (kvD ks ds) x=some d
 |[],_,_,_,_,h=>by cases h
 |_::_,[],_,_,_,h=>by cases h
 |k::ks,e::ds,x,d,hn,h=>by
  show(if k=x then some e else lkD (kvD ks ds) x)=some d;rcases π.mp (show(jr x,d)∈(jr k,e)::kvD ks ds from h) with h|h
  ·injection h with h1 h2;injection h1 with h1;rw[if_pos h1.symm,h2]
  ·have hx:x∈ks:=by
    obtain⟨i,hi⟩:=jb.mp h;unfold kvD at hi;rw[yd]at hi;cases h1:ks[i]? with
    |none=>rw[h1]at hi;cases hi
    |some y =>
     cases h2:ds[i]? with
     |none=>rw[h1,h2]at hi;cases hi
     |some z =>
      rw[h1,h2]at hi;injection hi with hi;injection hi with hi _;injection hi with hi;rw[←hi];exact ι h1
   rw[if_neg (fun z:k=x=>(md.mp hn).1 (z ▸ hx)),mX (md.mp hn).2 h]
theorem yM:∀(fs:List (Str×Kd)) (ds:List PyData),eJ fs ds=kvD (fs.map (·.1)) ds
 |[],_=>rfl
 |_::_,[]=>rfl
 |f::fs,d::ds=>by show(jr f.1,d)::eJ fs ds=(jr f.1,d)::kvD (fs.map (·.1)) ds;rw[yM fs ds]
theorem cD:∀{ks:List Str}{ds:List PyData},ks.length=ds.length->(kvD ks ds).map (·.1)=ks.map jr
 |[],[],_=>rfl
 |k::ks,d::ds,h=>by show jr k::(kvD ks ds).map (·.1)=_;rw[cD (lc h)];rfl
theorem vV:∀{ks:List Str}{ds:List PyData},ks.length=ds.length->(kvD ks ds).map (·.2)=ds
 |[],[],_=>rfl
 |k::ks,d::ds,h=>by show d::(kvD ks ds).map (·.2)=_;rw[vV (lc h)]
theorem hV{a b:List Str}(h:(a.map jr).Perm (b.map jr)):a.Perm b:=by
 have e:∀l:List Str,(l.map jr).map (fun d=>match d with | .str x=>x|_=>Str.empty)=l:=fun l=>by
  rw[jp];exact List.map_id' l
 have:=h.map (fun d=>match d with|jr x=>x|_=>Str.empty)
 rwa [e,e]at this
theorem aDy{ks:List Str}{ds:List PyData}{i:Nat}(h1:ks[i]?=some x)(h2:ds[i]?=some d):(jr x,d)∈kvD ks ds:=by
 refine ι (i:=i) ?_;unfold kvD;rw[yd,h1,h2]
structure DRec (c:Kd->PyData->PyData->Prop) (fs:List (Str×Kd)) (ds:List PyData) (ks:List Str) (es':List PyData):Prop where
 l:ks.length=es'.length
 p:ks.Perm (fs.map (·.1))
 g:∀(i:Nat) (f:Str×Kd),fs[i]?=some f->∃d e,ds[i]?=some d/\lkD (kvD ks es') f.1=some e/\c f.2 d e
theorem wX{fs:List (Str×Kd)}{es':List PyData}{ks:List Str}(hn:(fs.map (·.1)).Nodup)(l:ks.length=es'.length)(p:(kvD ks es').Perm (eJ fs es))(h:xB c fs ds es):DRec c fs ds ks es':=by
 have l2:=h.len.2;have pk:ks.Perm (fs.map (·.1)):=by
  have:=p.map (·.1);rw[yM,cD l,cD (by rw[δ];exact l2)]at this;exact hV this
 refine⟨l,pk,fun i f hf=>?_⟩;obtain⟨d,e,h1,h2,h3⟩:=h.get hf;refine⟨d,e,h1,mX (pk.symm.nodup hn) (p.mem_iff.mpr ?_),h3⟩;rw[yM];exact aDy (by rw[ig,hf];rfl) h2
def rowW:Str:=η "row"
def aKx:Str:=η "pick"
def prD (ks:List Str) (ds:List PyData):List PyData:=il (fun k d=>PyData.tuple [.str k,d]) ks ds
def F2 (c:PyData->PyData->Prop):List PyData->List PyData->Prop
 |[],[]=>True
 |d::ds,e::es=>c d e/\F2 c ds es
 |_,_=>False
def Srt:Nat->PyData->PyData->Prop
 |_,.int v,y=>y=.int v
 |0,_,_=>False
 |r+1,.list ds,y=>∃ys,y=.list (.str rowW::ys)/\F2 (Srt r) ds ys
 |r+1,.tuple [.int j,e],y=>∃z,y=.tuple [.str aKx,.int j,z]/\Srt r e z
 |r+1,.dict kvs,y=>∃ss ys,y=.list (prD ss ys)/\ss.length=ys.length/\sortedS ss=true/\(ss.map jr).Perm (kvs.map (·.1))/\∀(i:Nat) (k:Str) (z:PyData),ss[i]?=some k->ys[i]?=some z->∃v,lkD kvs k=some v/\Srt r v z
 |_,_,_=>False
theorem hU(h:Srt r (.int v) y):y=.int v:=by cases r <;> exact h
def FNd (S:List Shp):Prop:=∀s∈S,(s.2.map (·.1)).Nodup
theorem vU(h:FNd S)(i:Nat):(((Kd.nest i).parts S).map (·.1)).Nodup:=by
 show((S.getD i _).2.map (·.1)).Nodup;rw[Γ];cases e:S[i]? with
 |none=>exact List.nodup_nil
 |some s=>exact h s (ι e)
theorem iB{S:List Shp}(hS:FNd S):∀{n:Nat}{k:Kd}{d e e' y y':PyData},Rec S n k d e->Rec S n k d e'->Srt n e y->Srt n e' y'->y=y'
 |0,.num w,d,e,e',y,y',h,h',z,z'=>by
  obtain⟨v,rfl,rfl,_⟩:=h;obtain⟨v',e1,rfl,_⟩:=h';rw[hU z,hU z'];exact e1
 |0,.nest _,_,_,_,_,_,h,_,_,_=>h.elim
 |0,.many _ _,_,_,_,_,_,h,_,_,_=>h.elim
 |0,.pick _,_,_,_,_,_,h,_,_,_=>h.elim
 |n+1,.num w,d,e,e',y,y',h,h',z,z'=>by
  obtain⟨v,rfl,rfl,_⟩:=h;obtain⟨v',e1,rfl,_⟩:=h';rw[hU z,hU z'];exact e1
 |n+1,.pick is,d,e,e',y,y',h,h',z,z'=>by
  obtain⟨j,i,a,b,h1,rfl,rfl,h2⟩:=h;obtain⟨j',i',a',b',h1',e1,rfl,h2'⟩:=h';injection e1 with e1;injection e1 with e1 e2;injection e1 with e1;injection e2 with e2 _;have ej:j=j':=by omega
  subst ej e2;rw[h1]at h1';cases h1';obtain⟨z1,rfl,z2⟩:=z;obtain⟨z1',rfl,z2'⟩:=z';rw[iB hS h2 h2' z2 z2']
 |n+1,.many m k,d,e,e',y,y',h,h',z,z'=>by
  obtain⟨ds,es,rfl,rfl,h⟩:=h;obtain⟨ds',es',e1,rfl,h'⟩:=h';injection e1 with e1;subst e1;obtain⟨ys,rfl,z⟩:=z;obtain⟨ys',rfl,z'⟩:=z';have:∀(fs:List (Str×Kd)) (ds es es' ys ys':List PyData),xB (Rec S n) fs ds es->xB (Rec S n) fs ds es'->F2 (Srt n) es ys->F2 (Srt n) es' ys'->ys=ys':=by
   intro fs
   induction fs with
   |nil =>
    intro ds es es' ys ys' a b c d;cases ds with
    |cons=>exact a.elim
    |nil=>cases es with
     |cons=>exact a.elim
     |nil=>cases es' with
      |cons=>exact b.elim
      |nil=>cases ys with
       |cons=>exact c.elim
       |nil=>cases ys' with
        |cons=>exact d.elim
        |nil=>rfl
   |cons f fs ih =>
    intro ds es es' ys ys' a b c d;cases ds with
    |nil=>exact a.elim
    |cons d0 ds=>cases es with
     |nil=>exact a.elim
     |cons e0 es=>cases es' with
      |nil=>exact b.elim
      |cons e1 es'=>cases ys with
       |nil=>exact c.elim
       |cons y0 ys=>cases ys' with
        |nil=>exact d.elim
        |cons y1 ys'=>rw[iB hS a.1 b.1 c.1 d.1,ih ds es es' ys ys' a.2 b.2 c.2 d.2]
  rw[this _ _ _ _ _ _ h h' z z']
 |n+1,.nest i,d,e,e',y,y',h,h',z,z'=>by
  obtain⟨ds,es,ks,es2,rfl,rfl,l,p,h⟩:=h;obtain⟨ds',es',ks',es2',e1,rfl,l',p',h'⟩:=h';have hn:=vU hS i;have e2:ds=ds':=by
   injection e1 with e1;rw[yM,yM]at e1;have:=congrArg (List.map Prod.snd) e1
   rwa [vV (by rw[δ];exact h.len.1),vV (by rw[δ];exact h'.len.1)]at this
  subst e2;have D:=wX hn l p h;have D':=wX hn l' p' h';obtain⟨ss,ys,rfl,z1,z2,z3,z4⟩:=z;obtain⟨ss',ys',rfl,z1',z2',z3',z4'⟩:=z';rw[cD l]at z3;rw[cD l']at z3';have q3:=(hV z3).trans D.p;have q3':=(hV z3').trans D'.p;have es:ss=ss':=nI z2 z2' (q3.trans q3'.symm);subst es;have ey:ys=ys':=by
   refine List.ext_getElem? fun j=>?_
   by_cases hj:j<ss.length
   ·have h1:ss[j]?=some ss[j]:=ζ hj;have h2:ys[j]?=some (ys[j]'(by omega)):=ζ _;have h3:ys'[j]?=some (ys'[j]'(by omega)):=ζ _;obtain⟨v,hv,hz⟩:=z4 _ _ _ h1 h2;obtain⟨v',hv',hz'⟩:=z4' _ _ _ h1 h3;obtain⟨q,hq⟩:=jb.mp (q3.mem_iff.mp (ju hj));rw[ig]at hq;obtain⟨f,hf,ef⟩:=kc.mp hq;obtain⟨d1,e1,g1,g2,g3⟩:=D.g _ _ hf;obtain⟨d1',e1',g1',g2',g3'⟩:=D'.g _ _ hf;rw[g1]at g1';cases g1';rw[ef,hv]at g2;cases g2;rw[ef,hv']at g2';cases g2';rw[h2,h3,iB hS g3 g3' hz hz']
   ·rw[uc (by omega),uc (by omega)]
  rw[ey]
theorem xE(hG:Good S){k:Kd}(hp:k.Pd)(hk:k.Fit S.length):k.parts S≠[]/\(k.parts S).length<=6:=by
 rcases hp with⟨i,rfl⟩|⟨n,q,rfl⟩
 ·have hs:S[i]?=some S[i]:=ζ (show i<S.length from hk);rw[xC hs];exact⟨hG.ne i _ hs,hG.few i _ hs⟩
 ·have h1:=hk.1;have h2:=hk.2.1;show(jk n).map _≠[]/\((jk n).map _).length<=6;rw[δ,jw];exact⟨(fun z=>by have:=congrArg List.length z;rw[δ,jw]at this;simp at this;omega),h2⟩
theorem gR : ∀{n:Nat}{k:Kd}{d:PyData},Can S n k d->Rec S n k d d
 |0,.num w,d,h=>by obtain⟨v,h1,h2⟩:=h;exact⟨v,h1,h1,h2⟩
 |0,.nest _,_,h=>h.elim
 |0,.many _ _,_,h=>h.elim
 |0,.pick _,_,h=>h.elim
 |n+1,.num w,d,h=>by obtain⟨v,h1,h2⟩:=h;exact⟨v,h1,h1,h2⟩
 |n+1,.pick is,d,h=>by
  obtain⟨j,i,a,h1,h2,h3⟩:=h;exact⟨j,i,a,a,h1,h2,h2,gR h3⟩
 |n+1,.many m k,d,h=>by
  obtain⟨ds,rfl,h⟩:=h;have:∀(fs:List (Str×Kd)) (ds:List PyData),zF (Can S n) fs ds->xB (Rec S n) fs ds ds:=by
   intro fs
   induction fs with
   |nil=>intro ds h;cases ds with
    |nil=>exact jm
    |cons _ _=>exact h.elim
   |cons f fs ih=>intro ds h;cases ds with
    |nil=>exact h.elim
    |cons d ds=>exact⟨gR h.1,ih ds h.2⟩
  exact⟨ds,ds,rfl,rfl,this _ _ h⟩
 |n+1,.nest i,d,h=>by
  obtain⟨ds,rfl,h⟩:=h;have:∀(fs:List (Str×Kd)) (ds:List PyData),zF (Can S n) fs ds->xB (Rec S n) fs ds ds:=by
   intro fs
   induction fs with
   |nil=>intro ds h;cases ds with
    |nil=>exact jm
    |cons _ _=>exact h.elim
   |cons f fs ih=>intro ds h;cases ds with
    |nil=>exact h.elim
    |cons d ds=>exact⟨gR h.1,ih ds h.2⟩
  refine⟨ds,ds,((Kd.nest i).parts S).map (·.1),ds,rfl,?_,by rw[δ];exact h.len,?_,this _ _ h⟩
  ·show rn _=_;rw[yM]
  ·rw[yM]
theorem eF(hG:Good S)(hS:FNd S):∀{n:Nat}{k:Kd}{d e:PyData},k.Fit S.length->k.Rk n->Rec S n k d e->Tre n e
 |0,.num w,d,e,_,_,h=>by obtain⟨v,_,rfl,_⟩:=h;exact uU
 |0,.nest _,_,_,_,_,h=>h.elim
 |0,.many _ _,_,_,_,_,h=>h.elim
 |0,.pick _,_,_,_,_,h=>h.elim
 |n+1,.num w,d,e,_,_,h=>by obtain⟨v,_,rfl,_⟩:=h;exact uU
 |n+1,.pick is,d,e,hf,hr,h=>by
  obtain⟨j,i,a,b,h1,_,rfl,h2⟩:=h;have hm:=ι h1;show Tre n b/\∀v,b≠.int v;refine⟨eF (n:=n) hG hS (k:=.nest i) (hf.2.2.2 i hm) (show 2*i+2<=n by have:=hr i hm;omega) h2,fun v z=>?_⟩;cases n with
  |zero=>exact h2.elim
  |succ n =>
   obtain⟨_,_,_,_,_,e,_⟩:=h2;rw[z]at e;cases e
 |n+1,.many m k,d,e,hf,hr,h=>by
  obtain⟨ds,es,_,rfl,h⟩:=h;obtain⟨p1,p2⟩:=xE hG (.inr ⟨m,k,rfl⟩) hf;have hl:=h.len.2;refine⟨fun z=>p1 (og (by rw[hl,z];rfl)),by omega,fun e he=>?_⟩;obtain⟨j,hj⟩:=jb.mp he;obtain⟨f,hf'⟩ : ∃f,((Kd.many m k).parts S)[j]?=some f:=⟨_,ζ (by rw[hl];exact(ε.mp hj).1)⟩;obtain⟨d1,e1,_,g2,g3⟩:=h.get hf';rw[hj]at g2;cases g2;obtain⟨z1,z2,_⟩:=Kd.parts_ok hG hf hr (ι hf');exact eF hG hS z2 z1 g3
 |n+1,.nest i,d,e,hf,hr,h=>by
  obtain⟨ds,es,ks,es',_,rfl,l,p,h⟩:=h;obtain⟨p1,p2⟩:=xE hG (.inl ⟨i,rfl⟩) hf;have D:=wX (vU hS i) l p h;have hl:=h.len.2;have hk:=D.p.length_eq;rw[δ]at hk;refine⟨ks,es',rfl,l,D.p.symm.nodup (vU hS i),by omega,fun e he=>?_⟩;have hp2:=p.map (·.2);rw[vV l,yM,vV (by rw[δ];exact hl)]at hp2;obtain⟨j,hj⟩:=jb.mp (hp2.mem_iff.mp he);obtain⟨f,hf'⟩ : ∃f,((Kd.nest i).parts S)[j]?=some f:=⟨_,ζ (by rw[hl];exact(ε.mp hj).1)⟩;obtain⟨d1,e1,_,g2,g3⟩:=h.get hf';rw[hj]at g2;cases g2;obtain⟨z1,z2,_⟩:=Kd.parts_ok hG hf hr (ι hf');exact eF hG hS z2 z1 g3
def cnL (c:PyData->Nat):List PyData->Nat
 |[]=>0
 |d::ds=>c d+cnL c ds
def cn:Nat->PyData->Nat
 |_,.int _=>1
 |0,_=>0
 |r+1,.list ds=>cnL (cn r) ds
 |r+1,.tuple [.int _,e]=>cn r e
 |r+1,.dict kvs=>cnL (cn r) (kvs.map (·.2))
 |_,_=>0
def nbL (c:PyData->Nat) (f:PyData->Nat->PyData):List PyData->Nat->List PyData
 |[],_=>[]
 |d::ds,i=>f d i::nbL c f ds (i+c d)
def nb:Nat->PyData->Nat->PyData
 |_,.int _,i=>.int i
 |0,d,_=>d
 |r+1,.list ds,i=>.list (nbL (cn r) (nb r) ds i)
 |r+1,.tuple [.int j,e],i=>.tuple [.int j,nb r e i]
 |r+1,.dict kvs,i=>.dict (il (fun (p:PyData×PyData) d=>(p.1,d)) kvs (nbL (cn r) (nb r) (kvs.map (·.2)) i))
 |_,d,_=>d
def nuL (f:PyData->List Int):List PyData->List Int
 |[]=>[]
 |d::ds=>f d++nuL f ds
def nu:Nat->PyData->List Int
 |_,.int v=>[v]
 |0,_=>[]
 |r+1,.list ds=>nuL (nu r) ds
 |r+1,.tuple [.int _,e]=>nu r e
 |r+1,.dict kvs=>nuL (nu r) (kvs.map (·.2))
 |_,_=>[]
def rg (i n:Nat):List Int:=(jk n).map fun k=>((i+k:Nat):Int)
theorem aQa(i a b:Nat):rg i (a+b)=rg i a++rg (i+a) b:=by
 unfold rg;rw[List.range_add,χ,jp]
 congr 1
 refine qg fun k _=>?_;show((i+(a+k):Nat):Int)=((i+a+k:Nat):Int);rw[wz]
theorem hZ : ∀(ds:List PyData) (i:Nat),(nbL c f ds i).length=ds.length
 |[],_=>rfl
 |d::ds,i=>congrArg (·+1) (hZ ds (i+c d))
theorem aDu:∀(kvs:List (PyData×PyData)) (ds:List PyData),kvs.length=ds.length->(il (fun (p:PyData×PyData) d=>(p.1,d)) kvs ds).map (·.2)=ds
 |[],[],_=>rfl
 |p::kvs,d::ds,h=>by show d::(il (fun (p:PyData×PyData) d=>(p.1,d)) kvs ds).map (·.2)=d::ds;rw[aDu kvs ds (lc h)]
theorem aNy:∀{r:Nat}{d:PyData}(i:Nat),Tre r d->nu r (nb r d i)=rg i (cn r d):=by
 have base:∀{r:Nat}{v:Int}(i:Nat),nu r (nb r (.int v) i)=rg i (cn r (.int v)):=fun {r v} i=>by
  cases r <;> (show[((i:Nat):Int)]=[((i+0:Nat):Int)];rfl)
 intro r
 induction r with
 |zero=>intro d i h;cases d with
  |int v=>exact base i
  |_=>exact h.elim
 |succ r ih =>
  have ls:∀(ds:List PyData) (i:Nat),(∀d∈ds,Tre r d)->nuL (nu r) (nbL (cn r) (nb r) ds i)=rg i (cnL (cn r) ds):=by
   intro ds
   induction ds with
   |nil=>intro i _;rfl
   |cons d ds ihl =>
    intro i h;show nu r (nb r d i)++nuL (nu r) (nbL (cn r) (nb r) ds (i+cn r d))=rg i (cn r d+cnL (cn r) ds);rw[aQa,ih i (h d (ρ ..)),ihl _ fun x hx=>h x (ς _ hx)]
  intro d i h;cases d with
  |int v=>exact base i
  |list ds=>exact ls ds i h.2.2
  |tuple xs =>
   match xs,h with
   |[.int j,e],h=>exact ih i h.1
  |dict kvs =>
   obtain⟨ks,ds,rfl,l,_,_,h⟩:=h;show nuL (nu r) ((il (fun (p:PyData×PyData) d=>(p.1,d)) (kvD ks ds) (nbL (cn r) (nb r) ((kvD ks ds).map (·.2)) i)).map (·.2))=rg i (cnL (cn r) ((kvD ks ds).map (·.2)));rw[aDu _ _ (by rw[hZ,δ]),vV l];exact ls ds i h
  |none=>exact h.elim
  |bool _=>exact h.elim
  |str _=>exact h.elim
def twn:Nat->PyData->PyData
 |r+1,.list ds=>.list (jz ds.length (twn r (ds.headD .none)))
 |r+1,.tuple [.int j,e]=>.tuple [.int j,twn r e]
 |r+1,.dict kvs=>.dict (kvs.map fun p=>(p.1,twn r p.2))
 |_,d=>d
theorem fO(f:PyData->PyData):∀(ks:List Str) (ds:List PyData),(kvD ks ds).map (fun p=>(p.1,f p.2))=kvD ks (ds.map f)
 |[],_=>rfl
 |_::_,[]=>rfl
 |k::ks,d::ds=>by show(jr k,f d)::(kvD ks ds).map _=(jr k,f d)::kvD ks (ds.map f);rw[fO f ks ds]
theorem aJv{e:PyData}(h:∀v,e≠.int v)(ht:Tre r e):∀v,twn r e≠.int v:=fun v z=>by
 cases r with
 |zero=>cases e <;> first|exact ht.elim|exact h _ rfl
 |succ r =>
  cases e with
  |int w=>exact h w rfl
  |list ds=>cases z
  |tuple xs =>
   match xs,ht with
   |[.int j,e],ht=>cases z
  |dict kvs=>cases z
  |none=>exact ht.elim
  |bool _=>exact ht.elim
  |str _=>exact ht.elim
theorem aFt:∀{r:Nat}{d:PyData},Tre r d->Tre r (twn r d):=by
 intro r
 induction r with
 |zero=>intro d h;cases d with
  |int v=>exact jm
  |_=>exact h.elim
 |succ r ih =>
  intro d h;cases d with
  |int v=>exact jm
  |list ds =>
   obtain⟨h1,h2,h3⟩:=h;refine⟨?_,by rw[mw];exact h2,fun x hx=>?_⟩
   ·cases ds with
    |nil=>exact absurd rfl h1
    |cons d ds=>exact fun z=>by cases z
   ·rw[(List.mem_replicate.mp hx).2];cases ds with
    |nil=>exact absurd rfl h1
    |cons d ds=>exact ih (h3 d (ρ ..))
  |tuple xs =>
   match xs,h with
   |[.int j,e],h=>exact⟨ih h.1,aJv h.2 h.1⟩
  |dict kvs =>
   obtain⟨ks,ds,rfl,l,n,b,h⟩:=h;refine⟨ks,ds.map (twn r),congrArg id (fO _ _ _),by rw[δ];exact l,n,b,fun x hx=>?_⟩;obtain⟨y,hy,rfl⟩:=iu.mp hx;exact ih (h y hy)
  |none=>exact h.elim
  |bool _=>exact h.elim
  |str _=>exact h.elim
section
variable {X:Cx}{pins:List (Addr×Obj)}{σ:St}{H:Hp}{s:ω}
theorem Inv.thaw(I:Inv X pins σ H s)(e:H a=some (.frz o u))(h0:∀o' u',X.H₀ a≠some (.frz o' u')):Inv X pins σ (upd H a u) s:=by
 have ne:∀{b:Addr},H b=none->b≠a:=fun {b} n z=>by rw[z,e]at n;cases n
 have nt:∀{b:Addr}{w:HO},H b=some w->(∀o' u',w≠.frz o' u')->b≠a:=fun {b w} q n z=>by rw[z,e]at q;exact n _ _ (kf q).symm
 have hb:=I.base;have n0:∀{b:Addr}{w:HO},X.H₀ b=some w->H b=some w->(∀o' u',w=.frz o' u'->b≠a)->upd H a u b=some w:=fun {b w} _ q2 n=>by
  by_cases z:b=a
  ·subst z;rw[e]at q2;exact absurd rfl (n _ _ (kf q2).symm)
  ·rw[jT z];exact q2
 refine⟨I.ok,I.os,I.bare,⟨hb.keep,hb.slot,fun b ob q n hx=>?_,hb.there,fun b xs q=>?_,fun b o' u' q=>?_,fun b ps q=>?_⟩,I.loc,I.cell,?_,fun x c q=>?_,fun p hp=>?_,?_,I.len⟩
 ·have:=hb.free b ob q n hx;rw[jT (ne this)];exact this
 ·have:=hb.tups b xs q;rw[jT (nt this fun _ _ z=>by cases z)];exact this
 ·have:=hb.frzs b o' u' q;rw[jT (fun z=>by rw[z]at q;exact h0 _ _ q)];exact this
 ·obtain⟨more,h⟩:=hb.tbls b ps q;exact⟨more,by rw[jT (nt h fun _ _ z=>by cases z)];exact h⟩
 ·have:=I.free;rw[jT (ne this)];exact this
 ·have:=I.freeC x c q;rw[jT (ne this)];exact this
 ·obtain⟨p1,p2,p3⟩:=I.pin p hp;exact⟨p1,by rw[jT (ne p2)];exact p2,p3⟩
 ·intro b w q;have own:∀c z,H c=some (.own z)->upd H a u c=some (.own z):=fun c z r=>by rw[jT (nt r fun _ _ z=>by cases z)];exact r
  have tup:∀c xs,H c=some (.tup xs)->upd H a u c=some (.tup xs):=fun c xs r=>by rw[jT (nt r fun _ _ z=>by cases z)];exact r
  by_cases z:b=a
  ·subst z;rw[jP]at q;cases q;have:=I.hok b _ e;exact(show qZ X.prog X.w H s.heap b u from this.2).stay (fun _ _ _ r=>r) (fun c r=>own c b r) fun c xs r=>tup c xs r
  ·rw[jT z]at q;exact(I.hok b w q).stay (fun _ _ _ r=>r) (fun c r=>own c b r) fun c xs r=>tup c xs r
theorem aEa{t:TE}(h:PE X e t):PE X e (fun σ H Q=>t σ H fun v H1=>Q v H1\/∃a o u,H1 a=some (.frz o u)/\(∀o' u',X.H₀ a≠some (.frz o' u'))/\Q v (upd H1 a u)):=by
 intro pins s σ H Q I q;refine thn (h pins s σ H _ I q) fun v s1 zq=>?_;obtain⟨x,H1,I1,r1,q1⟩:=zq;rcases q1 with q1|⟨a,o,u,e1,h0,q1⟩
 ·exact⟨x,H1,I1,r1,q1⟩
 ·exact⟨x,_,I1.thaw e1 h0,r1,q1⟩
end
section
variable {X:Cx}
theorem uK:vK X (.builtin "sorted") (fun xs H Q=>∃(a:Addr) (ss:List Str),xs=[.ref a]/\SqL X.K H a (ss.map V.str)/\ss.length<64/\∀(l:Addr) (ss':List Str),ss'.Perm ss->sortedS ss'=true->H l=none->Q (.ref l) (upd H l (.lst (ss'.map V.str)))):=by
 intro pins s σ H xs us Q I r h;obtain⟨a,ss,rfl,hS,hl,q⟩:=h;obtain⟨u,rfl,ru⟩:=r.one;cases ru;obtain⟨its,rv,pl,_⟩:=I.list hS;have hlen:=rv.length;rw[δ]at hlen;refine sorted_strs pl.isList (sD rv) (by omega) fun out ss' h1 hp hs=>?_;have hf:H (s.heap.objs.size+1)=none:=I.hok.fresh (ug _);obtain⟨e,he⟩:=sortedAll_at s.heap its out;have hv:=aDl h1;refine⟨.ref (s.heap.objs.size+1),_,I.laid (t':=s.toks) (fun b o z=>sortedAll_old z) (ug _) ?_,rfl,q _ ss' hp hs hf⟩;have hz:(ss'.map V.str).length<=ψ:=by rw[δ,hp.length_eq,jf];omega
 exact⟨hz,out.toList,e,hv,by simpa [seqObj] using he⟩
theorem rV : ∀{kvs:List (Key×V)}{vs:List (Key×Value)},KV kvs vs->∀{us:List Value},us.length=vs.length->(∀(j:Nat) (v:Value),us[j]?=some v->∃k x,vs[j]?=some (k,x)/\(qN P w).is k v=true)->kM (kvs.map fun kv=>kV kv.1) us
 |_,_,.nil,us,hl,_=>by cases us with|nil=>exact .nil|cons _ _=>cases hl
 |_,_,.cons (a:=p) (b:=q) r t,us,hl,h=>by
  cases us with
  |nil=>cases hl
  |cons u us =>
   obtain⟨k,x,h1,h2⟩:=h 0 u rfl;have e1:q=(k,x):=kf h1;refine .cons ?_ (rV t (lc hl) fun j v hv=>h (j+1) v hv);show RelV (kV p.1) u;rw[r.1,e1];exact pB h2
theorem zR(hc:X.calm=true):vK X (.type "list") (fun xs H Q=>∃(a:Addr) (kvs:List (Key×V)),xs=[.ref a]/\H a=some (.dK kvs)/\kvs.length<=1000/\∀l,H l=none->Q (.ref l) (upd H l (.lst (kvs.map fun kv=>kV kv.1)))):=by
 intro pins s σ H xs us Q I r h;obtain⟨a,kvs,rfl,ha,hz,q⟩:=h;obtain⟨u,rfl,ru⟩:=r.one;cases ru;obtain⟨z,hd,vs,rel,dd⟩:=oO I.hok ha;obtain⟨ep,hat⟩:=dd.dictAt;have hl:kvs.length=vs.length:=qb rel;refine PySem.W.kdl_call (PySem.W.kdl_dict (knd:=qN X.prog X.w) (kvs:=vs) (ep:=ep) hd) (I.ok.hd hc) hat (by rw[jf];omega) fun h' tk acc c' hk hD hacc=>?_;refine⟨.ref s.heap.objs.size,_,I.laid hk (ν _) (show qZ X.prog X.w _ h' _ (.lst (kvs.map fun kv=>kV kv.1)) from⟨?_,acc.toList,c',?_,by simpa using hD⟩),rfl,q _ (I.hok.fresh (ν _))⟩
 ·rw[δ,jf];omega
 ·exact rV rel (by rw[mz];exact hacc.1) fun j v e=>hacc.2 j v (by rw[←vj];exact e)
theorem lP:vK X (.type "range") (fun xs H Q=>∃hi:Int,xs=[.int hi]/\∀p,H p=none->Q (.ref p) (upd H p (.rng 0 hi))):=by
 intro pins s σ H xs us Q I r h;obtain⟨hi,rfl,q⟩:=h;obtain⟨u,rfl,⟨t,rfl⟩⟩:=vals1 r;refine call_range_1 ⟨.ref s.heap.objs.size,_,?_,rfl,q _ (I.hok.fresh (ν _))⟩;exact I.laid (fun b o e=>τ _ e) (ν _) ⟨_,_,_,ij _ rfl⟩
theorem aMc:OpR X (qo .Add) (fun x y H Q=>∃l b xs zs,x=.ref l/\y=.ref b/\H l=some (.lst xs)/\H b=some (.lst zs)/\xs.length+zs.length<=ψ/\∀p,H p=none->p≠ky->Q (.ref p) (upd H p (.lst (xs++zs)))):=by
 intro pins s σ H x y v u Q I rx ry h;obtain⟨l,b,xs,zs,rfl,rfl,hH,hB,hz,q⟩:=h;cases rx;cases ry;obtain⟨z,its,n,r,hl,e⟩:=I.lstM hH;obtain⟨z2,its2,n2,r2,hl2,e2⟩:=I.lstM hB;refine PySem.P.add_list e e2 ?_ (by rw[Φ,Φ];omega);have ea:its.toArray++its2.toArray=(its++its2).toArray:=by simp
 rw[ea];exact⟨.ref _,_,I.lnew (t':=s.toks) (r.append r2) (by rw[θ];omega),rfl,q _ I.fresh (lm (ja I.big))⟩
theorem nP{K:Ξ}{xs:List V}{k:Nat}{tc:TT}{te:TE}{Q:VK}(P:Nat->List V->Hp->Prop)(h0:P 0 [] H1)(hl:∀i ys H,i<=xs.length->P i ys H->SqL K H a xs/\ys.length<=i)(hz:xs.length<ψ)
  (hs:∀i x ys H,xs[i]?=some x->P i ys H->tc (some x::qW js σ) H fun b H2=>if b=true then te (some x::qW js σ) H2 fun v H3=>yD P i js σ (some x::qW js σ) (ys++[v]) H3 else yD P i js σ (some x::qW js σ) ys H2)
  (hd:∀ys H,P xs.length ys H->∀p,H p=none->p≠ky->Q (.ref p) (upd H p (.lst ys)))(hk:k=1:=by rfl):gQ (Itl K a) k js (zA 0) tc te σ Q H1:=by
 subst hk;refine⟨fun i m σ' ys H=>m=xs.length-i/\i<=xs.length/\P i ys H/\∃o,σ'=o::qW js σ,⟨xs.length,by simp,io _,h0,none,rfl⟩,?_⟩;rintro i m σ' ys H ⟨rfl,hi,p,o,rfl⟩;obtain⟨q,hy⟩:=hl i ys H hi p
 by_cases hlt:i<xs.length
 ·refine .inr ⟨⟨xs,xs[i],q,by simp[hlt]⟩,by omega,yD P i js σ,fun σ3 zs H3 z=>⟨xs.length-(i+1),by omega,rfl,hlt,z.1,z.2⟩,fun x H' y=>?_⟩;obtain⟨e,y⟩:=y;subst e;exact hs i x ys _ (y xs q) p
 ·have e:i=xs.length:=by omega
  subst e;exact .inl ⟨⟨xs,q,ν _⟩,hd ys H p⟩
theorem aQk{st:Stmt}{t t':TS}(h:PS X st t)(h':PS X st t'):PS X st (fun D σ H=>t D σ H\/t' D σ H):=by
 intro pins s σ H D I q;rcases q with q|q
 ·exact h pins s σ H D I q
 ·exact h' pins s σ H D I q
end
theorem aCe{kvs:List (Key×V)}{k:Nat}{tc:TT}{tk tv:TE}{Q:VK}{H1:Hp}(P:Addr->Nat->List (Key×V)->Hp->Prop)(h0:∀D,H1 D=none->P D 0 [] (upd H1 D (.dK [])))(hl:∀D i ys H,i<=kvs.length->P D i ys H->H a=some (.frz o (.dK kvs)))
  (hs:∀D i kv ys H,kvs[i]?=some kv->P D i ys H->tc (some (kV kv.1)::qW js σ) H fun b H2=>if b=true then tk (some (kV kv.1)::qW js σ) H2 fun y H3=>tv (some (kV kv.1)::qW js σ) H3 fun v H4=>∃key,y=kV key/\H4 D=some (.dK ys)/\ys.length<ψ/\iI (P D) i js σ (some (kV kv.1)::qW js σ) (putK ys key v) (upd H4 D (.dK (putK ys key v))) else iI (P D) i js σ (some (kV kv.1)::qW js σ) ys H2)
  (hd:∀D ys H,P D kvs.length ys H->Q (.ref D) H)(hk:k=1:=by rfl):
  tO (Itd a o kvs) k js (zA 0) tc tk tv σ Q H1:=by
 subst hk;intro D hD;refine⟨fun i m σ' ys H=>m=kvs.length-i/\i<=kvs.length/\P D i ys H/\∃o,σ'=o::qW js σ,⟨kvs.length,by simp,io _,h0 D hD,none,rfl⟩,?_⟩;rintro i m σ' ys H ⟨rfl,hi,p,o',rfl⟩;have q:=hl D i ys H hi p
 by_cases hlt:i<kvs.length
 ·refine .inr ⟨⟨q,hlt⟩,iI (P D) i js σ,fun σ3 zs H3 z=>⟨kvs.length-(i+1),by omega,rfl,hlt,z.1,z.2⟩,fun x H' y=>?_⟩;obtain⟨rfl,kv,e,rfl⟩:=y;exact hs D i kv ys _ e p
 ·have e:i=kvs.length:=by omega
  subst e;exact .inl ⟨⟨q,ν _⟩,hd D ys H p⟩
def Itp (a:Addr) (o:Obj) (kvs:List (Key×V)):It :=
 ⟨fun i H=>H a=some (.frz o (.dK kvs))/\i<kvs.length,fun i H x H'=>∃p kv,x=.ref p/\H p=none/\H'=upd H p (.tup [kV kv.1,kv.2])/\kvs[i]?=some kv,fun i H=>H a=some (.frz o (.dK kvs))/\kvs.length<=i⟩
theorem KV.get2:∀{kvs:List (Key×V)}{vs:List (Key×Value)},KV kvs vs->∀{i:Nat}{kv:Key×V},kvs[i]?=some kv->∃u,vs[i]?=some (kv.1,u)/\RelV kv.2 u
 |_,_,.nil,_,_,e=>by simp at e
 |_,_,.cons (a:=p) (b:=q) r _,0,kv,e=>by
  simp at e;subst e;exact⟨q.2,by simp[r.1],r.2⟩
 |_,_,.cons _ t,i+1,kv,e=>by
  obtain⟨u,h⟩:=KV.get2 t (i:=i) (kv:=kv) (by simpa using e);exact⟨u,by simpa using h⟩
theorem oN:entryFor table "dict_itemiterator.__iter__" = some ub.«dict_keyiterator.__iter__»:=entryFor_alias (id':="dict_keyiterator.__iter__") (by kernel_rfl) rfl (by ac_rfl) (by kernel_rfl)
theorem aGi{s:ω}{Q:Value->ω->Prop}(h:IsItemIter s.heap it d i n ep ok ov)(q:Q (.ref it) s):iz (jh P w) A (pyIter (.ref it)) Q E s:=by
 refine wpAny_pyIter_slot ⟨_,h,rfl⟩ xc (sd xc ⟨_,h,rfl⟩ oN ?_ (PySem.F.args_dict_itemiterator_iter_1 _));show iz _ _ (ret (.ref it)) _ _ s;exact iy ⟨_,rfl,"dict_itemiterator",_,⟨_,h,rfl⟩,PySem.F.slot_dict_itemiterator_next.lookup,q⟩
theorem aCm{K:Ξ}(a it:Addr)(o:Obj)(kvs:List (Key×V)):Turn P w K (.Tuple elts x1 pos) (Itp a o kvs) [it] it (fun i h=>∃ok ov,IsItemIter h it a i kvs.length (epOf o) ok ov) where
 mem:=by simp
 obj:=fun i h st b hb=>by
  have e:b=it:=by simpa using hb
  subst e;obtain⟨ok,ov,e⟩:=st;exact⟨_,e,fun v z=>by cases z⟩
 keep:=fun i h h' st k=>by
  obtain⟨ok,ov,e⟩:=st;exact⟨ok,ov,k it (by simp) _ e⟩
 item:=by
  intro X hP hw hK hc i pins s σ H E I hf st hg;subst hP hw hK;obtain⟨hq,hi⟩:=hg;obtain⟨_,vs,rel,dd⟩:=iZ I.hok hq;obtain⟨u,hu,ru⟩:=KV.get2 rel (i:=i) (kv:=kvs[i]) (by simp[hi]);have fi:=hf it (by simp);have hl:kvs.length=vs.length:=qb rel;obtain⟨ok,ov,hit⟩:=st;rw[hl]at hit;refine wpAny_pyNext_items_item hit dd hu fun key h1 hk heo ht1 hz1 hk1=>⟨_,rfl,?_⟩;refine wpAny_letOwnedTupleGo_items heo fun h2 he2 hs2=>?_;replace hs2:pq it h1 h2:=hs2;have ne:s.heap.objs.size≠it:=we (ik hit);have ht2:h2.get? s.heap.objs.size=some { cls:=.type "tuple",data:=.seq #[key,u] }:=(hs2.2 _ ne).trans ht1;have k2:∀b v,b≠it->b≠it->s.heap.get? b=some v->h2.get? b=some v:=fun b v n1 _ q=>(hs2.2 b n1).trans (hk1 b v n1 q);refine⟨.ref s.heap.objs.size,upd H s.heap.objs.size (.tup [kV kvs[i].1,kvs[i].2]),I.turned2 (t':=s.toks) k2 fi fi (ν _) ⟨(by show 2<=ψ;decide),[key,u],.cons (pB hk) (.cons ru .nil),_,ht2,rfl,_,rfl⟩,rfl,⟨_,kvs[i],rfl,I.hok.fresh (ν _),rfl,by simp[hi]⟩,⟨key,u,by rw[hl];exact he2⟩,fun b hb=>?_⟩;have e:b=it:=by simpa using hb
  subst e;rw[jT (lm ne)];exact fi.1
 done:=by
  intro X hP hw hK hc i pins s σ H E I hf st hg;subst hP hw hK;obtain⟨hq,hi⟩:=hg;obtain⟨_,vs,rel,dd⟩:=iZ I.hok hq;have hl:kvs.length=vs.length:=qb rel;obtain⟨f0,f1,f2,f3,f4,f5⟩:=hf it (by simp);obtain⟨ok,ov,hit⟩:=st;rw[hl]at hit hi;exact wpAny_pyNext_items_end (I.ok.hd hc) hit dd (by simp;omega) fun h' eb=>⟨rfl,I.turned (t':=s.toks) (fun b o hb e=>eb b o hb e) f0 f1 f3 f4 f5⟩
 self:=fun _ _ _ _ _ st h=>by
  obtain⟨ok,ov,e⟩:=st;exact aGi e h
def aRt (tl:TE):TI:=fun σ H R=>tl σ H fun x H1=>∃a kvs,x=.ref a/\H1 a=some (.dK kvs)/\∀o,R (Itp a o kvs) (upd H1 a (.frz o (.dK kvs)))
theorem aKf{apos cpos:Pos}(hl:PE X o tl)(hbase:wu o "items" X.env (eval o X.env)=eval o X.env:=by rfl)(hline:(apos.endLine == cpos.line)=true:=by rfl):PI X (.Tuple elts x1 tpos) (.Call (.Attribute o "items" apos) [] [] cpos) (aRt tl):=by
 intro pins s σ H R I h;refine wpAny_Call_method0_late hbase hline (thn (hl pins s σ H _ I h) fun v s1 zq=>?_);obtain⟨x,H1,I1,r1,q1⟩:=zq;obtain⟨a,kvs,e,hq,q⟩:=q1;subst e;cases r1;obtain⟨t1,t2,hsm⟩:=aQr I1 (.inl ⟨kvs,.inl hq⟩);refine⟨"dict","dict.items",PySem.F.plainAttrs_dict,PySem.F.slot_dict_items,PySem.F.type_dict_items,t1,t2,xq rfl (PySem.evalArgs_none ?_)⟩;obtain⟨z0,hd0,vs0,rel0,dd0⟩:=oO I1.hok hq;refine call_meetsIn PySem.F.slot_dict_items dd0.typeIs PySem.F.entry_dict_items (PySem.F.args_dict_items_1 _) (meets_dict_items (qN X.prog X.w) a hsm) ⟨⟨_,dd0⟩,?_⟩;have I2:=I1.kept (t':=s1.toks) (h':=s1.heap.push { cls:=.type "dict_items",data:=.fields #[.ref a] }) fun b ob e=>τ _ e;obtain⟨ob,ho,I3⟩:=I2.frozen hq;obtain⟨hd,vs,rel,dd⟩:=iZ I3.hok jP;have hl2:kvs.length=vs.length:=qb rel;refine wpAny_pyIter_items (v:=s1.heap.objs.size) ⟨_,ij _ rfl,rfl,rfl⟩ dd ?_;refine⟨_,[_],_,_,_,rfl,I3.kept (t':=s1.toks) fun b ob e=>τ _ e,aCm a _ ob kvs,⟨.none,.none,?_⟩,fun b hb=>?_,q ob⟩
 ·rw[hl2];exact ij _ rfl
 have e:b=(s1.heap.push { cls:=.type "dict_items",data:=.fields #[.ref a] }).objs.size:=by simpa using hb
 subst e;exact I3.fpOk (ν _) (I3.hok.fresh (ν _))
theorem aGj{kvs:List (Key×V)}{g:TG}{tb:TS}{D:Ends}{σ:St}{H:Hp}(Pv:Nat->St->Hp->Prop)(h0:Pv 0 σ H)(hl:∀i σ H,i<=kvs.length->Pv i σ H->H a=some (.frz o (.dK kvs)))
  (hs:∀i kv σ H p,kvs[i]?=some kv->Pv i σ H->H p=none->LpL (let D2:Ends:={ D with nx:=Pv (i+1),ct:=Pv (i+1),bk:=D.nx };g (.ref p) σ (upd H p (.tup [kV kv.1,kv.2])) fun σ2 H2=>tb D2 σ2 H2))(hd:∀σ H,Pv kvs.length σ H->D.nx σ H):
  ∃W:Nat->Nat->St->Hp->Prop,(∃m,W 0 m σ H)/\∀i m σ H,W i m σ H →
   ((Itp a o kvs).stop i H/\D.nx σ H)\/((Itp a o kvs).go i H/\∃N:St->Hp->Prop,(∀σ' H',N σ' H'->∃m',m'<m/\W (i+1) m' σ' H')/\∀x H',(Itp a o kvs).yld i H x H'->g x σ H' fun σ2 H2=>tb { D with nx:=N,ct:=N,bk:=D.nx } σ2 H2):=by
 refine⟨fun i m σ H=>m=kvs.length-i/\i<=kvs.length/\Pv i σ H,⟨kvs.length,by simp,io _,h0⟩,?_⟩;rintro i m σ H ⟨rfl,hi,p⟩;have q:=hl i σ H hi p
 by_cases hlt:i<kvs.length
 ·refine .inr ⟨⟨q,hlt⟩,Pv (i+1),fun σ' H' p'=>⟨kvs.length-(i+1),by omega,rfl,hlt,p'⟩,fun x H' y=>?_⟩;obtain⟨pa,kv,rfl,hn,rfl,hy⟩:=y;exact hs i kv σ H pa hy p hn
 ·have e:i=kvs.length:=by omega
  subst e;exact .inl ⟨⟨q,ν _⟩,hd σ H p⟩
end L2
namespace L2
open PySem PySem.Spec PyProof.Rows PySem.SeqAt
mutual
inductive Tr (z:Bool) (K:Ξ) (H:Hp):V->PyData->List Addr->Prop
 |int (i:Int):Tr z K H (.int i) (.int i) []
 |lst {a:Addr}{xs:List V}{ds:List PyData}{fs:List Addr} : H a=some (.lst xs)->Trs z K H xs ds fs->a∉fs->Tr z K H (.ref a) (.list ds) (a::fs)
 |tup {a:Addr}{i:Int}{x:V}{d:PyData}{fs:List Addr} : SqT K H a [.int i,x]->Tr z K H x d fs->Tr z K H (.ref a) (.tuple [.int i,d]) fs
 |dct {a:Addr}{ks:List Str}{xs:List V}{ds:List PyData}{fs:List Addr} : H a=some (.dK (il (fun k v=>((.inr k:Key),v)) ks xs))->ks.length=xs.length->Trs z K H xs ds fs->a∉fs->Tr z K H (.ref a) (.dict (kvD ks ds)) (a::fs)
inductive Trs (z:Bool) (K:Ξ) (H:Hp):List V->List PyData->List Addr->Prop
 |nil:Trs z K H [] [] []
 |cons {x:V}{xs:List V}{d:PyData}{ds:List PyData}{fs gs:List Addr} : Tr z K H x d fs->Trs z K H xs ds gs->(z=true->∀a∈fs,a∉gs)->Trs z K H (x::xs) (d::ds) (fs++gs)
end
mutual
theorem Tr.dt{K:Ξ}: ∀{x:V}{d:PyData}{fs:List Addr},Tr z K H x d fs->Dt false K H x d
 |_,_,_,.int i=>.int i
 |_,_,_,.lst h t _=>.lst (SqL.of h) (fun z=>by cases z) (Trs.dts t)
 |_,_,_,.tup h t=>.tup h (.cons (.int _) (.cons (Tr.dt t) .nil))
 |_,_,_,.dct h l t _=>.dct h l (Trs.dts t)
theorem Trs.dts{K:Ξ}: ∀{xs:List V}{ds:List PyData}{fs:List Addr},Trs z K H xs ds fs->Dts false K H xs ds
 |_,_,_,.nil=>.nil
 |_,_,_,.cons h t _=>.cons (Tr.dt h) (Trs.dts t)
end
theorem Trs.len{K:Ξ}(h:Trs z K H xs ds fs):xs.length=ds.length:=h.dts.length
def Fr (ms:List Addr) (H H':Hp):Prop:=∀b o,b∉ms->H b=some o->H' b=some o
def Mu (H:Hp) (ms:List Addr):Prop:=∀b∈ms,(∃xs,H b=some (.lst xs))\/∃kvs,H b=some (.dK kvs)
theorem Fr.trans(a:Fr ms H H1)(b:Fr ms H1 H2):Fr ms H H2:=fun c o n e=>b c o n (a c o n e)
theorem Fr.refl : Fr ms H H:=fun _ _ _ e=>e
theorem Fr.mono{ns:List Addr}(a:Fr ms H H1)(h:∀x∈ms,x∈ns):Fr ns H H1:=fun c o n e=>a c o (fun z=>n (h c z)) e
theorem Fr.of(g:jJ H H1):Fr ms H H1:=fun c o _ e=>g c o e
theorem Fr.upd{ms:List Addr}{a:Addr}(h:a∈ms):Fr ms H (L2.upd H a o):=fun c u n e=>by rw[jT (fun z:c=a=>n (by rw[z];exact h))];exact e
theorem Fr.same{H0:Hp}(g:jJ H0 H)(f:Fr ms H H')(h:∀a∈ms,H0 a=none):jJ H0 H':=fun c o e=>f c o (fun z=>by rw[h c z]at e;cases e) (g c o e)
theorem Mu.ne{H:Hp}(h:Mu H ms)(e:H a=some o)(h1:∀xs,o≠.lst xs)(h2:∀kvs,o≠.dK kvs):a∉ms:=fun z=>by
 rcases h a z with⟨xs,q⟩|⟨kvs,q⟩
 ·rw[e]at q;exact h1 _ (kf q)
 ·rw[e]at q;exact h2 _ (kf q)
theorem Mu.app(h:Mu H ms)(h':Mu H ns):Mu H (ms++ns):=fun b hb=>(ji.mp hb).elim (h b) (h' b)
theorem Mu.cons{H:Hp}{a:Addr}{ns:List Addr}(h:(∃xs,H a=some (.lst xs))\/∃kvs,H a=some (.dK kvs))(h':Mu H ns):Mu H (a::ns):=fun b hb=>by
 rcases π.mp hb with rfl|hb
 ·exact h
 ·exact h' b hb
theorem Mu.same(h:Mu H ms)(g:jJ H H'):Mu H' ms:=fun b hb=>(h b hb).imp (fun ⟨x,e⟩=>⟨x,g _ _ e⟩) fun ⟨x,e⟩=>⟨x,g _ _ e⟩
def Nt (H:Hp) (ms:List Addr):Prop:=∀b∈ms,(∀xs,H b≠some (.tup xs))/\∀o xs,H b≠some (.frz o (.tup xs))
theorem Mu.nt(h:Mu H ms):Nt H ms:=fun b hb=>by
 rcases h b hb with⟨xs,q⟩|⟨kvs,q⟩ <;> refine⟨fun _ z=>?_,fun _ _ z=>?_⟩ <;> rw[q]at z <;> cases z
theorem Fr.tp{K:Ξ}(f:Fr ms H H')(m:Nt H ms)(h:SqT K H a xs):SqT K H' a xs:=by
 rcases h with (h|⟨o,h⟩)|h
 ·exact .inl (.inl (f _ _ (fun z=>(m _ z).1 _ h) h))
 ·exact .inl (.inr ⟨o,f _ _ (fun z=>(m _ z).2 _ _ h) h⟩)
 ·exact .inr h
theorem But.none{H H1:Hp}(g:But a H H1)(k:H1 a=some o)(h:H1 b=none):H b=none:=by
 cases e:H b with
 |none=>rfl
 |some u =>
  have n:b≠a:=fun z=>by rw[z,k]at h;cases h
  have:=g b u n e;rw[h]at this;cases this
mutual
theorem Tr.mu{K:Ξ}: ∀{x:V}{d:PyData}{fs:List Addr},Tr z K H x d fs->Mu H fs
 |_,_,_,.int i=>fun b hb=>by cases hb
 |_,_,_,.lst h t _=>Mu.cons (.inl ⟨_,h⟩) (Trs.mu t)
 |_,_,_,.tup h t=>Tr.mu t
 |_,_,_,.dct h l t _=>Mu.cons (.inr ⟨_,h⟩) (Trs.mu t)
theorem Trs.mu{K:Ξ}: ∀{xs:List V}{ds:List PyData}{fs:List Addr},Trs z K H xs ds fs->Mu H fs
 |_,_,_,.nil=>fun b hb=>by cases hb
 |_,_,_,.cons h t _=>(Tr.mu h).app (Trs.mu t)
end
mutual
theorem Tr.frN{K:Ξ}(f:Fr ms H H')(m:Nt H ms):∀{x:V}{d:PyData}{fs:List Addr},Tr z K H x d fs->(∀b∈fs,b∉ms)->Tr z K H' x d fs
 |_,_,_,.int i,_=>.int i
 |_,_,_,.lst h t n,g=>.lst (f _ _ (g _ (ρ ..)) h) (Trs.frN f m t fun b hb=>g b (ς _ hb)) n
 |_,_,_,.tup h t,g=>.tup (f.tp m h) (Tr.frN f m t g)
 |_,_,_,.dct h l t n,g=>.dct (f _ _ (g _ (ρ ..)) h) l (Trs.frN f m t fun b hb=>g b (ς _ hb)) n
theorem Trs.frN{K:Ξ}(f:Fr ms H H')(m:Nt H ms):∀{xs:List V}{ds:List PyData}{fs:List Addr},Trs z K H xs ds fs->(∀b∈fs,b∉ms)->Trs z K H' xs ds fs
 |_,_,_,.nil,_=>.nil
 |_,_,_,.cons h t n,g=>.cons (Tr.frN f m h fun b hb=>g b (jd _ hb)) (Trs.frN f m t fun b hb=>g b (Ψ _ hb)) n
end
theorem Tr.fr{K:Ξ}(f:Fr ms H H')(m:Mu H ms)(h:Tr z K H x d fs)(n:∀b∈fs,b∉ms):Tr z K H' x d fs:=h.frN f m.nt n
theorem Trs.fr{K:Ξ}(f:Fr ms H H')(m:Mu H ms)(h:Trs z K H xs ds fs)(n:∀b∈fs,b∉ms):Trs z K H' xs ds fs:=h.frN f m.nt n
theorem Tr.same{K:Ξ}(g:jJ H H')(h:Tr z K H x d fs):Tr z K H' x d fs:=h.fr (ms:=[]) (.of g) (fun b hb=>by cases hb) fun b _ z=>by cases z
theorem Trs.same{K:Ξ}(g:jJ H H')(h:Trs z K H xs ds fs):Trs z K H' xs ds fs:=h.fr (ms:=[]) (.of g) (fun b hb=>by cases hb) fun b _ z=>by cases z
theorem Trs.snoc{K:Ξ}(h:Tr true K H x d gs):∀{xs:List V}{ds:List PyData}{fs:List Addr},Trs true K H xs ds fs->(∀a∈fs,a∉gs)->Trs true K H (xs++[x]) (ds++[d]) (fs++gs)
 |_,_,_,.nil,_=>by
  have:=Trs.cons (z:=true) h .nil (fun _ a _ z=>by cases z)
  rwa [jy]at this
 |_,_,_,.cons (fs:=f1) (gs:=f2) h1 t1 n1,g=>by
  have:=Trs.cons h1 (Trs.snoc h t1 fun a ha=>g a (Ψ _ ha)) (fun _ a ha hb=>(ji.mp hb).elim (n1 rfl a ha) (g a (jd _ ha)))
  rwa [←jg]at this
theorem tK : ∀{ks:List Str}{es:List PyData},lkD (kvD ks es) x=some e->∃j:Nat,ks[j]?=some x/\es[j]?=some e
 |[],_,h=>by cases h
 |_::_,[],h=>by cases h
 |k::ks,d::es,h=>by
  have h':(if k=x then some d else lkD (kvD ks es) x)=some e:=h
  by_cases z:k=x
  ·rw[if_pos z]at h';exact⟨0,by rw[z];rfl,h'⟩
  ·rw[if_neg z]at h';obtain⟨j,h1,h2⟩:=tK h';exact⟨j+1,h1,h2⟩
def New (H:Hp) (fs:List Addr):Prop:=∀a∈fs,H a=none
theorem New.app(h:New H fs)(h':New H gs):New H (fs++gs):=fun a ha=>(ji.mp ha).elim (h a) (h' a)
theorem New.cons{H:Hp}{a:Addr}{gs:List Addr}(h:H a=none)(h':New H gs):New H (a::gs):=fun b hb=>by
 rcases π.mp hb with rfl|hb
 ·exact h
 ·exact h' b hb
theorem New.back(h:New H' fs)(g:jJ H H'):New H fs:=fun a ha=>g.free (h a ha)
theorem Mu.not{H:Hp}(h:Mu H ms)(n:H a=none):a∉ms:=fun z=>by
 rcases h a z with⟨_,e⟩|⟨_,e⟩ <;> rw[n]at e <;> cases e
theorem New.dis(h:New H gs)(m:Mu H fs):∀a∈fs,a∉gs:=fun a ha hb=>m.not (h a hb) ha
theorem Tr.put{K:Ξ}{H:Hp}{a:Addr}(h:Tr z K H x d fs)(n:a∉fs)(m:(∃xs,H a=some (.lst xs))\/∃kvs,H a=some (.dK kvs)):Tr z K (upd H a o) x d fs:=h.fr (ms:=[a]) (Fr.upd (ο.mpr rfl)) (fun b hb=>by rw[ο.mp hb];exact m) fun b hb z=>n (by rw[←ο.mp z];exact hb)
theorem Trs.put{K:Ξ}{H:Hp}{a:Addr}(h:Trs z K H xs ds fs)(n:a∉fs)(m:(∃xs,H a=some (.lst xs))\/∃kvs,H a=some (.dK kvs)):Trs z K (upd H a o) xs ds fs:=h.fr (ms:=[a]) (Fr.upd (ο.mpr rfl)) (fun b hb=>by rw[ο.mp hb];exact m) fun b hb z=>n (by rw[←ο.mp z];exact hb)
section
variable {X:Cx}{pins:List (Addr×Obj)}{σ:St}{H:Hp}{s:ω}
theorem aDn{κ : Type}{ks:List Str}{us:List κ}{i:Nat}{x:Str}{v : κ}(hn:ks.Nodup)(h1:ks[i]?=some x)(h2:us[i]?=some v):(il (fun k v=>((.inr k:Key),v)) ks us).find? (fun kv=>decide (kv.1=(.inr x:Key)))=some (.inr x,v):=by
 refine uQ ?_ h1 h2;have:∀(ks:List Str) (us:List κ),ks.Nodup->((il (fun k v=>((.inr k:Key),v)) ks us).map (·.1)).Nodup:=by
  intro ks
  induction ks with
  |nil=>intro us _;exact List.nodup_nil
  |cons k ks ih=>intro us hn;cases us with
   |nil=>exact List.nodup_nil
   |cons u us =>
    show((.inr k:Key)::(il (fun k v=>((.inr k:Key),v)) ks us).map (·.1)).Nodup;refine md.mpr ⟨fun z=>?_,ih us (md.mp hn).2⟩;obtain⟨kv,hkv,e⟩:=iu.mp z;obtain⟨j,hj⟩:=jb.mp hkv;obtain⟨k',v'⟩:=kv;obtain⟨_,y,hy,e2⟩:=zip_get hj;have e3:(qr y:Key)=.inr k:=e2.symm.trans e;exact(md.mp hn).1 (by rw[←xl e3];exact ι hy)
 exact this ks us hn
mutual
theorem Tr.any{K:Ξ}: ∀{x:V}{d:PyData}{fs:List Addr},Tr true K H x d fs->Tr false K H x d fs
 |_,_,_,.int i=>.int i
 |_,_,_,.lst h t n=>.lst h (Trs.any t) n
 |_,_,_,.tup h t=>.tup h (Tr.any t)
 |_,_,_,.dct h l t n=>.dct h l (Trs.any t) n
theorem Trs.any{K:Ξ}: ∀{xs:List V}{ds:List PyData}{fs:List Addr},Trs true K H xs ds fs->Trs false K H xs ds fs
 |_,_,_,.nil=>.nil
 |_,_,_,.cons h t _=>.cons (Tr.any h) (Trs.any t) fun z=>by cases z
end
theorem Trs.at{K:Ξ}: ∀{xs:List V}{ds:List PyData}{fs:List Addr}{j:Nat}{x:V},Trs z K H xs ds fs->xs[j]?=some x->∃d gs,ds[j]?=some d/\Tr z K H x d gs/\∀a∈gs,a∈fs
 |_,_,_,0,_,.cons (d:=d) (fs:=f) h _ _,e=>by cases e;exact⟨d,f,rfl,h,fun a ha=>jd _ ha⟩
 |_,_,_,j+1,_,.cons _ t _,e=>by
  obtain⟨d,gs,h1,h2,h3⟩:=Trs.at (j:=j) t e;exact⟨d,gs,h1,h2,fun a ha=>Ψ _ (h3 a ha)⟩
 |_,_,_,_,_,.nil,e=>by cases e
theorem Inv.eqR(hS:FNd S)(I:Inv X pins σ H s):∀{n:Nat}{k:Kd}{A:mn}{x y:V}{d e:PyData}{u v:Value},Rec S n k d e->Dt false X.K H x d->Dt false X.K H y e->RelV x u->RelV y v->A.units+n<qj->EqP X.prog X.w A s u v:=by
 have num:∀{A:mn}{x y:V}{c:Int}{u v:Value},Dt false X.K H x (.int c)->Dt false X.K H y (.int c)->RelV x u->RelV y v->EqP X.prog X.w A s u v:=by
  intro A x y c u v h1 h2 r1 r2;cases h1;cases h2;obtain⟨t,rfl⟩:=r1;obtain⟨t',rfl⟩:=r2;exact .of (by simpa using EqAt.int_int c t c t')
 intro n
 induction n with
 |zero=>intro k A x y d e u v h h1 h2 r1 r2 hu;cases k with
  |num w=>obtain⟨c,rfl,rfl,_⟩:=h;exact num h1 h2 r1 r2
  |_=>exact h.elim
 |succ n ih =>
  intro k A x y d e u v h h1 h2 r1 r2 hu;have hu':(A.in1).units+n<qj:=by show A.units+1+n<qj;omega
  cases k with
  |num w=>obtain⟨c,rfl,rfl,_⟩:=h;exact num h1 h2 r1 r2
  |pick is =>
   obtain⟨j,i,a,b,_,rfl,rfl,h3⟩:=h;cases h1 with
   |tup h1 t1 =>
    cases h2 with
    |tup h2 t2 =>
     cases r1;cases r2;cases t1 with
     |cons q1 t1=>cases t1 with
      |cons q2 t1=>cases t1 with
       |nil=>cases t2 with
        |cons p1 t2=>cases t2 with
         |cons p2 t2=>cases t2 with
          |nil =>
           obtain⟨its,rv,⟨o,g1,g2,m,g3⟩,_⟩:=I.tuple h1;obtain⟨its',rv',⟨o',g1',g2',m',g3'⟩,_⟩:=I.tuple h2;cases rv with
           |cons s1 rv=>cases rv with
            |cons s2 rv=>cases rv with
             |nil=>cases rv' with
              |cons s1' rv'=>cases rv' with
               |cons s2' rv'=>cases rv' with
                |nil =>
                 refine .refs fun _=>.tups ⟨_,g1,g2,_,g3⟩ ⟨_,g1',g2',_,g3'⟩ rfl (by omega) fun j h1 h2=>?_
                 match j,h1,h2 with
                 |0,_,_=>exact num q1 p1 s1 s1'
                 |1,_,_=>exact ih h3 q2 p2 s2 s2' hu'
                 |j+2,h1,_=>exact absurd h1 (by simp)
  |many mm k =>
   obtain⟨ds,es,rfl,rfl,h3⟩:=h;cases h1 with
   |lst h1 _ t1 =>
    cases h2 with
    |lst h2 _ t2 =>
     cases r1;cases r2;obtain⟨its,rv,⟨o,m,g1,g2,_,g3⟩,_⟩:=I.list h1;obtain⟨its',rv',⟨o',m',g1',g2',_,g3'⟩,_⟩:=I.list h2;have l1:=h3.len;have hz:its.toArray.size=its'.toArray.size:=by rw[Φ,Φ,←rv.length,←rv'.length,t1.length,t2.length,←l1.1,←l1.2]
     refine .refs fun _=>.lists ⟨_,g1,g2,_,g3⟩ ⟨_,g1',g2',_,g3'⟩ hz (by omega) fun j q1 q2=>?_;have q1':j<its.length:=by simpa using q1
     have q2':j<its'.length:=by simpa using q2
     have hj:j<((Kd.many mm k).parts S).length:=by rw[l1.1,←t1.length,rv.length];exact q1'
     obtain⟨d1,e1,z1,z2,z3⟩:=h3.get (ζ hj);obtain⟨x1,w1,w2⟩:=Dts.get t1 z1;obtain⟨x2,w3,w4⟩:=Dts.get t2 z2;obtain⟨u1,v1,v2⟩:=rv.get w1;obtain⟨u2,v3,v4⟩:=rv'.get w3;rw[ζ q1']at v1;rw[ζ q2']at v3;cases v1;cases v3;have:=ih z3 w2 w4 v2 v4 hu';simpa using this
  |nest i =>
   obtain⟨ds,es,ks,es',rfl,rfl,l,p,h3⟩:=h;have D:=wX (vU hS i) l p h3;rw[yM]at h1;generalize e1:rn (kvD (((Kd.nest i).parts S).map (·.1)) ds)=dd1 at h1;generalize e2:rn (kvD ks es')=dd2 at h2;cases h1 with
   |non=>cases e1
   |bl=>cases e1
   |int=>cases e1
   |str=>cases e1
   |lst=>cases e1
   |tup=>cases e1
   |dct h1 l1 t1 =>
    cases h2 with
    |non=>cases e2
    |bl=>cases e2
    |int=>cases e2
    |str=>cases e2
    |lst=>cases e2
    |tup=>cases e2
    |dct h2 l2 t2 =>
     injection e1 with e1;injection e2 with e2;have lf:=h3.len;obtain⟨rfl,rfl⟩:=zG (by rw[δ];exact lf.1) (l1.trans t1.length) e1;obtain⟨rfl,rfl⟩:=zG l (l2.trans t2.length) e2;cases r1;cases r2;obtain⟨n1,us,rv,dd1⟩:=I.dkz h1 l1;obtain⟨n2,us',rv',dd2⟩:=I.dkz h2 l2;have pl:=D.p.length_eq;have nd:ks.Nodup:=D.p.symm.nodup (vU hS i);have lu:=rv.length;have lu':=rv'.length;refine .refs fun _ E Q q=>cmpP false n1 n2 dd1 dd2 (by rw[qx,qx];omega) (by omega) (fun j key v hj=>?_) q;obtain⟨hu1,y,hy,rfl⟩:=zip_get hj;rw[ig]at hy;obtain⟨f,hf,rfl⟩:=kc.mp hy;obtain⟨d1,e1',g1,g2,g3⟩:=D.g _ _ hf;obtain⟨j',z1,z2⟩:=tK g2;obtain⟨x1,w1,w2⟩:=Dts.get t1 g1;obtain⟨x2,w3,w4⟩:=Dts.get t2 z2;obtain⟨u1,v1,v2⟩:=rv.get w1;obtain⟨u2,v3,v4⟩:=rv'.get w3;rw[hu1]at v1;cases v1;exact⟨u2,by unfold vo;rw[aDn nd z1 v3];rfl,ih g3 w2 w4 v2 v4 hu'⟩
def rNeR (K:Ξ):R2:=fun x y H Q=>∃(S:List Shp) (n i:Nat) (d e:PyData),FNd S/\Rec S (n+1) (.nest i) d e/\Dt false K H x d/\Dt false K H y e/\n<=50/\Q (.bl false) H
theorem aQo(hu:X.A.units+64<qj):OpR X (mj .NotEq) (rNeR X.K):=by
 intro pins s σ H x y v u Q I rx ry h;obtain⟨S,n,i,d,e,hS,h,h1,h2,hn,q⟩:=h;have hu':(X.A.in1).units+n<qj:=by show X.A.units+1+n<qj;omega
 obtain⟨ds,es,ks,es',rfl,rfl,l,p,h3⟩:=h;have D:=wX (vU hS i) l p h3;rw[yM]at h1;generalize e1:rn (kvD (((Kd.nest i).parts S).map (·.1)) ds)=dd1 at h1;generalize e2:rn (kvD ks es')=dd2 at h2;cases h1 with
 |non=>cases e1
 |bl=>cases e1
 |int=>cases e1
 |str=>cases e1
 |lst=>cases e1
 |tup=>cases e1
 |dct h1 l1 t1 =>
  cases h2 with
  |non=>cases e2
  |bl=>cases e2
  |int=>cases e2
  |str=>cases e2
  |lst=>cases e2
  |tup=>cases e2
  |dct h2 l2 t2 =>
   injection e1 with e1;injection e2 with e2;have lf:=h3.len;obtain⟨rfl,rfl⟩:=zG (by rw[δ];exact lf.1) (l1.trans t1.length) e1;obtain⟨rfl,rfl⟩:=zG l (l2.trans t2.length) e2;cases rx;cases ry;obtain⟨n1,us,rv,dd1⟩:=I.dkz h1 l1;obtain⟨n2,us',rv',dd2⟩:=I.dkz h2 l2;have pl:=D.p.length_eq;have nd:ks.Nodup:=D.p.symm.nodup (vU hS i);have lu:=rv.length;have lu':=rv'.length;refine cmpP true n1 n2 dd1 dd2 (by rw[qx,qx];omega) (by omega) (fun j key v hj=>?_) ⟨.bl false,H,I,rfl,q⟩;obtain⟨hu1,y,hy,rfl⟩:=zip_get hj;rw[ig]at hy;obtain⟨f,hf,rfl⟩:=kc.mp hy;obtain⟨d1,e1',g1,g2,g3⟩:=D.g _ _ hf;obtain⟨j',z1,z2⟩:=tK g2;obtain⟨x1,w1,w2⟩:=Dts.get t1 g1;obtain⟨x2,w3,w4⟩:=Dts.get t2 z2;obtain⟨u1,v1,v2⟩:=rv.get w1;obtain⟨u2,v3,v4⟩:=rv'.get w3;rw[hu1]at v1;cases v1;exact⟨u2,by unfold vo;rw[aDn nd z1 v3];rfl,I.eqR hS g3 w2 w4 v2 v4 hu'⟩
end
end L2
namespace K19
open PySem L2
theorem cZ : 0<=ψ:=by decide
theorem iU : 1<=ψ:=by decide
theorem xD : 2<=ψ:=by decide
theorem lZ : 3<=ψ:=by decide
theorem szL4 : 4<=ψ:=by decide
theorem szL5 : 5<=ψ:=by decide
def top (i : Nat) : Stmt := PySem.Challenge.pw_roomslaid_k19_copies_share_nothing.main.body.getD i (.Pass ⟨0,0,0,0⟩)
def inClass:Stmt->Nat->Stmt
 |.ClassDef _ _ _ body _ _ _ _ _ _ _,j=>body.getD j (.Pass ⟨0,0,0,0⟩)
 |s,_=>s
theorem xF{c A B:Prop}[Decidable c](hc:c)(h:A):if c then A else B:=by rw[if_pos hc];exact h
theorem vE{c A B:Prop}[Decidable c](hc:¬ c)(h:B):if c then A else B:=by rw[if_neg hc];exact h
structure Blt (mg:Str->Option Value):Prop where
 range:mg "range" = none
 len:mg "len" = none
 isinstance:mg "isinstance" = none
 int:mg "int" = none
 bool:mg "bool" = none
 list:mg "list" = none
 all:mg "all" = none
 max:mg "max" = none
 min:mg "min" = none
 reversed:mg "reversed" = none
 tuple:mg "tuple" = none
 divmod:mg "divmod" = none
 str:mg "str" = none
 sum:mg "sum" = none
 zip:mg "zip" = none
 enumerate:mg "enumerate" = none
 dict:mg "dict" = none
 repr:mg "repr" = none
 sorted:mg "sorted" = none
structure Df (K:Ξ) (mg:Str->Option Value) (x:Str) (f:Addr) (fd:uo) (ps:List Str):Prop where
 m:mg x=some (.ref f)
 k:keepIn K (.ref f)=true
 b:Binds K fd ps []
def St3 (H:Hp) (p:Addr):Prop:=∃a b c:Int,H p=some (.lst [.int a,.int b,.int c])
def Drawn (p:Addr) (H H':Hp):Prop:=St3 H' p/\∀b o,b≠p->H b=some o->H' b=some o
theorem Drawn.trans(a:Drawn p H H1)(b:Drawn p H1 H2):Drawn p H H2:=⟨b.1,fun c o n h=>b.2 c o n (a.2 c o n h)⟩
theorem Drawn.refl(h:St3 H p):Drawn p H H:=⟨h,fun _ _ _ q=>q⟩
theorem Drawn.new{H1:Hp}(a:Drawn p H H1)(hl:H1 l=none):Drawn p H (upd H1 l o):=by
 obtain⟨⟨x,y,z,e⟩,h⟩:=a;refine⟨⟨x,y,z,by rw[jT (jN e hl)];exact e⟩,fun b u n q=>?_⟩;have:=h b u n q;rw[jT (jN this hl)];exact this
theorem Drawn.same{H:Hp}(a:Drawn p H H')(hp:H p=none):jJ H H':=fun b o h=>a.2 b o (jN h hp) h
theorem vQ{H:Hp}(h:H p=none)(o:HO):jJ H (upd H p o):=fun b u q=>by rw[jT (jN q h)];exact q
theorem aJw(ns:List Int){i:Int}(h0 : 0<=i)(h1:i<ns.length):∃v:Int,atI (ns.map V.int) i=some (.int v):=by
 have hk:i.toNat<ns.length:=by omega
 have e:i=((i.toNat:Nat):Int):=by omega
 have q:atI (ns.map V.int) ((i.toNat:Nat):Int)=some (.int ns[i.toNat]):=qR (by rw[ig,ζ hk] <;> rfl);rw[←e]at q;exact⟨_,q⟩
theorem small{n:Nat}(h:n<=1000):n<=ψ:=ql (kI h)
def aJl (K:Ξ):Sp:=fun vs H Q _=>∃(a:Addr) (ns:List Int) (k:Int),vs=[.ref a,.int k]/\SqL K H a (ns.map V.int)/\0<=k/\k<64/\∀v:Int,Q (.int v) H
def aFo (K:Ξ):Sp:=fun vs H Q _=>∃(a:Addr) (ns:List Int),vs=[.ref a]/\SqL K H a (ns.map V.int)/\ns.length<=63/\∀H',Q (.bl true) H'
theorem jJ.tup{K:Ξ}{H H':Hp}{a:Addr}{xs:List V}(e:jJ H H')(h:SqT K H a xs):SqT K H' a xs:=by
 rcases h with (h|⟨o,h⟩)|h
 ·exact .inl (.inl (e _ _ h))
 ·exact .inl (.inr ⟨o,e _ _ h⟩)
 ·exact .inr h
theorem Drawn.tup{K:Ξ}{p:Addr}{H H':Hp}{a:Addr}{xs:List V}(hs:St3 H p)(e:Drawn p H H')(h:SqT K H a xs):SqT K H' a xs:=by
 obtain⟨x,y,z,hp⟩:=hs;rcases h with (h|⟨o,h⟩)|h
 ·exact .inl (.inl (e.2 _ _ (gW h hp (by intro z;cases z)) h))
 ·exact .inl (.inr ⟨o,e.2 _ _ (gW h hp (by intro z;cases z)) h⟩)
 ·exact .inr h
structure rA (K:Ξ) (mg:Str->Option Value) (x:Str) (C fI:Addr) (as:List Str):Prop where
 m:mg x=some (.ref C)
 cl:Cls K C
 ma:Mk K C fI
 na:∀a∈as,yZ K C a
structure DfM (K:Ξ) (C:Addr) (m:Str) (f:Addr) (fd:uo) (ps:List Str):Prop where
 me:Meth K C m f
 b:Binds K fd ps []
structure DfI (K:Ξ) (fd:uo) (ps:List Str):Prop where
 b:Binds K fd ps []
structure TX (K:Ξ) (mg:Str->Option Value) (x:Str) (C R fI:Addr) (as:List Str):Prop where
 m:mg x=some (.ref C)
 c:ExCl K C R fI
 x:XCls K C (.ref R::VB)
 n:∀a∈as,ud K (.ref C) a=some none
def Cal (P:mf) (w:oo) (K:Ξ) (mg:Str->Option Value) (base:mv) (CX:CXT) (k:Nat) (x:Str) (sp:Sp):Prop:=∃f fd ps,Df K mg x f fd ps/\kH P w K mg base CX k f fd ps sp
def zY (P:mf) (w:oo) (K:Ξ) (mg:Str->Option Value) (base:mv) (CX:CXT) (k:Nat) (C:Addr) (x:Str) (sp:Sp):Prop:=∃f fd ps,DfM K C x f fd ps/\kH P w K mg base CX k f fd ps sp
def yO (P:mf) (w:oo) (K:Ξ) (mg:Str->Option Value) (base:mv) (CX:CXT) (k:Nat) (f:Addr) (sp:Sp):Prop:=∃fd ps,DfI K fd ps/\kH P w K mg base CX k f fd ps sp
section
variable {P:mf}{w:oo}{K:Ξ}{mg:Str->Option Value}{base:mv}{CX:CXT}{j k:Nat}{x:Str}{sp:Sp}{f C:Addr}{fd:uo}{ps:List Str}
variable {f:Addr}{fd:uo}
theorem Cal.of(D:Df K mg x f fd ps)(F:kH P w K mg base CX k f fd ps sp):Cal P w K mg base CX k x sp:=⟨_,_,_,D,F⟩
theorem zY.of(D:DfM K C x f fd ps)(F:kH P w K mg base CX k f fd ps sp):zY P w K mg base CX k C x sp:=⟨_,_,_,D,F⟩
theorem yO.of(D:DfI K fd ps)(F:kH P w K mg base CX k f fd ps sp):yO P w K mg base CX k f sp:=⟨_,_,D,F⟩
theorem Cal.o(F:Cal P w K mg base CX j x sp)(h:j<=k:=by omega):Cal P w K mg base CX k x sp:=let ⟨_,_,_,D,G⟩:=F; ⟨_,_,_,D,G.mono h⟩
theorem zY.o(F:zY P w K mg base CX j C x sp)(h:j<=k:=by omega):zY P w K mg base CX k C x sp:=let ⟨_,_,_,D,G⟩:=F; ⟨_,_,_,D,G.mono h⟩
theorem yO.o(F:yO P w K mg base CX j f sp)(h:j<=k:=by omega):yO P w K mg base CX k f sp:=let ⟨_,_,D,G⟩:=F; ⟨_,_,D,G.mono h⟩
end
section
variable {X:Cx}{CX:CXT}{E:XK}{k:Nat}{x:Str}{sp:Sp}{C fI R:Addr}{as:List Str}{S:St->Prop}{e o:Expr}{es:List Expr}{t:TA}{ta:TE}{p pos:Pos}
theorem aPr(F:Cal X.prog X.w X.K X.mg X.base CX k x sp)(hr:xH k X.A)(hg:Gl X x)(hx:zT CX X E)(ha:PA X (e::es) t)(hdb:(x == ("__debug__" : Str))=false:=by decide)(he:jl (e::es) X.env=(false,eval e X.env)::jl es X.env:=by rfl)(hpl:(wl pos (jl es X.env)).any (·.1)=false:=by rfl):
  PE X (.Call (.Name x p) (e::es) [] pos) (aKd sp [] E t):=let ⟨_,_,_,D,G⟩:=F;aNc G hr hg D.m D.k D.b .nil hx ha hdb he hpl
theorem zD(he:PE X o ta)(c:Cls X.K C)(F:zY X.prog X.w X.K X.mg X.base CX k C m sp)(hr:xH k X.A)(hx:zT CX X E)
  (ht:eval (.Call (.Attribute o m apos) [] [] pos) X.env=(do
   let ov ←eval o X.env
   standAt apos.atName
   let (f,first) ←holding [ov] (getMethod ov m pl)
   callWith pos f first (wl pos (jl [] X.env)) (backToKw pos (keywordEach [] X.env))):=by rfl):
  PE X (.Call (.Attribute o m apos) [] [] pos) (aPa C m sp [] E ta aJp):=let ⟨_,_,_,D,G⟩:=F;aJy he c D.me G hr D.b .nil hx ht
theorem xW(T:rA X.K X.mg x C fI as)(F:yO X.prog X.w X.K X.mg X.base CX k fI sp)(hr:xH (k+1) X.A)(hg:Gl X x)(hx:zT CX X E)
  (ha:PA X (e::es) t)(hdb:(x == ("__debug__" : Str))=false:=by decide)(he:jl (e::es) X.env=(false,eval e X.env)::jl es X.env:=by rfl)(hpl:(wl pos (jl es X.env)).any (·.1)=false:=by rfl):
  PE X (.Call (.Name x p) (e::es) [] pos) (aNx C sp [] E t):=let ⟨_,_,D,G⟩:=F;aNg T.ma G hr hg T.m D.b .nil hx ha hdb he hpl
end
section
variable {X:Cx}{k:Nat}{x:Str}{sp:Sp}{C fI:Addr}{as:List Str}{e o a b:Expr}{es:List Expr}{t:TA}{te ta tb:TE}{p p' pos:Pos}{r:R2}{op:CmpOp}{i:Nat}
theorem jF(F:Cal X.prog X.w X.K X.mg X.base CX0 k x sp)(hr:xH k X.A)(ha:PA X (e::es) t)(hg:Gl X x:=by rfl)(hdb:(x == ("__debug__" : Str))=false:=by decide)(he:jl (e::es) X.env=(false,eval e X.env)::jl es X.env:=by rfl)(hpl:(wl pos (jl es X.env)).any (·.1)=false:=by rfl):
  PE X (.Call (.Name x p) (e::es) [] pos) (aKd sp [] E0 t):=aPr F hr hg qT ha hdb he hpl
theorem jK(hr:IxR X r)(ha:PE X a ta)(hb:PE X b tb)(hs:uZ b:=by exact fun _ _=>rfl):PE X (.Subscript a b pos) (tOp r ta tb):=aOy hr ha hb hs
theorem kF(ho:OpR X (mj op) r)(ha:PE X a ta)(hb:PE X b tb)(h:op≠.In:=by decide)(h2:op≠.NotIn:=by decide):PT X (.Compare a [op] [b] pos) (aJt (tOp r ta tb)):=mP ho ha hb (vW _ h h2)
theorem jR(i:Nat)(hN:X.N.Nodup)(he:PE X e te)(hi:X.N[i]?=some x:=by rfl)(hx:Loc X.env.scope x:=by first|exact Or.inl rfl|exact Or.inr rfl)(hs:swapsWith e (some (.Name x p')) pos.line X.env=pure false:=by rfl)(hf:X.fn x=true\/X.env.scope.names.lookup x=some .local:=by first|exact .inl rfl|exact .inr rfl|assumption):
  PS X (.Assign [.Name x p'] e pos) (tAsg te (zA i)):=aLe hN hi hx he hs hf
theorem kS(i:Nat)(hN:X.N.Nodup)(hi:X.N[i]?=some x:=by rfl)(hx:Loc X.env.scope x:=by exact Or.inl rfl)(hf:X.fn x=true\/X.env.scope.names.lookup x=some .local:=by first|exact .inl rfl|exact .inr rfl|assumption):PG X (.Name x pos) (zA i):=mU hN hi hx hf
theorem qC{ys:List Str}(hN:X.N=x::ys)(hx:Loc X.env.scope x:=by exact Or.inl rfl)(hd:(x::ys).Nodup:=by ac_rfl)(hf:X.fn x=true\/X.env.scope.names.lookup x=some .local:=by first|exact .inl rfl|exact .inr rfl|assumption):PG X (.Name x pos) (zA 0):=mU (i:=0) (hN ▸ hd) (by rw[hN];rfl) hx hf
theorem aM{y:Str}{ys:List Str}(hN:X.N=y::x::ys)(hx:Loc X.env.scope x:=by exact Or.inl rfl)(hd:(y::x::ys).Nodup:=by ac_rfl)(hf:X.fn x=true\/X.env.scope.names.lookup x=some .local:=by first|exact .inl rfl|exact .inr rfl|assumption):PG X (.Name x pos) (zA 1):=mU (i:=1) (hN ▸ hd) (by rw[hN];rfl) hx hf
theorem jQ{c A B:Prop}[Decidable c](h:B)(hc:¬ c:=by decide):if c then A else B:=vE hc h
theorem kZ{c A B:Prop}[Decidable c](h:A)(hc:c:=by decide):if c then A else B:=xF hc h
theorem rA.nd{K:Ξ}{m:Str}(T:rA K mg x C fI as)(h:m∈as:=by decide):yZ K C m:=T.na _ h
end
def aKk:List Str:=["shape","num","row","pick","tag","room","things","part","tags","put","take","many","look","which","store","choose","copy","each","span","if","else","end","out"]
abbrev zP:Str:="abcdefghijklmnopqrstuvwxyz"
abbrev bD:Str:="0123456789"
structure Cst (K:Ξ) (mg:Str->Option Value) (t1 t2 t3 t4 t5 t6 t7 t8 t9 t10 t11 t12 t13:Tok) (ts:Addr):Prop where
 SMALL_LETTERS:mg "SMALL_LETTERS" = some (.str "abcdefghijklmnopqrstuvwxyz" t1)
 FIGURES:mg "FIGURES" = some (.str "0123456789" t2)
 MOST_LETTERS:mg "MOST_LETTERS" = some (.int 6 t3)
 MOST_FIGURES:mg "MOST_FIGURES" = some (.int 10 t4)
 MOST_SHAPES:mg "MOST_SHAPES" = some (.int 8 t5)
 MOST_FIELDS:mg "MOST_FIELDS" = some (.int 6 t6)
 MOST_CELLS:mg "MOST_CELLS" = some (.int 64 t7)
 MOST_UNITS:mg "MOST_UNITS" = some (.int 40 t8)
 MOST_DEPTH:mg "MOST_DEPTH" = some (.int 4 t9)
 MOST_WIDTH:mg "MOST_WIDTH" = some (.int 4 t10)
 MOST_COUNT:mg "MOST_COUNT" = some (.int 6 t11)
 LEAST_PICKED:mg "LEAST_PICKED" = some (.int 2 t12)
 MOST_PICKED:mg "MOST_PICKED" = some (.int 4 t13)
 OWN_WORDS:mg "OWN_WORDS" = some (.ref ts)
 words:∀H,SqT K H ts (aKk.map V.str)
def tyA (K:Ξ) (x:V) (H:Hp) (t:String):Prop:=tyN K x H t\/(t = "dict"/\∃p kvs,x=.ref p/\H p=some (.dK kvs))
theorem jJ.tyA{K:Ξ}(g:jJ H H')(h:tyA K x H t):tyA K x H' t:=by
 rcases h with h|⟨e,p,kvs,ex,h⟩
 ·left;cases x with
  |ref p =>
   rcases h with⟨e,xs,h⟩|⟨e,xs,h⟩
   ·exact .inl ⟨e,xs,g.seq h⟩
   ·exact .inr ⟨e,xs,jJ.tup g h⟩
  |_=>exact h
 ·exact .inr ⟨e,p,kvs,ex,g _ _ h⟩
def within (x:Str) (most:Int):Bool:=decide (1<=(x.length:Int))&&decide ((x.length:Int)<=most)
def aAb (x signs:Str):Bool:=x.cps.toList.all fun c=>decide (c∈signs.cps.toList)
def qB (x:Str):Bool:=within x 6&&aAb x zP&&!decide (x∈aKk)
def wS (x:Str):Bool:=decide (x.cps.toList[0]?=some 48)&&decide (1<(x.length:Int))
def uL (x:Str):Option Int:=if (within x 10&&aAb x bD&&!wS x)=true then some ((PySem.NumText.digitsVal x.cps.toList:Nat):Int) else none
def optV:Option Int->V
 |none=>.non
 |some n=>.int n
def cM (o:Option Int) (lo hi:Int):Option Int:=match o with
 |none=>none
 |some n=>if lo<=n/\n<=hi then some n else none
def oX (K:Ξ):Sp:=fun vs H Q _=>∃(x:V) (signs:Str) (most:Int),vs=[x,.str signs,.int most] ∧
 ((∃z:Str,x=.str z/\z.length<=1000/\∀H',jJ H H'->Q (.bl (within z most&&aAb z signs)) H')\/(∃t,tyA K x H t/\t ≠ "str"/\Q (.bl false) H))
inductive pG (K:Ξ) (vs:List V) (H:Hp) (Q:VK):Prop|mk:∀x:V,vs=[x]->(((∃z:Str,x=.str z/\z.length<=1000/\∀H',jJ H H'->Q (.bl (qB z)) H')\/(∃t,tyA K x H t/\t ≠ "str"/\∀H',jJ H H'->Q (.bl false) H')))->pG K vs H Q
def bA (K:Ξ):Sp:=fun vs H Q _=>pG K vs H Q
inductive iC (K:Ξ) (vs:List V) (H:Hp) (Q:VK):Prop|mk:∀(x:V) (lo hi:Int),vs=[x,.int lo,.int hi]->(((∃z:Str,x=.str z/\z.length<=1000/\∀H',jJ H H'->Q (optV (cM (uL z) lo hi)) H')\/(∃t,tyA K x H t/\t ≠ "str"/\∀H',jJ H H'->Q .non H')))->iC K vs H Q
def fC (K:Ξ):Sp:=fun vs H Q _=>iC K vs H Q
theorem hJ(x:Str)(ys:List Str):inV (.str x) (ys.map V.str)=decide (x∈ys):=by
 rw[qv];simp only[inV,List.any_map,yj,Function.comp,decide_eq_true_eq,eqV,beq_iff_eq];constructor
 ·rintro ⟨y,hy,rfl⟩;exact hy
 ·intro h;exact⟨x,h,rfl⟩
theorem eG(ys:List Str):(ys.map V.str).all iD=true:=by
 rw[jq];intro x hx;obtain⟨n,_,rfl⟩:=iu.mp hx;rfl
theorem tV:zP.cps.toList=List.range' 97 26:=by ac_rfl
theorem tR:bD.cps.toList=List.range' 48 10:=by ac_rfl
theorem dQ(c:Nat):c∈zP.cps.toList ↔ 97<=c/\c<=122:=by
 rw[tV,List.mem_range'_1];omega
theorem wW(c:Nat):c∈bD.cps.toList ↔ 48<=c/\c<=57:=by
 rw[tR,List.mem_range'_1];omega
theorem aIr(f:Nat->Bool)(l:List Nat)(i:Nat)(h:l[i]?=some c):((l.take (i+1)).map f)=(l.take i).map f++[f c]:=by
 rw[iw,h,χ] <;> rfl
theorem all_map(f:Nat->Bool)(l:List Nat):(l.map f).all id=l.all f:=by
 rw[List.all_map];rfl
theorem isa3{t:String}(h:t ≠ "str"):isa t "str" = false:=by
 unfold isa;simp[h]
theorem is_0{c:Nat}: decide (V.str ⟨#[c]⟩=V.str (η "0"))=decide (c=48):=by
 have e:(η "0")=⟨#[48]⟩:=by ac_rfl
 rw[e,qv,decide_eq_true_eq,decide_eq_true_eq];constructor
 ·intro h;injection h with h;injection h with h;simpa using h
 ·rintro rfl;rfl
theorem jJ.st3(g:jJ H H')(h:St3 H p):St3 H' p:=by
 obtain⟨x,y,z,e⟩:=h;exact⟨x,y,z,g _ _ e⟩
theorem Drawn.keep(d:Drawn p H H1)(g:jJ H1 H2):Drawn p H H2:=⟨jJ.st3 g d.1,fun b o n e=>g _ _ (d.2 b o n e)⟩
theorem len_list(z:Str):z.cps.toList.length=z.length:=mz
theorem eA(p:Str):Str.empty++p=p:=Str.ext' (by rw[tw];simp[Str.empty])
theorem aJu{a:Nat}(h:a<=5000):a<=ψ:=by rw[jf];omega
def dE:Sp:=fun vs H Q _=>∃(p:Str) (x:V) (y:Str),vs=[.str p,x]/\aBf x=some y/\p.length<=1000/\y.length<=1000/\Q (.str (pj p y)) H
inductive aAd (vs:List V) (H:Hp) (Q:VK):Prop|mk:∀(p:Addr) (m:Int),vs=[.ref p,.int m]->0<m->m<1099511627776->St3 H p->(∀(v:Nat) (H':Hp),(v:Int)<m->Drawn p H H'->Q (.int v) H')->aAd vs H Q
def cC:Sp:=fun vs H Q _=>aAd vs H Q
def aOc:Sp:=fun vs H Q _=>∃c:Int,vs=[.int c]/\∀(p:Addr) (H':Hp),H p=none->Drawn p H H'->Q (.ref p) H'
structure Wds (K:Ξ) (H:Hp) (a:Addr) (ws:List Str):Prop where
 l:SqL K H a (ws.map V.str)
 s:∀w∈ws,w.length<=1000
 n:ws.length<=1000
theorem Wds.same{K:Ξ}(h:Wds K H a ws)(g:jJ H H'):Wds K H' a ws:=⟨g.seq h.l,h.s,h.n⟩
def aBb:List Str->Bool
 |[x,y]=>decide (x=η "shape")&&qB y
 |_=>false
def aOa (K:Ξ):Sp:=fun vs H Q _=>∃(a:Addr) (ws:List Str),vs=[.ref a]/\Wds K H a ws/\∀H',jJ H H'->Q (.bl (aBb ws)) H'
inductive aIf (C:Addr) (n:Str) (vs:List V) (H:Hp) (Q:VK):Prop|mk:∀(a dx:Addr) (v:V) (H1:Hp),vs=[.ref a,v]->H a=some (.ins C dx [])->jJ H1 H->H1 a=none->(∀H',jJ H1 H'->H' a=some (.ins C dx [(n,v)])->Q .non H')->aIf C n vs H Q
def oY (C:Addr) (n:Str):Sp:=fun vs H Q _=>aIf C n vs H Q
def spI2 (C:Addr) (n m:Str):Sp:=fun vs H Q _=>∃(a dx:Addr) (v u:V) (H1:Hp),vs=[.ref a,v,u]/\H a=some (.ins C dx [])/\jJ H1 H/\H1 a=none/\∀H',jJ H1 H'->H' a=some (.ins C dx [(n,v),(m,u)])->Q .non H'
def spIT (K:Ξ) (C:Addr) (n:Str):Sp:=fun vs H Q _=>∃(a dx l:Addr) (ys:List V) (H1:Hp),vs=[.ref a,.ref l]/\H a=some (.ins C dx [])/\jJ H1 H/\H1 a=none/\SqL K H1 l ys/\∀t H',jJ H1 H'->H' a=some (.ins C dx [(n,.ref t)])->SqT K H' t ys->Q .non H'
def aKn (c:Cl5) (K:Ξ):Sp:=fun vs H Q _=>∃(a dx fl:Addr) (nm:Str) (ps:List Addr) (fs:List (Str×Kd)) (sa:List Addr) (H1:Hp),vs=[.ref a,.str nm,.ref fl]/\H a=some (.ins c.shape dx [])/\jJ H1 H/\H1 a=none/\(SqL K H1 fl (ps.map V.ref)\/SqT K H1 fl (ps.map V.ref))/\FO c K H1 sa ps fs/\fs.length<=100 ∧
 ∀t ps' H',jJ H1 H'->H' a=some (.ins c.shape dx [("name",.str nm),("fields",.ref t)])->SqT K H' t (ps'.map V.ref)->FO c K H' sa ps' fs->Q .non H'
def spGr (c:Cl5) (K:Ξ) (r:Nat):Sp:=fun vs H Q _=>∃(a:Addr) (is:List Nat) (sa:List Addr) (S:List Shp),vs=[.ref a]/\(Kd.pick is).Rk r/\(Kd.pick is).Fit S.length/\KO c K H sa a (.pick is)/\SW c K H sa S/\Good S/\∀H',jJ H H'->Q (.int ((xA (is.map fun i=>(tabs S).sz.getD i 0):Nat):Int)) H'
def aOu (c:Cl5) (K:Ξ) (r:Nat):Sp:=fun vs H Q _=>∃(a:Addr) (i:Nat) (sa:List Addr) (S:List Shp),vs=[.ref a]/\sa[i]?=some a/\2*i+2<=r/\8*r<=200/\SW c K H sa S/\Good S/\∀l H',jJ H H'->H l=none->UL K H' l (un (.nest i) S Str.empty)->Q (.ref l) H'
theorem FO.insD{K:Ξ}{H:Hp}{x:V}(h:FO c K H sa ps fs)(ha:H a=some (.ins C dx [("name",x)])):FO c K (upd H a o) sa ps fs:=by
 have n:∀{b C' dx' fs'},H b=some (.ins C' dx' fs')->fs'.head?.map (·.1)≠some ("name" : Str)->upd H a o b=some (.ins C' dx' fs'):=fun hb z=>by
  rw[jT (fun e=>z (by rw[e,ha]at hb;cases hb;rfl))];exact hb
 have t:∀{b xs},SqT K H b xs->SqT K (upd H a o) b xs:=fun h=>by
  rcases h with (h|⟨o',h⟩)|h
  ·exact .inl (.inl (by rw[jT (gW h ha (by intro z;cases z))];exact h))
  ·exact .inl (.inr ⟨o',by rw[jT (gW h ha (by intro z;cases z))];exact h⟩)
  ·exact .inr h
 have kk:∀{b kd},KO c K H sa b kd->KO c K (upd H a o) sa b kd:=fun h=>by
  induction h with
  |num h=>exact .num (n h (by show some (η "width")≠some (η "name");decide))
  |nest e h=>exact .nest e (n h (by show some (η "shape")≠some (η "name");decide))
  |many h _ ih=>exact .many (n h (by show some (η "count")≠some (η "name");decide)) ih
  |pick h h2 l e=>exact .pick (n h (by show some (η "shapes")≠some (η "name");decide)) (t h2) l e
 induction h with
 |nil=>exact .nil
 |cons h1 h2 _ ih=>exact .cons (t h1) (kk h2) ih
def NOk (nm:Nat->Str) (n:Nat):Prop:=∀i,i<n->qB (nm i)=true
theorem vR(h:qB x=true): 1<=x.length/\x.length<=6:=by
 unfold qB within at h;simp only[ke,decide_eq_true_eq]at h;omega
theorem bL{y:Str}(h:qB x=true)(hy:y∈aKk):x≠y:=by
 rintro rfl;unfold qB at h;simp only[ke,Bool.not_eq_true',decide_eq_false_iff_not]at h;exact h.2 hy
theorem dig{w:Nat}(h:w<=9):uL (η (toString (w:Int)))=some (w:Int)/\(η (toString (w:Int))).length=1/\qB (η (toString (w:Int)))=false/\PySem.intText? (η (toString (w:Int)))=some (w:Int):=by
 have:∀m:Fin 10,uL (η (toString ((m.val:Nat):Int)))=some ((m.val:Nat):Int)/\(η (toString ((m.val:Nat):Int))).length=1/\qB (η (toString ((m.val:Nat):Int)))=false/\PySem.intText? (η (toString ((m.val:Nat):Int)))=some ((m.val:Nat):Int):=by ac_rfl
 exact this ⟨w,by omega⟩
theorem nY:qB (η "num")=false/\qB (η "row")=false/\qB (η "pick")=false:=by ac_rfl
def Kd.named (nm:Nat->Str):Kd->List Str
 |.num _=>[]
 |.nest i=>[nm i]
 |.many _ k=>Kd.named nm k
 |.pick is=>is.map nm
theorem tF(hn:NOk nm n):∀{k:Kd},k.Fit n->(k.words nm).filter qB=Kd.named nm k:=by
 have hnum:∀w,w<=9->((Kd.num w).words nm).filter qB=[]:=fun w hw=>by
  show[η "num",η (toString (w:Int))].filter qB=[];rw[pz (by rw[nY.1];decide),pz (by rw[(dig hw).2.2.1];decide)];rfl
 have hnest:∀i,i<n->((Kd.nest i).words nm).filter qB=[nm i]:=fun i hi=>by
  show[nm i].filter qB=_;rw[List.filter_cons_of_pos (hn i hi)];rfl
 intro k hk;cases k with
 |num w=>exact hnum w (by have:=hk.2;omega)
 |nest i=>exact hnest i hk
 |many m k =>
  show(η "row" :: η (toString (m:Int))::k.words nm).filter qB=Kd.named nm k;rw[pz (by rw[nY.2.1];decide),pz (by rw[(dig (by have:=hk.2.1;omega)).2.2.1];decide)];rcases hk.2.2 with⟨w,rfl,hw⟩|⟨i,rfl,hi⟩
  ·exact hnum w (by omega)
  ·exact hnest i hi
 |pick is =>
  show(η "pick" :: is.map nm).filter qB=is.map nm;rw[pz (by rw[nY.2.2];decide),List.filter_eq_self.mpr];intro x hx;obtain⟨i,hi,rfl⟩:=iu.mp hx;exact hn i (hk.2.2.2 i hi)
theorem eI{nm:Nat->Str}{n:Nat}(hn:NOk nm n):∀{k:Kd},k.Fit n->(∀w∈k.words nm,w.length<=6)/\(k.words nm).length<=5:=by
 have hnum:∀w,w<=9->∀x∈(Kd.num w).words nm,x.length<=6:=fun w hw x hx=>by
  simp only[Kd.words,π,jv,or_false]at hx;rcases hx with rfl|rfl
  ·decide
  ·rw[(dig hw).2.1];decide
 have hnest:∀i,i<n->∀x∈(Kd.nest i).words nm,x.length<=6:=fun i hi x hx=>by
  rw[ο.mp (show x∈[nm i] from hx)];exact(vR (hn i hi)).2
 intro k hk;cases k with
 |num w=>exact⟨hnum w (by have:=hk.2;omega),by show 2<=5;decide⟩
 |nest i=>exact⟨hnest i hk,by show 1<=5;decide⟩
 |many m k =>
  have:(∀x∈k.words nm,x.length<=6)/\(k.words nm).length<=2:=by
   rcases hk.2.2 with⟨w,rfl,hw⟩|⟨i,rfl,hi⟩
   ·exact⟨hnum w (by omega),by show 2<=2;decide⟩
   ·exact⟨hnest i hi,by show 1<=2;decide⟩
  refine⟨fun x hx=>?_,by show(k.words nm).length+1+1<=5;omega⟩;simp only[Kd.words,π]at hx;rcases hx with rfl|rfl|hx
  ·decide
  ·rw[(dig (by have:=hk.2.1;omega)).2.1];decide
  ·exact this.1 x hx
 |pick is =>
  refine⟨fun x hx=>?_,by show(is.map nm).length+1<=5;rw[δ];have:=hk.2.1;omega⟩;simp only[Kd.words,π,iu]at hx;rcases hx with rfl|⟨i,hi,rfl⟩
  ·decide
  ·exact(vR (hn i (hk.2.2.2 i hi))).2
def spSg (K:Ξ):Sp:=fun vs H Q _=>∃(a:Addr) (ws:List Str),vs=[.ref a]/\SqL K H a (ws.map V.str)/\((∃w:Nat,1<=w/\w<=4/\ws=[η "num",η (toString (w:Int))])\/∃x,qB x=true/\ws=[x])/\∀H',jJ H H'->Q (.bl true) H'
def spKd (K:Ξ):Sp:=fun vs H Q _=>∃(a:Addr) (nm:Nat->Str) (n:Nat) (kd:Kd),vs=[.ref a]/\SqL K H a ((kd.words nm).map V.str)/\kd.Fit n/\NOk nm n/\∀H',jJ H H'->Q (.bl true) H'
def spFl (K:Ξ):Sp:=fun vs H Q _=>∃(a:Addr) (nm:Nat->Str) (n:Nat) (kd:Kd) (f:Str),vs=[.ref a]/\SqL K H a ((f::kd.words nm).map V.str)/\qB f=true/\kd.Fit n/\NOk nm n/\∀H',jJ H H'->Q (.bl true) H'
def aEh (K:Ξ):Sp:=fun vs H Q _=>∃(a:Addr) (nm:Nat->Str) (n:Nat) (kd:Kd) (f:Str),vs=[.ref a]/\SqL K H a ((f::kd.words nm).map V.str)/\kd.Fit n/\NOk nm n/\∀l H',jJ H H'->H l=none->H' l=some (.lst ((Kd.named nm kd).map V.str))->Q (.ref l) H'
theorem sN{f:Str->Bool}{l:List Str}{i:Nat}(h:l[i]?=some a):(l.take (i+1)).filter f=(l.take i).filter f++(if f a=true then [a] else []):=by
 rw[iw,h,List.filter_append]
 congr 1
 show[a].filter f=_
 by_cases z:f a=true
 ·rw[if_pos z,List.filter_cons_of_pos z];rfl
 ·rw[if_neg z,pz z];rfl
theorem xM{ns:List Str}{i:Nat}(h:(ns.map V.str)[i]?=some x):∃c,ns[i]?=some c/\x=.str c:=by
 rw[ig]at h;cases e:ns[i]? with
 |none=>rw[e]at h;cases h
 |some c=>rw[e]at h;cases h;exact⟨c,rfl,rfl⟩
def spLJ:Sp:=fun vs H Q _=>∃(p y:Str),vs=[.str p,.str y]/\p.length<=1000/\y.length<=1000/\1<=y.length/\Q (.str (pj p y)) H
structure Wel (S:List Shp):Prop where
 good:Good S
 nm:∀s∈S,qB s.1=true
 fnm:∀s∈S,∀f∈s.2,qB f.1=true
 nd:(S.map (·.1)).Nodup
 fnd:∀s∈S,(s.2.map (·.1)).Nodup
 len:S.length<=4
 bd:∀(i:Nat) (s:Shp),S[i]?=some s->(tabs S).sz.getD i 0<=64/\(un (.nest i) S Str.empty).length<=40/\(tabs S).dp.getD i 0<=4/\s.2.length<=6
theorem aZ{α : Type}{S:List α}{x y : α}{i:Nat}(h:(S++[x])[i]?=some y):S[i]?=some y\/(i=S.length/\y=x):=by
 by_cases hi:i<S.length
 ·rw[ir hi]at h;exact .inl h
 ·rw[ie (by omega)]at h;have:i-S.length<1:=(ε.mp h).1;have e:i=S.length:=by omega
  subst e;rw[mi]at h;cases h;exact .inr ⟨rfl,rfl⟩
theorem Good.snoc{s:Shp}(h:Good S1)(h1:s.2≠[])(h2:s.2.length<=6)(h3:∀f∈s.2,f.2.Fit S1.length/\1<=f.1.length/\f.1.length<=6)(h4:(s.2.map fun f=>f.2.size (tabs S1).sz).sum<=1000):Good (S1++[s]):=by
 refine⟨fun i t e=>?_,fun i t e=>?_,fun i t e=>?_,fun i=>?_⟩
 ·rcases aZ e with e|⟨_,rfl⟩
  ·exact h.ne i t e
  ·exact h1
 ·rcases aZ e with e|⟨_,rfl⟩
  ·exact h.few i t e
  ·exact h2
 ·rcases aZ e with e|⟨rfl,rfl⟩
  ·exact h.fit i t e
  ·exact h3
 ·by_cases hi:i<S1.length
  ·rw[(mL hi).1];exact h.sz i
  ·by_cases e:i=S1.length
   ·subst e;rw[(bJ S1 s []).1];exact h4
   ·have hl:=(bG (S1++[s])).1;rw[θ,mh]at hl;rw[Γ,uc (by omega)];exact io _
theorem Good.pre{S1 S2:List Shp}(h:Good (S1++S2)):Good S1:=by
 refine⟨fun i t e=>h.ne i t ?_,fun i t e=>h.few i t ?_,fun i t e=>h.fit i t ?_,fun i=>?_⟩
 ·rw[ir (ε.mp e).1];exact e
 ·rw[ir (ε.mp e).1];exact e
 ·rw[ir (ε.mp e).1];exact e
 ·by_cases hi:i<S1.length
  ·rw[←(mL (R:=S2) hi).1];exact h.sz i
  ·have hl:=(bG S1).1;rw[Γ,uc (by omega)];exact io _
def aAe (S:List Shp) (i:Nat):Prop:=(tabs S).sz.getD i 0<=64/\(un (.nest i) S Str.empty).length<=40/\(tabs S).dp.getD i 0<=4
theorem Wel.pre{S S1 S2:List Shp}{s:Shp}{f1 f2:List (Str×Kd)}(h:Wel S)(e:S=S1++s::S2)(ef:s.2=f1++f2)(hne:f1≠[]):Good (S1++[(s.1,f1)])/\aAe (S1++[(s.1,f1)]) S1.length/\f1.length<=6:=by
 subst e;have hi:(S1++s::S2)[S1.length]?=some s:=by rw[ie (ν _),mi];rfl
 obtain⟨b1,b2,b3,b4⟩:=h.bd _ _ hi;obtain⟨t1,t2,t3⟩:=bJ S1 s S2;obtain⟨u1,u2,u3⟩:=bJ S1 (s.1,f1) [];rw[ef,θ]at b4;have z1:(f1.map fun f=>f.2.size (tabs S1).sz).sum<=64:=by
  rw[t1,ef,χ,List.sum_append]at b1;omega
 have hfit:=h.good.fit _ _ hi;refine⟨Good.snoc (Good.pre h.good) hne (by show f1.length<=6;omega) (fun f hf=>hfit f (by rw[ef];exact jd _ hf)) (by show(f1.map _).sum<=1000;omega),⟨by rw[u1];exact z1,?_,?_⟩,by omega⟩
 ·have e1:un (.nest S1.length) (S1++[(s.1,f1)]) Str.empty=_:=u3 Str.empty;have e2:un (.nest S1.length) (S1++s::S2) Str.empty=_:=t3 Str.empty;rw[e2,ef,qf,θ]at b2;rw[e1];show(f1.flatMap _).length<=40;omega
 ·rw[u2];rw[t2,ef,χ]at b3;have:xA (f1.map fun f=>f.2.depth (tabs S1).dp)<=xA ((f1.map fun f=>f.2.depth (tabs S1).dp)++(f2.map fun f=>f.2.depth (tabs S1).dp)):=uF fun x hx=>eC (jd _ hx);show 1+xA (f1.map fun f=>f.2.depth (tabs S1).dp)<=4;omega
theorem vM{S:List Shp}{i:Nat}(h:S[i]?=some s):kN S i=s.1:=by
 unfold kN;rw[Γ,h];rfl
theorem aIm{S1 S2:List Shp}{i:Nat}(h:i<S1.length):kN (S1++S2) i=kN S1 i:=by
 have e:S1[i]?=some S1[i]:=ζ h;rw[vM e,vM (by rw[ir h];exact e)]
theorem lR{nm nm':Nat->Str}{n:Nat}(h:∀i,i<n->nm i=nm' i):∀{k:Kd},k.Below n->k.words nm=k.words nm'
 |.num _,_=>rfl
 |.nest i,hk=>by show[nm i]=[nm' i];rw[h i hk]
 |.many m k,hk=>by show _::_::k.words nm=_::_::k.words nm';rw[lR h (k:=k) hk]
 |.pick is,hk=>by
  show _::is.map nm=_::is.map nm';rw[qg fun i hi=>h i (hk i hi)]
theorem aCy{S:List Shp}(h:∀s∈S,qB s.1=true):NOk (kN S) S.length:=fun i hi=>by
 have e:S[i]?=some S[i]:=ζ hi;rw[vM e];exact h _ (ju hi)
theorem aIh{S:List Shp}(h:(S.map (·.1)).Nodup){i j:Nat}(hi:i<S.length)(hj:j<S.length)(e:kN S i=kN S j):i=j:=by
 have ei:S[i]?=some S[i]:=ζ hi;have ej:S[j]?=some S[j]:=ζ hj;rw[vM ei,vM ej]at e;have hp:=qi.mp h;rcases Nat.lt_trichotomy i j with hl|hl|hl
 ·exact absurd (by rw[ym,ym];exact e) (hp i j (by rw[δ];exact hi) (by rw[δ];exact hj) hl)
 ·exact hl
 ·exact absurd (by rw[ym,ym];exact e.symm) (hp j i (by rw[δ];exact hj) (by rw[δ];exact hi) hl)
theorem aAk{S:List Shp}(h:(S.map (·.1)).Nodup):∀{k:Kd},k.Fit S.length->(Kd.named (kN S) k).Nodup/\(Kd.named (kN S) k).length<=4/\∀x∈Kd.named (kN S) k,∃i,i<S.length/\x=kN S i:=by
 have hs:∀{k:Kd},(∃w,k=.num w/\1<=w/\w<=4)\/(∃i,k=.nest i/\i<S.length)->(Kd.named (kN S) k).Nodup/\(Kd.named (kN S) k).length<=4/\∀x∈Kd.named (kN S) k,∃i,i<S.length/\x=kN S i:=by
  rintro k (⟨w,rfl,_⟩|⟨i,rfl,hi⟩)
  ·exact⟨xt,io _,fun x hx=>by cases hx⟩
  ·exact⟨uw _ _,(by show 1<=4;decide),fun x hx=>⟨i,hi,ο.mp hx⟩⟩
 intro k hk;cases k with
 |num w=>exact hs (.inl ⟨w,rfl,hk⟩)
 |nest i=>exact hs (.inr ⟨i,rfl,hk⟩)
 |many m k=>exact hs (k:=k) hk.2.2
 |pick is =>
  refine⟨?_,by show(is.map _).length<=4;rw[δ];exact hk.2.1,fun x hx=>?_⟩
  ·show(is.map (kN S)).Pairwise (·≠·);rw[vy];exact hk.2.2.1.imp_of_mem fun ha hb ne e=>ne (aIh h (hk.2.2.2 _ ha) (hk.2.2.2 _ hb) e)
  ·obtain⟨i,hi,rfl⟩:=iu.mp hx;exact⟨i,hk.2.2.2 i hi,rfl⟩
theorem aNh{ws:List Str}(h:qB n=true):aBb (n::ws)=false:=by
 match ws with
 |[]=>rfl
 |[y] =>
  show(decide (n=η "shape")&&qB y)=false;rw[decide_eq_false (bL h (by decide)),sm]
 |_::_::_=>rfl
def aOh (c:Cl5) (K:Ξ):Sp:=fun vs H Q _=>∃(tl:Addr) (x:V) (nm:Str) (sa:List Addr) (T:List Shp),vs=[.ref tl,x,.str nm]/\H tl=some (.lst (sa.map V.ref))/\SW c K H sa T/\(∀s∈T,s.2≠[])/\nm∉T.map (·.1)/\T.length<8/\∀H',jJ H H'->Q .non H'
def spWh (c:Cl5) (K:Ξ):Sp:=fun vs H Q _=>∃(tl z:Addr) (sa:List Addr) (T:List Shp) (s:Shp),vs=[.ref tl]/\H tl=some (.lst ((sa++[z]).map V.ref))/\SW c K H (sa++[z]) (T++[s])/\(T.map (·.1)).Nodup/\T.length<=100/\∀d H',jJ H H'->H d=none->H' d=some (.dK (dk T sa))->Q (.ref d) H'
def spNF (c:Cl5) (K:Ξ):Sp:=fun vs H Q _=>∃(tl a z:Addr) (x:V) (sa:List Addr) (T:List Shp) (s:Shp) (fn:Str) (kd:Kd),vs=[.ref tl,x,.ref a]/\H tl=some (.lst ((sa++[z]).map V.ref))/\SW c K H (sa++[z]) (T++[s])/\SqL K H a ((fn::kd.words (kN T)).map V.str)/\qB fn=true/\fn∉s.2.map (·.1)/\s.2.length<=100/\kd.Fit T.length/\NOk (kN T) T.length/\(T.map (·.1)).Nodup/\T.length<=100/\∀H',jJ H H'->Q .non H'
inductive aEz (c:Cl5) (K:Ξ) (n:Nat) (vs:List V) (H:Hp) (Q:VK):Prop|mk:∀(a d:Addr) (kd:Kd) (sa:List Addr) (T:List Shp),vs=[.ref a,.ref d]->kd.lv<n->SqL K H a ((kd.words (kN T)).map V.str)->H d=some (.dK (dk T sa))->kd.Fit T.length->NOk (kN T) T.length->(T.map (·.1)).Nodup->sa.length=T.length->(∀k H',jJ H H'->KO c K H' sa k kd->Q (.ref k) H')->aEz c K n vs H Q
def aEn (c:Cl5) (K:Ξ) (n:Nat):Sp:=fun vs H Q _=>aEz c K n vs H Q
def spTM (c:Cl5) (K:Ξ) (r:Nat):Sp:=fun vs H Q _=>∃(a:Addr) (i:Nat) (sa:List Addr) (S:List Shp),vs=[.ref a]/\sa[i]?=some a/\2*i+2<=r/\8*r<=200/\SW c K H sa S/\Good S/\aAe S i/\∀H',jJ H H'->Q (.bl false) H'
def spWF (c:Cl5) (K:Ξ) (r:Nat):Sp:=fun vs H Q _=>∃(tl a z:Addr) (x:V) (sa:List Addr) (T:List Shp) (s:Shp) (fn:Str) (kd:Kd),vs=[.ref tl,x,.ref a]/\H tl=some (.lst ((sa++[z]).map V.ref))/\SW c K H (sa++[z]) (T++[s])/\SqL K H a ((fn::kd.words (kN T)).map V.str)/\kd.Fit T.length/\NOk (kN T) T.length/\(T.map (·.1)).Nodup/\T.length<=100/\2*T.length+2<=r/\8*r<=200/\s.2.length<=50/\Good (T++[(s.1,s.2++[(fn,kd)])])/\aAe (T++[(s.1,s.2++[(fn,kd)])]) T.length ∧
 ∀y H',jJ H H'->SO c K H' sa y (s.1,s.2++[(fn,kd)])->Q (.ref y) H'
def txt (S:List Shp):Str:=jt nlS ((mJ S).map (jt spS))
def spRd (c:Cl5) (CS:Addr) (K:Ξ) (r:Nat):Sp:=fun vs H Q _=>∃S:List Shp,vs=[.str (txt S)]/\Wel S/\S≠[]/\12<=r/\8*r<=200/\∀(a dx t:Addr) (sa:List Addr) H',jJ H H'->H' a=some (.ins CS dx [("shapes",.ref t)])->SqT K H' t (sa.map V.ref)->SW c K H' sa S->Q (.ref a) H'
theorem pE(h:qB x=true):Pln x:=by
 unfold qB at h;simp only[ke]at h;have ha:x.cps.toList.all (fun c=>decide (c∈zP.cps.toList))=true:=h.1.2;have hc:∀c∈x.cps.toList,97<=c/\c<=122:=fun c hc=>(dQ c).mp (of_decide_eq_true (jq.mp ha c hc));exact⟨fun z=>by have:=hc _ z;omega,fun z=>by have:=hc _ z;omega⟩
theorem aEd(hW:Wel S):∀it∈vB S,(∀w∈it.line (kN S),Pln w/\w.length<=6)/\(it.line (kN S)).length<=6/\it.line (kN S)≠[]:=by
 intro it hit;obtain⟨s,hs,hit⟩:=List.mem_flatMap.mp hit;have hn:=aCy hW.nm;unfold gZ at hit;rcases π.mp hit with rfl|hit
 ·refine⟨fun w hw=>?_,(by show 2<=6;decide),(by simp[Itm.line])⟩;simp only[Itm.line,π,jv,or_false]at hw;rcases hw with rfl|rfl
  ·exact⟨by unfold Pln;ac_rfl,by decide⟩
  ·exact⟨pE (hW.nm s hs),(vR (hW.nm s hs)).2⟩
 ·obtain⟨f,hf,rfl⟩:=iu.mp hit;obtain⟨i,hi⟩:=jb.mp hs;have hfit:f.2.Fit S.length:=(hW.good.fit i s hi f hf).1.mono (ql (ε.mp hi).1);have hnm:=hW.fnm s hs f hf;obtain⟨w6,w5⟩:=eI hn hfit;refine⟨fun w hw=>?_,(by show(f.2.words (kN S)).length+1<=6;omega),(by simp[Itm.line])⟩;rcases π.mp (show w∈f.1::f.2.words (kN S) from hw) with rfl|hw
  ·exact⟨pE hnm,(vR hnm).2⟩
  ·exact⟨hfit.plain (fun j hj=>pE (hn j hj)) w hw,w6 w hw⟩
theorem aJi{S:List Shp}(hW:Wel S)(hne:S≠[]):(vB S).length<=40/\(∀it∈vB S,(jt spS (it.line (kN S))).length<=100/\qk (jt spS (it.line (kN S))) spS=it.line (kN S))/\(txt S).length<=5000/\qk (txt S) nlS=(vB S).map fun it=>jt spS (it.line (kN S)):=by
 have hl:=aEd hW;have h30:(vB S).length<=40:=by
  unfold vB;rw[List.length_flatMap];have h1:(S.map fun s=>(gZ s).length).sum<=S.length*7:=iJ fun s hs=>by
   obtain⟨i,hi⟩:=jb.mp hs;have:=(hW.bd i s hi).2.2.2;unfold gZ;rw[Ω,δ];omega
  have:=hW.len;omega
 have hrow:∀it∈vB S,(jt spS (it.line (kN S))).length<=100:=fun it hit=>by
  obtain⟨h1,h2,_⟩:=hl it hit;have h3:(jt spS (it.line (kN S))).length<=_:=oE (c:=32) (m:=6) fun w hw=>(h1 w hw).2;omega
 have e:(mJ S).map (jt spS)=(vB S).map fun it=>jt spS (it.line (kN S)):=by rw[cL,jp];rfl
 refine⟨h30,fun it hit=>⟨hrow it hit,aDg (hl it hit).2.2 fun w hw=>((hl it hit).1 w hw).1⟩,?_,?_⟩
 ·unfold txt;rw[e];have h3:(jt nlS ((vB S).map fun it=>jt spS (it.line (kN S)))).length<=_:=oE (c:=10) (m:=100) (ws:=(vB S).map fun it=>jt spS (it.line (kN S))) fun w hw=>by
   obtain⟨it,hit,rfl⟩:=iu.mp hw;exact hrow it hit
  rw[δ]at h3;omega
 ·unfold txt;rw[wY,e]
  ·rw[cL];intro z;have h0:=uN hne;rw[List.map_eq_nil_iff]at z;rw[z]at h0;exact absurd h0 (by decide)
  ·intro l hl' w hw;rw[cL]at hl';obtain⟨it,hit,rfl⟩:=iu.mp hl';exact((hl it hit).1 w hw).1
theorem aFy{sa:List Addr}{T:List Shp}{s:Shp}(h:sa.length=(T++[s]).length):∃sa0 z,sa=sa0++[z]:=by
 rcases ye sa with rfl|⟨sa0,z,rfl⟩
 ·rw[θ]at h;exact absurd h (by simp)
 ·exact⟨sa0,z,yf ..⟩
def aKe (K:Ξ) (r:Nat):Sp:=fun vs H Q _=>∃(sl:Addr) (S:List Shp) (n:Nat),vs=[.ref sl]/\S.length=n+1/\LX K H sl S/\Good S/\2*n+2<=r/\8*r<=200/\∀(b:Bool) H',jJ H H'->(b=true->aAe S n)->Q (.bl b) H'
def aOd (K:Ξ):Sp:=fun vs H Q _=>∃(p:Addr) (n:Nat) (xs:List Addr),vs=[.ref p,.int n]/\n<=8/\St3 H p/\p∈xs/\Al xs H/\∀a kd H',Drawn p H H'->kd.Fit n->LK K (offs xs H') a kd->Q (.ref a) H'
theorem Al.drawn(h:Al xs H)(d:Drawn p H H'):Al xs H':=fun b hb=>by
 by_cases e:b=p
 ·obtain⟨x,y,z,q⟩:=d.1;exact⟨_,by rw[e];exact q⟩
 ·obtain⟨o,ho⟩:=h b hb;exact⟨o,d.2 b o e ho⟩
theorem Drawn.offs{xs:List Addr}(d:Drawn p H H')(hp:p∈xs):jJ (offs xs H) (offs xs H'):=xX fun b o n q=>d.2 b o (fun z=>n (by rw[z];exact hp)) q
theorem aGd{a n m:Nat}(h:m<=n):((jk m).map fun k=>(a+k) % n).Nodup:=by
 show yp (·≠·) _;rw[vy];refine List.pairwise_lt_range.imp_of_mem fun {i j} hi hj hlt e=>?_;have hj':=wb.mp hj;have h1:=Nat.sub_mod_eq_zero_of_mod_eq e.symm;rw[show a+j-(a+i)=j-i by omega,Nat.mod_eq_of_lt (by omega)]at h1;omega
def spKT (K:Ξ) (n:Nat):Sp:=fun vs H Q _=>∃(a sl:Addr) (kd:Kd) (S:List Shp),vs=[.ref a,.ref sl]/\kd.lv<n/\kd.Fit S.length/\NOk (kN S) S.length/\LK K H a kd/\LX K H sl S/\∀H',jJ H H'->Q (.str (jt spS (kd.words (kN S)))) H'
def spTx (K:Ξ):Sp:=fun vs H Q _=>∃(sl:Addr) (S:List Shp),vs=[.ref sl]/\LX K H sl S/\Wel S/\S≠[]/\∀H',jJ H H'->Q (.str (txt S)) H'
def pY (S:List Shp) (it:Itm):Str:=jt spS (it.line (kN S))
theorem aKg(S:List Shp):txt S=jt nlS ((vB S).map (pY S)):=by
 unfold txt;rw[cL,jp];rfl
def w0L:List Str:=["num","row","pick","tag","room","part","tags","put","look","shape","end","out"]
def nm0 (a:Nat):List Str:=(jk 12).map fun k=>(w0L.getD ((a+k) % 12) Str.empty)++η "q"
def NmOk (ns:List Str):Prop:=ns.length=12/\ns.Nodup/\∀x∈ns,qB x=true
theorem aRc{a:Nat}(h:a<12):NmOk (nm0 a):=by
 have:∀a:Fin 12,(nm0 a.val).length=12/\(nm0 a.val).Nodup/\∀x∈nm0 a.val,qB x=true:=by ac_rfl
 exact this ⟨a,h⟩
def c1L:Str:=η "bfgjkqvxyzwh"
def c1 (a k:Nat):Nat:=c1L.cps.toList.getD ((a+k) % 12) 0
def nm1 (tl:Str) (a:Nat):List Str:=(jk 12).map fun k=>(⟨#[c1 a k]⟩ : Str)++tl++η "x"
theorem mK(tl:Str)(c:Nat):((⟨#[c]⟩ : Str)++tl++η "x").cps.toList=c::tl.cps.toList++[120]:=by
 rw[tw,tw,qe,qe];rfl
theorem aRh{tl:Str}{a:Nat}(h:a<12)(h4:tl.length<=4)(hl:∀c∈tl.cps.toList,97<=c/\c<=122):NmOk (nm1 tl a):=by
 have hc:∀a:Fin 12,((jk 12).map fun k=>c1 a.val k).Nodup/\∀k,k<12->97<=c1 a.val k/\c1 a.val k<=122:=by ac_rfl
 obtain⟨h1,h2⟩:=hc ⟨a,h⟩;have ho:∀w∈aKk,w.cps.toList.getLast?≠some 120:=by ac_rfl
 refine⟨by unfold nm1;rw[δ,jw],?_,fun x hx=>?_⟩
 ·unfold nm1;show yp (·≠·) _;rw[vy];have h1':yp (·≠·) ((jk 12).map fun k=>c1 a k):=h1;rw[vy]at h1';refine h1'.imp fun ne e=>ne ?_;have:=congrArg (fun s:Str=>s.cps.toList) e;simp only[mK]at this;exact(wy this).1
 ·obtain⟨k,hk,rfl⟩:=iu.mp hx;have hk':=wb.mp hk;have hlen:((⟨#[c1 a k]⟩ : Str)++tl++η "x").length=tl.length+2:=by
   rw[kq,kq];show 1+tl.length+1=_;omega
  unfold qB within aAb;simp only[ke,decide_eq_true_eq,Bool.not_eq_true',decide_eq_false_iff_not,jq];refine⟨⟨⟨by rw[hlen];omega,by rw[hlen];omega⟩,fun c hc=>?_⟩,fun z=>?_⟩
  ·rw[mK]at hc;rw[dQ];simp only[ji,π,jv,or_false]at hc;rcases hc with (rfl|hc)|rfl
   ·exact h2 k hk'
   ·exact hl c hc
   ·exact⟨by decide,by decide⟩
  ·refine ho _ z ?_;rw[mK,List.getLast?_append];rfl
def nm2 (a:Nat):List Str:=((jk 6).map fun k=>Txt.slice (η "zyxwvu") none (some (1+(((a+k) % 6:Nat):Int))))++(["yz","yyyyyy","y","yx","numz","tagszz"]:List Str)
theorem aQs{a:Nat}(h:a<12):NmOk (nm2 a):=by
 have:∀a:Fin 12,(nm2 a.val).length=12/\(nm2 a.val).Nodup/\∀x∈nm2 a.val,qB x=true:=by ac_rfl
 exact this ⟨a,h⟩
theorem aBl:∀cs:List Nat,(jt (η "") (cs.map fun c=>(⟨#[c]⟩ : Str))).cps.toList=cs
 |[]=>rfl
 |[c]=>rfl
 |c::d::cs=>by
  have ih:=aBl (d::cs);rw[jx,iL (by simp),tw,tw,qe,qe,ih];rfl
theorem Drawn.free{H H1:Hp}(d:Drawn p H H1)(h:H1 l=none):H l=none:=by
 cases e:H l with
 |none=>rfl
 |some o =>
  by_cases z:l=p
  ·obtain⟨x,y,w,q⟩:=d.1;rw[z,q]at h;cases h
  ·rw[d.2 l o z e]at h;cases h
def bdN:List Str:=[η "a",η "more"]
def NmC (ns:List Str):Prop:=∀x∈ns,x∉bdN
def Cln (S:List Shp):Prop:=∀s∈S,s.1∉bdN/\∀f∈s.2,f.1∉bdN
theorem Cln.snoc{s:Shp}(h:Cln S)(h1:s.1∉bdN)(h2:∀f∈s.2,f.1∉bdN):Cln (S++[s]):=fun t ht=>by
 rcases ji.mp ht with ht|ht
 ·exact h t ht
 ·rw[ο.mp ht];exact⟨h1,h2⟩
theorem nm0_c{a:Nat}(h:a<12):NmC (nm0 a):=by
 have:∀a:Fin 12,∀x∈nm0 a.val,x∉bdN:=by ac_rfl
 exact this ⟨a,h⟩
theorem nm2_c{a:Nat}(h:a<12):NmC (nm2 a):=by
 have:∀a:Fin 12,∀x∈nm2 a.val,x∉bdN:=by ac_rfl
 exact this ⟨a,h⟩
theorem nm1_c : NmC (nm1 tl a):=fun x hx hb=>by
 have ho:∀w∈bdN,w.cps.toList.getLast?≠some 120:=by ac_rfl
 obtain⟨k,_,rfl⟩:=iu.mp hx;refine ho _ hb ?_;rw[mK];exact List.getLast?_concat ..
def aOl (K:Ξ):Sp:=fun vs H Q _=>∃p:Addr,vs=[.ref p]/\St3 H p/\∀l ns H',Drawn p H H'->H l=none->H' l=some (.lst (ns.map V.str))->NmOk ns->NmC ns->Q (.ref l) H'
theorem modc{a j n:Nat}: (((a:Nat):Int)+((0:Int)+(j:Nat))) % ((n:Nat):Int)=(((a+j) % n:Nat):Int):=by
 rw[rh,←vh]
 first|exact(Int.natCast_emod _ _).symm|exact(Int.ofNat_emod _ _).symm|rfl
theorem Wel.nil:Wel []:=⟨⟨fun i s h=>by simp at h,fun i s h=>by simp at h,fun i s h=>by simp at h,fun i=>by show(([]:List Nat).getD i 0)<=1000;simp⟩,fun s h=>by simp at h,fun s h=>by simp at h,xt,fun s h=>by simp at h,io _,fun i s h=>by simp at h⟩
theorem Wel.sz64(h:Wel S)(i:Nat):(tabs S).sz.getD i 0<=64:=by
 by_cases hi:i<S.length
 ·exact(h.bd i _ (ζ hi)).1
 ·rw[Γ,uc (by rw[(bG S).1];omega)];exact io _
theorem Wel.snoc{S:List Shp}{nm:Str}{fs:List (Str×Kd)}(h:Wel S)(h1:qB nm=true)(h2:nm∉S.map (·.1))(h3:S.length<=3)(h4:fs≠[])(h5:fs.length<=6)(h6:∀f∈fs,f.2.Fit S.length/\qB f.1=true)(h7:(fs.map (·.1)).Nodup)(h8:aAe (S++[(nm,fs)]) S.length):Wel (S++[(nm,fs)]):=by
 have hz:=h8.1;rw[(bJ S (nm,fs) []).1]at hz;refine⟨Good.snoc h.good h4 (by show fs.length<=6;omega) (fun f hf=>⟨(h6 f hf).1,vR (h6 f hf).2⟩) (by show(fs.map _).sum<=1000;exact ip hz (by decide)),fun s hs=>?_,fun s hs=>?_,?_,fun s hs=>?_,by rw[θ,mh];omega,fun i s e=>?_⟩
 ·rcases ji.mp hs with hs|hs
  ·exact h.nm s hs
  ·rw[ο.mp hs];exact h1
 ·rcases ji.mp hs with hs|hs
  ·exact h.fnm s hs
  ·rw[ο.mp hs];exact fun f hf=>(h6 f hf).2
 ·rw[χ,vz];refine⟨h.nd,uw _ _,fun a ha b hb e=>h2 ?_⟩;rw[←show b=nm from ο.mp hb,←e];exact ha
 ·rcases ji.mp hs with hs|hs
  ·exact h.fnd s hs
  ·rw[ο.mp hs];exact h7
 ·rcases aZ e with e|⟨rfl,rfl⟩
  ·have hi:i<S.length:=(ε.mp e).1;obtain⟨t1,t2,t3⟩:=mL (R:=[(nm,fs)]) hi;obtain⟨b1,b2,b3,b4⟩:=h.bd i s e;refine⟨by rw[t1];exact b1,?_,by rw[t2];exact b3,b4⟩;have e1:un (.nest i) (S++[(nm,fs)]) Str.empty=un (.nest i) S Str.empty:=by
    show((tabs (S++[(nm,fs)])).ut.getD i fun _=>[]) Str.empty=((tabs S).ut.getD i fun _=>[]) Str.empty;rw[t3]
   rw[e1];exact b2
  ·exact⟨h8.1,h8.2.1,h8.2.2,h5⟩
theorem aHk{nm:Str}{fs:List (Str×Kd)}{f:Str×Kd}(h:Wel S)(hs:fs≠[]->aAe (S++[(nm,fs)]) S.length)(h5:fs.length<=5)(h6:∀f∈fs,f.2.Fit S.length/\qB f.1=true)(hf:f.2.Fit S.length)(hn:qB f.1=true):Good (S++[(nm,fs++[f])]):=by
 refine Good.snoc h.good (by simp) (by show(fs++[f]).length<=6;rw[θ,mh];omega) (fun g hg=>?_) ?_
 ·rcases ji.mp hg with hg|hg
  ·exact⟨(h6 g hg).1,vR (h6 g hg).2⟩
  ·rw[ο.mp hg];exact⟨hf,vR hn⟩
 ·show((fs++[f]).map fun f=>f.2.size (tabs S).sz).sum<=1000;rw[χ,List.sum_append];have h1:(fs.map fun f=>f.2.size (tabs S).sz).sum<=64:=by
   by_cases e:fs=[]
   ·rw[e];exact io _
   ·have hz:=(hs e).1;rw[(bJ S (nm,fs) []).1]at hz;exact hz
  have h2:=Kd.size_bd (h.sz64) (by decide) hf;show _+(f.2.size (tabs S).sz+0)<=1000;omega
theorem aIj{S:List Shp}{nm x:Str}{w:Nat}(hw:w<=4):aAe (S++[(nm,[(x,Kd.num w)])]) S.length:=by
 obtain⟨t1,t2,t3⟩:=bJ S (nm,[(x,Kd.num w)]) [];refine⟨?_,?_,?_⟩
 ·rw[t1];show w+0<=64;omega
 ·have e1:un (.nest S.length) (S++[(nm,[(x,Kd.num w)])]) Str.empty=_:=t3 Str.empty;rw[e1];show 1<=40;decide
 ·rw[t2];show 1+max 0 0<=4;decide
def spSh (K:Ξ) (r:Nat):Sp:=fun vs H Q _=>∃p:Addr,vs=[.ref p,.int 4]/\St3 H p/\12<=r/\8*r<=200/\∀l S H',Drawn p H H'->H l=none->LX K (offs [p] H') l S->Wel S->S≠[]->Cln S->Q (.ref l) H'
theorem aFe{H:Hp}(h:St3 H p)(ha:H a=none):a≠p:=fun z=>by
 obtain⟨x,y,w,q⟩:=h;rw[z,q]at ha;cases ha
theorem aAq{H:Hp}(h:St3 H p):∃o,H p=some o:=by
 obtain⟨x,y,w,q⟩:=h;exact⟨_,q⟩
def isK (c:Cl5):Kd->Addr
 |.num _=>c.num
 |.nest _=>c.nest
 |.many _ _=>c.many
 |.pick _=>c.pick
def samK:Kd->Kd->Bool
 |.num _,.num _=>true
 |.nest _,.nest _=>true
 |.many _ _,.many _ _=>true
 |.pick _,.pick _=>true
 |_,_=>false
structure KdS (K:Ξ) (c:Cl5):Prop where
 ins:∀k:Kd,InsC K (isK c k)
 kit:∀k k':Kd,ki K (.ref (isK c k)) (.ref (isK c k'))=some (samK k k')
theorem KdS.ty{K:Ξ}(T:KdS K c)(h:KO c K H sa a k):gI K H (.ref a) (.ref (isK c k)):=by
 cases h with
 |num h=>exact(T.ins (.num 0)).ty h
 |nest _ h=>exact(T.ins (.nest 0)).ty h
 |many h _=>exact(T.ins (.many 0 (.num 0))).ty h
 |pick h _ _ _=>exact(T.ins (.pick [])).ty h
def stV:Kd->Nat->Str->V
 |.many _ _,j,_=>.int j
 |_,_,y=>.str y
def PP (c:Cl5) (K:Ξ) (H:Hp) (sa:List Addr) (l:Addr) (kd:Kd) (S:List Shp):Prop:=∃ts:List Addr,H l=some (.lst (ts.map V.ref))/\ts.length=(kd.parts S).length/\∀(j:Nat) (t:Addr),ts[j]?=some t->∃(y:Str) (kd':Kd) (k:Addr),(kd.parts S)[j]?=some (y,kd')/\SqT K H t [stV kd j y,.ref k]/\KO c K H sa k kd'
def spP2 (c:Cl5) (K:Ξ) (F:Kd->Bool):Sp:=fun vs H Q _=>∃(a:Addr) (kd:Kd) (sa:List Addr) (S:List Shp),vs=[.ref a]/\F kd=true/\kd.Fit S.length/\KO c K H sa a kd/\SW c K H sa S/\Good S/\∀l H',jJ H H'->H l=none->PP c K H' sa l kd S->Q (.ref l) H'
def aCn (c:Cl5) (K:Ξ):Addr->Sp->Prop:=fun C sp=>(C=c.nest/\sp=spP2 c K Kd.isNest)\/(C=c.many/\sp=spP2 c K Kd.isMany)
theorem oK{K:Ξ}{H:Hp}{kd:Kd}{S:List Shp}{Q:VK}{E:XK}(hm:Nolk m)(hs:kd.Pd)(hf:kd.Fit S.length)(ho:KO c K H sa a kd)(hw:SW c K H sa S)(hg:Good S)
  (q:∀l H',jJ H H'->H l=none->PP c K H' sa l kd S->Q (.ref l) H'):∃a' C dx fs sp,V.ref a=.ref a'/\H a'=some (.ins C dx fs)/\fs.lookup m=none/\aCn c K C sp/\sp [.ref a] H Q E:=by
 cases id ho with
 |num h=>rcases hs with⟨_,z⟩|⟨_,_,z⟩ <;> cases z
 |nest e h=>exact⟨_,_,_,_,_,rfl,h,(hm _ .non).2.1,.inl ⟨rfl,rfl⟩,a,_,sa,S,rfl,rfl,hf,ho,hw,hg,q⟩
 |many h _=>exact⟨_,_,_,_,_,rfl,h,(hm _ _).2.2.1,.inr ⟨rfl,rfl⟩,a,_,sa,S,rfl,rfl,hf,ho,hw,hg,q⟩
 |pick h _ _ _=>rcases hs with⟨_,z⟩|⟨_,_,z⟩ <;> cases z
theorem aBy{S:List Shp}{kd kd':Kd}{j:Nat}{y:Str}(hf:kd.Fit S.length)(h:(kd.parts S)[j]?=some (y,kd')):aBf (stV kd j y)=some y:=by
 cases kd with
 |many n k =>
  have h':((jk n).map fun j=>(η (toString j),k))[j]?=some (y,kd'):=h;rw[ig]at h';cases e:(jk n)[j]? with
  |none=>rw[e]at h';cases h'
  |some i =>
   rw[e]at h';obtain⟨hj,rfl⟩:=ε.mp e;rw[List.getElem_range]at h';cases h';have:=hf.2.1;rw[jw]at hj;exact if_pos (by show(j:Nat)<2 ^ 100;exact Δ (Δ hj this) (by decide))
 |num _=>rfl
 |nest _=>rfl
 |pick _=>rfl
def spIB:Sp:=fun vs H Q _=>∃v lo hi:Int,vs=[.int v,.int lo,.int hi]/\lo<=v/\v<=hi/\Q (.bl true) H
def spBd:Sp:=fun vs H Q _=>∃w:Nat,vs=[.int w]/\w<=4/\Q (.int ((256 ^ w:Nat):Int)) H
def spWd:Sp:=fun vs H Q _=>∃w v:Nat,vs=[.int v,.int w]/\w<=4/\v<256 ^ w/\Q (.bl true) H
def aOf (c:Cl5) (K:Ξ):Sp:=fun vs H Q _=>∃(a:Addr) (j:Nat) (is:List Nat) (sa:List Addr),vs=[.ref a,.int j]/\KO c K H sa a (.pick is)/\j<is.length/\Q (.bl true) H
def aIn:Kd->Bool:=fun _=>true
abbrev kz (ks:List Str) (xs:List V):List (Key×V):=il (fun k v=>((.inr k:Key),v)) ks xs
theorem aE:∀{ks:List Str}{xs:List V},ks.length=xs.length->(kz ks xs).map (·.1)=ks.map qr
 |[],[],_=>rfl
 |k::ks,x::xs,e=>congrArg ((.inr k:Key) :: ·) (aE (ks:=ks) (xs:=xs) (lc e))
theorem xS{ks:List Str}{xs:List V}(e:ks.length=xs.length):(kz ks xs).length=ks.length:=by
 rw[←δ (·.1),aE e,δ]
theorem gO{ks:List Str}{xs:List V}{j:Nat}(nd:ks.Nodup)(e:ks.length=xs.length)(hk:ks[j]?=some k)(hx:xs[j]?=some v):aS (kz ks xs) (.inr k)=some v:=by
 unfold aS;rw[uQ (by rw[aE e];show yp (·≠·) _;rw[vy];exact yp.imp (fun n z=>n (xl z)) nd) hk hx];rfl
theorem aCh:∀(fs:List (Str×Kd)) (ds:List PyData),eJ fs ds=il (fun k d=>(jr k,d)) (fs.map (·.1)) ds
 |[],_=>rfl
 |_::_,[]=>rfl
 |f::fs,d::ds=>congrArg (_ :: ·) (aCh fs ds)
theorem aPf{K:Ξ}{H:Hp}(h:Dt z K H x (.dict (eJ fs ds)))(e:fs.length=ds.length):∃a xs,x=.ref a/\H a=some (.dK (kz (fs.map (·.1)) xs))/\fs.length=xs.length/\Dts z K H xs ds:=by
 generalize hd:rn (eJ fs ds)=d at h;cases h with
 |non=>cases hd
 |bl=>cases hd
 |int=>cases hd
 |str=>cases hd
 |lst=>cases hd
 |tup=>cases hd
 | @dct a ks xs ds' h1 h2 h3 =>
  injection hd with hd;rw[aCh]at hd;obtain⟨e1,e2⟩:=zG (by rw[δ];exact e) (h2.trans h3.length) hd;subst e1 e2;exact⟨a,xs,rfl,h1,by rw[δ]at h2;exact h2,h3⟩
theorem dW{α : Type}{f : α->Bool}{l:List α}(h:∀x∈l,f x=true):((l.map f).all id)=true:=by
 rw[jq];intro b hb;obtain⟨x,hx,rfl⟩:=iu.mp hb;exact h x hx
inductive RR (K:Ξ) (H:Hp):List Addr->List (Str×Int)->Prop
 |nil:RR K H [] []
 |cons {t:Addr}{ts:List Addr}{q:Str×Int}{rs:List (Str×Int)} : SqT K H t [.str q.1,.int q.2]->RR K H ts rs->RR K H (t::ts) (q::rs)
theorem RR.same{K:Ξ}(h:RR K H ts rs)(g:jJ H H'):RR K H' ts rs:=by
 induction h with
 |nil=>exact .nil
 |cons t _ ih=>exact .cons (g.tp t) ih
theorem RR.len{K:Ξ}(h:RR K H ts rs):ts.length=rs.length:=by
 induction h with
 |nil=>rfl
 |cons _ _ ih=>rw[Ω,Ω,ih]
theorem RR.app{K:Ξ}(h:RR K H ts rs)(h':RR K H ts' rs'):RR K H (ts++ts') (rs++rs'):=by
 induction h with
 |nil=>exact h'
 |cons t _ ih=>exact .cons t ih
theorem RR.but{K:Ξ}{H:Hp}(h:RR K H ts rs)(g:But l H H')(hl:H l=some (.lst zs)):RR K H' ts rs:=by
 induction h with
 |nil=>exact .nil
 |cons t _ ih=>exact .cons (g.tup hl t) ih
theorem RR.dat{K:Ξ}(h:RR K H ts rs):DatAll K H (ts.map V.ref) (rs.map yC):=by
 induction h with
 |nil=>exact .nil
 |cons t _ ih=>exact .cons (.tup t (.cons (.str _) (.cons (.int _) .nil))) ih
def RL (K:Ξ) (H:Hp) (l:Addr) (rs:List (Str×Int)):Prop:=∃ts:List Addr,H l=some (.lst (ts.map V.ref))/\RR K H ts rs
def rItm (K:Ξ):R2:=fun x y H Q=>aJg K x y H Q\/∃a v,x=.ref a/\yR H a y (some v)/\Q v H
theorem aCi{K:Ξ}(h1:PE X e (tOp (aJg K) (wC i) (wC j)))(h2:PE X e (aOe (wC i) (wC j))):PE X e (tOp (rItm K) (wC i) (wC j)):=by
 intro pins s σ H Q I h;obtain⟨v,e1,u,e2,h⟩:=h;rcases h with h|h
 ·exact h1 pins s σ H Q I ⟨v,e1,u,e2,h⟩
 ·exact h2 pins s σ H Q I ⟨v,e1,u,e2,h⟩
theorem Wel.nms(h:Wel S):NmS S:=by
 have nb:∀{x:Str},qB x=true->x.length<=6/\Sml x:=fun {x} hx=>by
  refine⟨(vR hx).2,?_⟩;unfold qB at hx;simp only[ke]at hx;have ha:x.cps.toList.all (fun c=>decide (c∈zP.cps.toList))=true:=hx.1.2;refine jq.mpr fun c hc=>decide_eq_true ?_;have:=(dQ c).mp (of_decide_eq_true (jq.mp ha c hc));have e:(16:Nat) ^ 8=4294967296:=by decide
  omega
 refine⟨fun i hi=>?_,fun s hs f hf=>(nb (h.fnm s hs f hf)).2⟩;have e:S[i]?=some S[i]:=ζ hi;rw[vM e];exact nb (h.nm _ (ju hi))
theorem Wel.pnd(h:Wel S){k:Kd}(hf:k.Fit S.length):∀i,k=.nest i->((k.parts S).map (·.1)).Nodup:=fun i e=>by
 subst e;have hs:S[i]?=some S[i]:=ζ (show i<S.length from hf);rw[xC hs];exact h.fnd _ (ju _)
theorem aBd{f:Kd->Str->PyData->List (Str×Int)}{fs:List (Str×Kd)}{ds:List PyData}{j:Nat}(hl:fs.length=ds.length)(hq:fs[j]?=some q)(hd:ds[j]?=some d):flL f (fs.take (j+1)) p (ds.take (j+1))=flL f (fs.take j) p (ds.take j)++f q.2 (pj p q.1) d:=by
 rw[iw,iw,hq,hd];show flL f (fs.take j++[q]) p (ds.take j++[d])=_;rw[uA p (by rw[Θ,Θ,hl])];show _++(f q.2 (pj p q.1) d++[])=_;rw[jy]
theorem Kd.three(k:Kd):k.Pd\/(∃w,k=.num w)\/∃is,k=.pick is:=by
 cases k with
 |num w=>exact .inr (.inl ⟨w,rfl⟩)
 |nest i=>exact .inl (.inl ⟨i,rfl⟩)
 |many n k=>exact .inl (.inr ⟨n,k,rfl⟩)
 |pick is=>exact .inr (.inr ⟨is,rfl⟩)
theorem Kd.Pd.sam{k:Kd}(h:k.Pd):samK k (.num 0)=false/\samK k (.pick [])=false:=by rcases h with⟨_,rfl⟩|⟨_,_,rfl⟩ <;> exact⟨rfl,rfl⟩
structure RwA (K:Ξ) (H:Hp) (rl:Addr) (ds:List PyData):Prop where
 at_:∃xs,SqL K H rl xs/\DatAll K H xs ds
 rw_:∀d∈ds,rowB d=true
 few:ds.length<=1000
theorem RwA.same{K:Ξ}(h:RwA K H rl ds)(g:jJ H H'):RwA K H' rl ds:=by
 obtain⟨⟨xs,h1,h2⟩,h3,h4⟩:=h;exact⟨⟨xs,g.seq h1,h2.same g⟩,h3,h4⟩
def Frs (H:Hp) (v:V):Prop:=∀b,v=.ref b->H b=none
theorem tU : ∀{fs:List (Str×Kd)}{l:List PyData}{es:List PyData}{m:Nat},rdL f fs p l=some (es,m)->es.length=fs.length
 |[],_,_,_,h=>by cases h;rfl
 |q::fs,l,es,m,h=>by
  have h':(f q.2 (pj p q.1) l).bind (fun x=>(rdL f fs p (l.drop x.2)).map fun y=>(x.1::y.1,x.2+y.2))=some (es,m):=h;cases e:f q.2 (pj p q.1) l with
  |none=>rw[e]at h';cases h'
  |some x =>
   rw[e]at h';have h2:(rdL f fs p (l.drop x.2)).map (fun y=>(x.1::y.1,x.2+y.2))=some (es,m):=h';cases e2:rdL f fs p (l.drop x.2) with
   |none=>rw[e2]at h2;cases h2
   |some y=>rw[e2]at h2;cases h2;exact congrArg (·+1) (tU e2)
theorem nQ{k:Kd}(h:k.Pd)(r:k.Rk 0):False:=by
 rcases h with⟨i,rfl⟩|⟨n,q,rfl⟩
 ·exact qa _ r
 ·rcases r with⟨_,_,z⟩|⟨_,_,z⟩ <;> exact qa _ z
theorem aNa{ks:List Str}{xs:List V}{j:Nat}(e:ks.length=xs.length)(hk:ks[j]?=some k)(hx:xs[j]?=some v):kz (ks.take (j+1)) (xs.take (j+1))=kz (ks.take j) (xs.take j)++[((.inr k:Key),v)]:=by
 rw[iw,iw,hk,hx];exact wo (by rw[Θ,Θ,e])
theorem aPm{ks:List Str}{xs:List V}{j:Nat}(nd:ks.Nodup)(e:ks.length=xs.length)(hk:ks[j]?=some k)(hx:xs[j]?=some v):putK (kz (ks.take j) (xs.take j)) (.inr k) v=kz (ks.take (j+1)) (xs.take (j+1)):=by
 rw[aNa e hk hx];refine eE fun y hy z=>?_;have h1:y.1∈(kz (ks.take j) (xs.take j)).map (·.1):=iu.mpr ⟨y,hy,rfl⟩;rw[aE (by rw[Θ,Θ,e]),z]at h1;obtain⟨w,hw,ew⟩:=iu.mp h1;cases ew;obtain⟨i,hi⟩:=jb.mp hw;have hij:i<j:=by have:=(ε.mp hi).1;rw[Θ]at this;omega
 rw[oy hij]at hi;obtain⟨a1,b1⟩:=ε.mp hi;obtain⟨a2,b2⟩:=ε.mp hk;exact absurd (b1.trans b2.symm) (qi.mp nd i j a1 a2 hij)
theorem aAa(h:rowB d=true):∃(p:Str) (v:Int),d=yC (p,v):=by
 unfold rowB at h
 split at h
 ·exact⟨_,_,rfl⟩
 ·cases h
theorem DatAll.at'{K:Ξ}: ∀{xs:List V}{ds:List PyData}{i:Nat}{d:PyData},DatAll K H xs ds->ds[i]?=some d->∃x,xs[i]?=some x/\Dat K H x d
 |_,_,_,_,.nil,e=>by simp at e
 |_,_,0,_,.cons h _,e=>by simp at e;subst e;exact⟨_,rfl,h⟩
 |_,_,i+1,d,.cons _ t,e=>by
  obtain⟨x,h1,h2⟩:=DatAll.at' (i:=i) (d:=d) t (by simpa using e);exact⟨x,by simpa using h1,h2⟩
theorem RwA.row{K:Ξ}(h:RwA K H rl ds){i:Nat}(hi:i<ds.length):∃(xs:List V) (t:Addr) (p:Str) (v:Int),SqL K H rl xs/\xs.length=ds.length/\xs[i]?=some (.ref t)/\SqT K H t [.str p,.int v]/\ds.drop i=yC (p,v)::ds.drop (i+1):=by
 obtain⟨⟨xs,h1,h2⟩,h3,_⟩:=h;have e:ds[i]?=some ds[i]:=ζ hi;obtain⟨p,v,ed⟩:=aAa (h3 _ (ι e));obtain⟨x,hx,hd⟩:=DatAll.at' h2 e;rw[ed]at hd;cases hd with
 | @tup t ys _ ht hs =>
  cases hs with
  |cons a hs=>cases hs with
   |cons b hs =>
    cases hs;cases a;cases b;exact⟨xs,t,p,v,h1,h2.length,hx,ht,by rw[jj hi,ed]⟩
theorem len3{os:St}(h:os.length=3):∃a b c,os=[a,b,c]:=by
 match os,h with
 |[a,b,c],_=>exact⟨a,b,c,rfl⟩
def aOk:Sp:=fun vs H Q _=>∃(p:Addr) (w:Nat),vs=[.ref p,.int w]/\1<=w/\w<=4/\St3 H p/\∀(v:Nat) (H':Hp),v<256 ^ w->Drawn p H H'->Q (.int v) H'
inductive aHt (K:Ξ) (n:Nat) (vs:List V) (H:Hp) (Q:VK):Prop|mk:∀(p a sl:Addr) (kd:Kd) (S:List Shp) (r:Nat) (ys:List Addr),n=r+1->vs=[.ref p,.ref a,.ref sl]->St3 H p->p∈ys->Al ys H->kd.Rk r->kd.Fit S.length->LK K (offs ys H) a kd->LX K (offs ys H) sl S->Wel S->(∀v d H',Drawn p H H'->Dt true K (offs ys H') v d->Can S r kd d->Frs H v->Q v H')->aHt K n vs H Q
def spDr (K:Ξ) (n:Nat):Sp:=fun vs H Q _=>aHt K n vs H Q
theorem LX.at'{K:Ξ}(h:LX K H sl S){i:Nat}(hi:i<S.length):∃(as:List Addr) (s l:Addr) (ps:List Addr),SqL K H sl (as.map V.ref)/\as[i]?=some s/\SqT K H s [.str S[i].1,.ref l]/\SqL K H l (ps.map V.ref)/\LF K H ps S[i].2:=by
 obtain⟨as,h1,h2⟩:=h;have hl:=h2.len;obtain⟨s,hs⟩ : ∃s,as[i]?=some s:=⟨_,ζ (by omega)⟩;obtain⟨sh,e,l,ps,m1,m2,m3⟩:=h2.get hs;obtain⟨_,rfl⟩:=ε.mp e;exact⟨as,s,l,ps,h1,hs,m1,m2,m3⟩
theorem aPz{is:List Nat}{j:Nat}(h:is[j]?=some i):atI (is.map fun (i:Nat)=>V.int i) (j:Int)=some (.int i):=qR (by rw[ig,h];rfl)
theorem aFa{f as ks p}{es:List Expr}: jl (.Call f as ks p::es) env=(false,eval (.Call f as ks p) env)::jl es env:=rfl
theorem RL.same{K:Ξ}(h:RL K H l rs)(g:jJ H H'):RL K H' l rs:=by
 obtain⟨ts,h1,h2⟩:=h;exact⟨ts,g _ _ h1,h2.same g⟩
theorem aJf{K:Ξ}(h:RL K H l rs):Dat K H (.ref l) (.list (rs.map yC)):=by
 obtain⟨ts,h1,h2⟩:=h;exact .lst (SqL.of h1) h2.dat
theorem aAi(h:ou d=true):PyData.eqv d d=true:=PySem.SeqAt.eqv_refl d (yb h)
theorem aCj{ks:List Str}{zs:List V}{j:Nat}(nd:ks.Nodup)(hz:zs.length=j)(hk:ks[j]?=some k):putK (kz (ks.take j) zs) (.inr k) v=kz (ks.take (j+1)) (zs++[v]):=by
 obtain⟨a2,b2⟩:=ε.mp hk;have hl:(ks.take j).length=zs.length:=by rw[Θ,hz];omega
 have e:kz (ks.take (j+1)) (zs++[v])=kz (ks.take j) zs++[((.inr k:Key),v)]:=by
  rw[iw,hk];exact wo hl
 rw[e];refine eE fun y hy z=>?_;have h1:y.1∈(kz (ks.take j) zs).map (·.1):=iu.mpr ⟨y,hy,rfl⟩;rw[aE hl,z]at h1;obtain⟨w,hw,ew⟩:=iu.mp h1;cases ew;obtain⟨i,hi⟩:=jb.mp hw;have hij:i<j:=by have:=(ε.mp hi).1;rw[Θ]at this;omega
 rw[oy hij]at hi;obtain⟨a1,b1⟩:=ε.mp hi;exact absurd (b1.trans b2.symm) (qi.mp nd i j a1 a2 hij)
def Nc (d:PyData):Prop:=ou d=true/\d.hasDict=false/\Sn d 400 3
theorem aRj{ds:List PyData}(h:∀d∈ds,Nc d):PyData.canLayAll0 ds=true/\PyData.hasDictAll ds=false/\SnA ds (401*ds.length) 3:=by
 induction ds with
 |nil=>exact⟨rfl,rfl,SnA.nil _⟩
 |cons d ds ih =>
  obtain⟨h1,h2,h3⟩:=h d (ρ ..);obtain⟨i1,i2,i3⟩:=ih fun e he=>h e (ς _ he);refine⟨?_,?_,?_⟩
  ·show(d.canLay0&&PyData.canLayAll0 ds)=true;rw[yb h1,i1];rfl
  ·show(d.hasDict||PyData.hasDictAll ds)=false;rw[h2,i2];rfl
  ·have k:=SnA.cons h3 i3;exact⟨k.sh,k.ls,ip k.wt (by rw[Ω];omega),k.dp⟩
theorem aRn(h:aJb p n q)(hp:p+8*n<=192):Nc (yC q):=by
 obtain⟨h1,h2,h3,h4⟩:=h;have k:=(SnA.cons ((Sn.str h2).le (ν _) (io _)) (SnA.cons ((Sn.int32 (i:=q.2) (by omega) (by omega)).le (ν _) (io _)) (SnA.nil 0))).tup;refine⟨?_,rfl,k.le (by omega) (by decide)⟩;have e1:(PyData.tuple [.str q.1,.int q.2]).canLay0=true:=by
  show((jr q.1).canLay0&&(true&&true))=true;rw[yb h2.ok];rfl
 unfold yC ou;rw[e1];rfl
theorem nc_sh{ds:List PyData}(hn:∀d∈ds,Nc d):ou (.list ds)=true:=by
 obtain⟨c1,c2,c3⟩:=aRj hn;have e1:(PyData.list ds).canLay0=true:=c1;unfold ou;rw[e1,Bool.true_and];exact decide_eq_true (ip c3.lst.dp (by decide))
theorem aMy{n j:Nat}(h:j<n):ixN n (j:Int)=some j:=by
 unfold ixN;rw[if_pos (by omega),if_pos (by omega)];rfl
theorem aQc{K:Ξ}{H:Hp}{fs:List (Str×Kd)}{xs:List V}(h:H a=some (.dK (kz (fs.map (·.1)) xs)))(e:fs.length=xs.length)(t:Dts z K H xs ds):Dt z K H (.ref a) (.dict (eJ fs ds)):=by
 rw[aCh];exact .dct h (by rw[δ];exact e) t
theorem aMi{ys:List Addr}{l0:Addr}: jJ (offs (l0::ys) H) (offs ys H):=oS fun b hb=>ς _ hb
def aGt (l l0:Addr) (H H':Hp):Prop:=∀b o,b≠l->b≠l0->H b=some o->H' b=some o
theorem aGt.offs{l:Addr}{ys:List Addr}{H:Hp}(g1:jJ H H1)(h0:H l0=none)(hl:l∈ys)(g:aGt l l0 H1 H'):jJ (offs ys H) (offs (l0::ys) H'):=fun b o e=>by
 have hb:b∉ys:=fun z=>by unfold L2.offs at e;rw[if_pos z]at e;cases e
 have e':H b=some o:=kO _ _ e;have n0:b≠l0:=jN e' h0;refine vC (fun z=>?_) (g b o (fun z=>hb (z ▸ hl)) n0 (g1 _ _ e'));rcases π.mp z with z|z
 ·exact n0 z
 ·exact hb z
theorem aFp{K:Ξ}{H:Hp}(h:Dt z K H x (.dict (kvD ks es)))(e:ks.length=es.length):∃a xs,x=.ref a/\H a=some (.dK (kz ks xs))/\ks.length=xs.length/\Dts z K H xs es:=by
 generalize hd:rn (kvD ks es)=d at h;cases h with
 |non=>cases hd
 |bl=>cases hd
 |int=>cases hd
 |str=>cases hd
 |lst=>cases hd
 |tup=>cases hd
 | @dct a ks' xs ds' h1 h2 h3 =>
  injection hd with hd;obtain⟨e1,e2⟩:=zG e (h2.trans h3.length) hd;subst e1 e2;exact⟨a,xs,rfl,h1,h2,h3⟩
theorem aFw{c:Kd->PyData->PyData->Prop}{K:Ξ}{fs:List (Str×Kd)}{xs:List V}(hn:(fs.map (·.1)).Nodup)(D:DRec c fs ds ks es)(hl:ks.length=xs.length)(t:Dts z K H xs es){i:Nat}(hf:fs[i]?=some f):∃v d e,ds[i]?=some d/\aS (kz ks xs) (.inr f.1)=some v/\Dt z K H v e/\c f.2 d e:=by
 obtain⟨d,e,h1,h2,h3⟩:=D.g i f hf;obtain⟨j,z1,z2⟩:=tK h2;obtain⟨v,w1,w2⟩:=t.get z2;exact⟨v,d,e,h1,gO (D.p.symm.nodup hn) hl z1 w1,w2,h3⟩
def spW1:Sp:=fun vs H Q _=>∃v:Int,vs=[.int v]/\Q (.bl true) H
inductive aFx (c:Cl5) (K:Ξ) (r:Nat) (F:Kd->Bool) (vs:List V) (H:Hp) (Q:VK):Prop|mk:∀(a:Addr) (x:V) (kd:Kd) (sa:List Addr) (S:List Shp) (d e:PyData),vs=[.ref a,x]->F kd=true->kd.Rk r->kd.Fit S.length->KO c K H sa a kd->SW c K H sa S->Wel S->Dt false K H x e->Rec S r kd d e->(∀H',jJ H H'->Q (.bl true) H')->aFx c K r F vs H Q
def cO (c:Cl5) (K:Ξ) (r:Nat) (F:Kd->Bool):Sp:=fun vs H Q _=>aFx c K r F vs H Q
def uP (c:Cl5) (K:Ξ) (r:Nat):Sp:=fun vs H Q _=>∃(s:Addr) (x:V) (i:Nat) (sa:List Addr) (S:List Shp) (d e:PyData),vs=[.ref s,x]/\sa[i]?=some s/\2*i+2<=r/\SW c K H sa S/\Wel S/\Dt false K H x e/\Rec S r (.nest i) d e/\∀H',jJ H H'->Q (.bl true) H'
inductive aDr (c:Cl5) (K:Ξ) (n:Nat) (vs:List V) (H:Hp) (Q:VK):Prop|mk:∀(a:Addr) (p:Str) (x:V) (kd:Kd) (sa:List Addr) (S:List Shp) (d e:PyData) (r:Nat),n=r+1->vs=[.ref a,.str p,x]->p.length+8*n<=200->Sml p->kd.Rk r->kd.Fit S.length->KO c K H sa a kd->SW c K H sa S->Wel S->Dt false K H x e->Rec S r kd d e->(∀l H',jJ H H'->H l=none->RL K H' l (flv S r kd p d)->Q (.ref l) H')->aDr c K n vs H Q
def aEr (c:Cl5) (K:Ξ) (n:Nat):Sp:=fun vs H Q _=>aDr c K n vs H Q
inductive aEj (c:Cl5) (K:Ξ) (r:Nat) (vs:List V) (H:Hp) (Q:VK):Prop|mk:∀(s:Addr) (x:V) (i:Nat) (sa:List Addr) (S:List Shp) (d e:PyData),vs=[.ref s,x]->sa[i]?=some s->2*i+2<=r->8*(r+1)<=200->SW c K H sa S->Wel S->Dt false K H x e->Rec S r (.nest i) d e->(∀l H',jJ H H'->H l=none->RL K H' l (flv S r (.nest i) Str.empty d)->Q (.ref l) H')->aEj c K r vs H Q
def aOn (c:Cl5) (K:Ξ) (r:Nat):Sp:=fun vs H Q _=>aEj c K r vs H Q
theorem itm9{K:Ξ}{kd kd':Kd}{j r:Nat}{y:Str}{Q:VK}(hp:kd.Pd)(hS:FNd S)(hr:Rec S (r+1) kd d e)(hd:Dt false K H x e)(hy:(kd.parts S)[j]?=some (y,kd'))(q:∀v d' e',(rX d)[j]?=some d'->Dt false K H v e'->Rec S r kd' d' e'->Q v H):rItm K x (stV kd j y) H Q:=by
 rcases hp with⟨i,rfl⟩|⟨n,k,rfl⟩
 ·obtain⟨ds,es,ks,es',rfl,rfl,l,p,h⟩:=hr;have D:=wX (vU hS i) l p h;obtain⟨a,xs,rfl,h2,l2,dts⟩:=aFp hd l;obtain⟨v,d',e',z1,z2,z3,z4⟩:=aFw (vU hS i) D l2 dts hy;have ev:rX (.dict (eJ ((Kd.nest i).parts S) ds))=ds:=iO (k:=.nest i) (.inl ⟨i,rfl⟩) h.len.1;refine .inr ⟨a,v,rfl,?_,q v d' e' (by rw[ev];exact z1) z3 z4⟩;rw[←z2];exact yR.k (k:=.inr y) h2
 ·obtain⟨ds,es,rfl,rfl,h⟩:=hr;cases hd with
  |lst hx _ dts =>
   obtain⟨d',e',z1,z2,z3⟩:=h.get hy;obtain⟨v,hv,hdv⟩:=dts.get z2;exact .inl ⟨_,_,_,v,rfl,rfl,hx,qR hv,q v d' e' z1 hdv z3⟩
theorem aJq{r:Nat}{kd:Kd}(hp:kd.Pd)(h:Can S (r+1) kd d):∃ds,rX d=ds/\d=zC kd (kd.parts S) ds/\zF (Can S r) (kd.parts S) ds:=by
 obtain⟨ds,e,h1⟩:=(iS hp).mp h;exact⟨ds,by rw[e];exact iO hp h1.len,e,h1⟩
def aHs (c:Cl5) (K:Ξ):Sp:=fun vs H Q _=>∃(a vl:Addr) (kd:Kd) (sa:List Addr) (S:List Shp) (xs:List V) (ds:List PyData) (fs:List Addr),vs=[.ref a,.ref vl]/\kd.Pd/\kd.Fit S.length/\KO c K H sa a kd/\SW c K H sa S/\Wel S/\H vl=some (.lst xs)/\Trs true K H xs ds fs/\vl∉fs/\(kd.parts S).length=ds.length/\∀v b H',jJ H H'->Tr true K H' v (zC kd (kd.parts S) ds) (b::fs)->(b=vl\/H b=none)->Q v H'
def blD (S:List Shp):Nat->Kd->PyData
 |_,.num _=>.int (0:Nat)
 |0,_=>.none
 |n+1,.pick is=>.tuple [.int (0:Nat),blD S n (.nest (is.getD 0 0))]
 |n+1,.nest i=>zC (.nest i) ((Kd.nest i).parts S) (((Kd.nest i).parts S).map fun f=>blD S n f.2)
 |n+1,.many m k=>zC (.many m k) ((Kd.many m k).parts S) (((Kd.many m k).parts S).map fun f=>blD S n f.2)
theorem aNw{n:Nat}{k:Kd}(hk:k.Pd):blD S (n+1) k=zC k (k.parts S) ((k.parts S).map fun f=>blD S n f.2):=by
 rcases hk with⟨i,rfl⟩|⟨m,q,rfl⟩ <;> rfl
theorem aQh(hG:Good S):∀{n:Nat}{k:Kd},k.Fit S.length->k.Rk n->Can S n k (blD S n k):=by
 intro n
 induction n with
 |zero=>intro k hf hr;cases k with
  |num w=>exact⟨0,rfl,Nat.pow_pos (by decide)⟩
  |nest i=>exact(qa _ hr).elim
  |many m q=>exact(nQ (.inr ⟨m,q,rfl⟩) hr).elim
  |pick is=>exact(qa _ (hr _ (ju (show 0<is.length by have:=hf.1;omega)))).elim
 |succ n ih =>
  have ls:∀fs:List (Str×Kd),(∀f∈fs,f.2.Fit S.length/\f.2.Rk n)->zF (Can S n) fs (fs.map fun f=>blD S n f.2):=by
   intro fs
   induction fs with
   |nil=>intro _;exact jm
   |cons f fs ihl=>intro h;exact⟨ih (h f (ρ ..)).1 (h f (ρ ..)).2,ihl fun g hg=>h g (ς _ hg)⟩
  intro k hf hr;rcases Kd.three k with hp|⟨w,rfl⟩|⟨is,rfl⟩
  ·rw[aNw hp];refine(iS hp).mpr ⟨_,rfl,ls _ fun f hf'=>?_⟩;obtain⟨z1,z2,_⟩:=Kd.parts_ok hG hf hr hf';exact⟨z2,z1⟩
  ·exact⟨0,rfl,Nat.pow_pos (by decide)⟩
  ·have h0 : 0<is.length:=by have:=hf.1;omega
   have hi:is[0]?=some is[0]:=ζ h0;have eg:is.getD 0 0=is[0]:=by rw[Γ,hi];rfl
   have hm:=ι hi;refine⟨0,is[0],_,hi,?_,ih (k:=.nest is[0]) (hf.2.2.2 _ hm) (show 2*is[0]+2<=n by have:=hr _ hm;omega)⟩;show PyData.tuple [.int (0:Nat),blD S n (.nest (is.getD 0 0))]=_;rw[eg]
def aEv (c:Cl5) (K:Ξ) (n:Nat):Sp:=fun vs H Q _=>∃(a:Addr) (kd:Kd) (sa:List Addr) (S:List Shp) (r:Nat),n=r+1/\vs=[.ref a]/\kd.Rk r/\kd.Fit S.length/\KO c K H sa a kd/\SW c K H sa S/\Wel S/\∀v fs H',jJ H H'->New H fs->Tr true K H' v (blD S r kd) fs->Q v H'
inductive aFn (c:Cl5) (K:Ξ) (n:Nat) (vs:List V) (H:Hp) (Q:VK):Prop|mk:∀(s:Addr) (i:Nat) (sa:List Addr) (S:List Shp) (r:Nat),n=r+1->vs=[.ref s]->sa[i]?=some s->2*i+2<=r->SW c K H sa S->Wel S->(∀v fs H',jJ H H'->New H fs->Tr true K H' v (blD S r (.nest i)) fs->Q v H')->aFn c K n vs H Q
def aEu (c:Cl5) (K:Ξ) (n:Nat):Sp:=fun vs H Q _=>aFn c K n vs H Q
inductive aEp (K:Ξ) (n:Nat) (vs:List V) (H:Hp) (Q:VK):Prop|mk:∀(x:V) (e:PyData) (fs:List Addr) (r:Nat),n=r+1->vs=[x]->Tre r e->Tr false K H x e fs->(∀v gs H',jJ H H'->New H gs->Tr true K H' v e gs->Q v H')->aEp K n vs H Q
def aFd (K:Ξ) (n:Nat):Sp:=fun vs H Q _=>aEp K n vs H Q
def aKs (K:Ξ):Sp:=fun vs H Q _=>∃(p:Str) (b:Int) (rl:Addr) (i:Nat) (ds:List PyData) (v:Int),vs=[.str p,.int b,.ref rl,.int i]/\RwA K H rl ds/\nx p b (ds.drop i)=some v/\Q (.int v) H
inductive aGa (c:Cl5) (K:Ξ) (n:Nat) (vs:List V) (H:Hp) (Q:VK):Prop|mk:∀(a:Addr) (p:Str) (rl:Addr) (i:Nat) (kd:Kd) (sa:List Addr) (S:List Shp) (ds:List PyData) (r:Nat) (d:PyData) (m:Nat),n=r+1->vs=[.ref a,.str p,.ref rl,.int i]->p.length+8*n<=200->kd.Rk r->kd.Fit S.length->KO c K H sa a kd->SW c K H sa S->Wel S->RwA K H rl ds->rdv S r kd p (ds.drop i)=some (d,m)->(∀t v fs H',jJ H H'->SqT K H' t [v,.int ((i+m:Nat):Int)]->Tr true K H' v d fs->New H fs->Q (.ref t) H')->aGa c K n vs H Q
def aEc (c:Cl5) (K:Ξ) (n:Nat):Sp:=fun vs H Q _=>aGa c K n vs H Q
inductive aFg (c:Cl5) (K:Ξ) (r:Nat) (vs:List V) (H:Hp) (Q:VK):Prop|mk:∀(s rl:Addr) (i:Nat) (sa:List Addr) (S:List Shp) (ds:List PyData) (d:PyData),vs=[.ref s,.ref rl]->sa[i]?=some s->2*i+2<=r->8*(r+1)<=200->SW c K H sa S->Wel S->RwA K H rl ds->rdv S r (.nest i) Str.empty ds=some (d,ds.length)->(∀v fs H',jJ H H'->Tr true K H' v d fs->New H fs->Q v H')->aFg c K r vs H Q
def aOx (c:Cl5) (K:Ξ) (r:Nat):Sp:=fun vs H Q _=>aFg c K r vs H Q
def aJd (K:Ξ):Sp:=fun vs H Q _=>∃(t:Addr) (p:Str) (v:Int),vs=[.ref t]/\SqT K H t [.str p,.int v]/\Q (.bl true) H
theorem aPb{f:Kd->Str->List PyData->Option (PyData×Nat)}{es:List PyData}{m j:Nat}(h:rdL f fs p l=some (es,m))(hj:j<=fs.length):∃es' m',rdL f (fs.take j) p l=some (es',m')/\∀q,fs[j]?=some q->∃d k,f q.2 (pj p q.1) (l.drop m')=some (d,k):=by
 have e:fs=fs.take j++fs.drop j:=(kj j fs).symm;rw[e,mT]at h;cases h1:rdL f (fs.take j) p l with
 |none=>rw[h1]at h;cases h
 |some y =>
  refine⟨y.1,y.2,rfl,fun q hq=>?_⟩;rw[h1]at h;have h2:(rdL f (fs.drop j) p (l.drop y.2)).map (fun z=>(y.1++z.1,y.2+z.2))=some (es,m):=h;have ed:fs.drop j=q::fs.drop (j+1):=by
   obtain⟨h3,h4⟩:=ε.mp hq;rw[jj h3,h4]
  rw[ed]at h2;cases h3:f q.2 (pj p q.1) (l.drop y.2) with
  |none =>
   have:rdL f (q::fs.drop (j+1)) p (l.drop y.2)=none:=by
    show(f q.2 (pj p q.1) (l.drop y.2)).bind _=none;rw[h3];rfl
   rw[this]at h2;cases h2
  |some x=>exact⟨x.1,x.2,rfl⟩
end K19
namespace K19
open PySem L2 PyProof.Rows
inductive aDv (K:Ξ) (n:Nat) (vs:List V) (H:Hp) (Q:VK):Prop|mk:∀(x:V) (e:PyData) (fs:List Addr) (r:Nat),n=r+1->vs=[x]->Tre r e->Tr true K H x e fs->(∀H',Fr fs H H'->Q .non H')->aDv K n vs H Q
def aEs (K:Ξ) (n:Nat):Sp:=fun vs H Q _=>aDv K n vs H Q
inductive aDs (K:Ξ) (n:Nat) (vs:List V) (H:Hp) (Q:VK):Prop|mk:∀(p:Addr) (x:V) (kd:Kd) (S:List Shp) (d:PyData) (r:Nat),n=r+1->vs=[.ref p,x]->St3 H p->kd.Rk r->kd.Fit S.length->Wel S->Dt false K (offs [p] H) x d->Can S r kd d->(∀v e fs H',Drawn p H H'->Tr true K H' v e fs->Rec S r kd d e->New H fs->Q v H')->aDs K n vs H Q
def aEx (K:Ξ) (n:Nat):Sp:=fun vs H Q _=>aDs K n vs H Q
inductive aFm (K:Ξ) (n:Nat) (vs:List V) (H:Hp) (Q:VK):Prop|mk:∀(x:V) (e:PyData) (fs:List Addr) (r:Nat),n=r+1->vs=[x]->Tre r e->Tr true K H x e fs->(∀v gs H',jJ H H'->New H gs->Tr false K H' v (twn r e) gs->Q v H')->aFm K n vs H Q
def aDo (K:Ξ) (n:Nat):Sp:=fun vs H Q _=>aFm K n vs H Q
inductive aFr (K:Ξ) (n:Nat) (vs:List V) (H:Hp) (Q:VK):Prop|mk:∀(x:V) (e:PyData) (r:Nat),n=r+1->vs=[x]->Tre r e->Dt false K H x e->(∀v y H',jJ H H'->Dt true K H' v y->Srt r e y->Q v H')->aFr K n vs H Q
def aFj (K:Ξ) (n:Nat):Sp:=fun vs H Q _=>aFr K n vs H Q
def aEq (K:Ξ) (n:Nat):Sp:=fun vs H Q _=>∃(x:V) (p:Addr) (e:PyData) (fs:List Addr) (i r:Nat),n=r+1/\vs=[x,.ref p]/\Tre r e/\(∀v,e≠.int v)/\Tr true K H x e fs/\H p=some (.lst [.int (i:Nat)])/\p∉fs/\∀H',Fr (p::fs) H H'->H' p=some (.lst [.int ((i+cn r e:Nat):Int)])->Tr true K H' x (nb r e i) fs->Q .non H'
def aFs (K:Ξ) (n:Nat):Sp:=fun vs H Q _=>∃(x:V) (e:PyData) (r:Nat),n=r+1/\vs=[x]/\Tre r e/\Dt false K H x e/\(nu r e).length<=2000/\∀l H',jJ H H'->H' l=some (.lst ((nu r e).map V.int))->Q (.ref l) H'
inductive aEt (K:Ξ) (r:Nat) (vs:List V) (H:Hp) (Q:VK):Prop|mk:∀(x:V) (e:PyData) (fs:List Addr),vs=[x]->Tre r e->((∀v,e≠.int v))->Tr true K H x e fs->cn r e<=2000->(∀H',Fr fs H H'->Q (.bl true) H')->aEt K r vs H Q
def aOt (K:Ξ) (r:Nat):Sp:=fun vs H Q _=>aEt K r vs H Q
theorem aBs{ks:List Str}{ds:List PyData}{r:Nat}(l:ks.length=ds.length)(h:Tre (r+1) (.dict (kvD ks ds))):ks.Nodup/\ks.length<=6/\∀d∈ds,Tre r d:=by
 obtain⟨ks',ds',e,l',n,b,h⟩:=h;obtain⟨rfl,rfl⟩:=zG l l' e;exact⟨n,b,h⟩
theorem aOs{k:Str}{v:V}: ∀{ks:List Str}{xs:List V},k∉ks->(kz ks xs).map (fun kv=>if kv.1=(.inr k:Key) then (kv.1,v) else kv)=kz ks xs
 |[],_,_=>rfl
 |_::_,[],_=>rfl
 |k0::ks,x::xs,h=>by
  show(if (qr k0:Key)=.inr k then ((.inr k0:Key),v) else (.inr k0,x))::(kz ks xs).map _=((.inr k0:Key),x)::kz ks xs;rw[if_neg (fun z=>h (by rw[xl z];exact ρ ..)),aOs fun z=>h (ς _ z)]
theorem aLg{x v:V}{zs:List V}: ∀{ks:List Str}{ys:List V},ks.Nodup->ks.length=(ys++x::zs).length->ks[ys.length]?=some k->(kz ks (ys++x::zs)).map (fun kv=>if kv.1=(.inr k:Key) then (kv.1,v) else kv)=kz ks (ys++v::zs)
 |[],ys,_,l,_=>by simp at l
 |k0::ks,[],nd,_,hk=>by
  cases hk;show(if (qr k:Key)=.inr k then ((.inr k:Key),v) else (.inr k,x))::(kz ks zs).map _=((.inr k:Key),v)::kz ks zs;rw[if_pos rfl,aOs (md.mp nd).1]
 |k0::ks,y::ys,nd,l,hk=>by
  have hk':ks[ys.length]?=some k:=hk;have n0:k0≠k:=fun z=>(md.mp nd).1 (by rw[z];exact ι hk');show(if (qr k0:Key)=.inr k then ((.inr k0:Key),v) else (.inr k0,y))::(kz ks (ys++x::zs)).map _=((.inr k0:Key),y)::kz ks (ys++v::zs);rw[if_neg (fun z=>n0 (xl z)),aLg (md.mp nd).2 (lc l) hk']
theorem aKb{ks:List Str}{ys zs:List V}{x:V}(nd:ks.Nodup)(l:ks.length=(ys++x::zs).length)(hk:ks[ys.length]?=some k):putK (kz ks (ys++x::zs)) (.inr k) v=kz ks (ys++v::zs):=by
 unfold putK;rw[if_pos]
 ·exact aLg nd l hk
 ·have h1:k∈ks:=ι hk;have h2:(qr k:Key)∈(kz ks (ys++x::zs)).map (·.1):=by rw[aE l];exact iu.mpr ⟨k,h1,rfl⟩
  obtain⟨kv,h3,h4⟩:=iu.mp h2;exact yj.mpr ⟨kv,h3,decide_eq_true h4⟩
theorem aQw{α : Type}{xs:List α}{j:Nat}{x : α}(h:xs[j]?=some x):xs=xs.take j++x::xs.drop (j+1):=by
 obtain⟨h1,h2⟩:=ε.mp h;rw[←h2,←jj h1,kj]
theorem aAx{α : Type}: ∀(xs:List α) (x : α) (ys:List α),(xs++x::ys).drop (xs.length+1)=ys
 |[],_,_=>rfl
 |_::xs,x,ys=>aAx xs x ys
theorem aMw{ss:List Str}{zs:List PyData}{j:Nat}{z:PyData}(hl:zs.length=j)(h:ss[j]?=some k):prD (ss.take (j+1)) (zs++[z])=prD (ss.take j) zs++[.tuple [.str k,z]]:=by
 rw[iw,h];have:j<ss.length:=(ε.mp h).1;exact wo (by rw[Θ];omega)
theorem F2.snoc{c:PyData->PyData->Prop}{d e:PyData}(h:c d e):∀{ds es:List PyData},F2 c ds es->F2 c (ds++[d]) (es++[e])
 |[],[],_=>⟨h,jm⟩
 |_::_,_::_,z=>⟨z.1,F2.snoc h z.2⟩
theorem Dts.snoc9{K:Ξ}(h:Dt z K H x d):∀{xs:List V}{ds:List PyData},Dts z K H xs ds->Dts z K H (xs++[x]) (ds++[d])
 |_,_,.nil=>.cons h .nil
 |_,_,.cons h1 t=>.cons h1 (Dts.snoc9 h t)
theorem nK{ks:List Str}{xs:List V}(l:ks.length=xs.length):(kz ks xs).map (fun kv=>kV kv.1)=ks.map V.str:=by
 rw[show(fun kv:Key×V=>kV kv.1)=kV∘(·.1) from rfl,←jp,aE l,jp];rfl
theorem tS : ∀(a b:List PyData),nuL f (a++b)=nuL f a++nuL f b
 |[],_=>rfl
 |d::a,b=>by show f d++nuL f (a++b)=(f d++nuL f a)++nuL f b;rw[tS a b,jg]
theorem aHy{f:PyData->List Int}{j:Nat}(h:(nuL f ds).length<=2000)(hd:ds[j]?=some d):(f d).length<=2000/\(nuL f (ds.take j)).length<=2000/\nuL f (ds.take (j+1))=nuL f (ds.take j)++f d:=by
 have e:nuL f (ds.take (j+1))=nuL f (ds.take j)++f d:=by
  rw[iw,hd,tS];show _++(f d++[])=_;rw[jy]
 have h2:nuL f ds=nuL f (ds.take (j+1))++nuL f (ds.drop (j+1)):=by rw[←tS,kj]
 rw[h2,e,θ,θ]at h;exact⟨by omega,by omega,e⟩
theorem Trs.rep{K:Ξ}(h:Tr false K H v d gs):∀n:Nat,∃fs,Trs false K H (jz n v) (jz n d) fs/\∀a∈fs,a∈gs
 |0=>⟨[],.nil,fun a ha=>by cases ha⟩
 |n+1=>by
  obtain⟨fs,h1,h2⟩:=Trs.rep h n;exact⟨gs++fs,.cons h h1 (fun z=>by cases z),fun a ha=>(ji.mp ha).elim id (h2 a)⟩
theorem Trs.snocF{K:Ξ}(h:Tr false K H x d gs):∀{xs:List V}{ds:List PyData}{fs:List Addr},Trs false K H xs ds fs->Trs false K H (xs++[x]) (ds++[d]) (fs++gs)
 |_,_,_,.nil=>by
  have:=Trs.cons (z:=false) h .nil (fun z=>by cases z)
  rwa [jy]at this
 |_,_,_,.cons (fs:=f1) (gs:=f2) h1 t1 n1=>by
  have:=Trs.cons (z:=false) h1 (Trs.snocF h t1) (fun z=>by cases z)
  rwa [←jg]at this
theorem aEk{ks:List Str}{es:List PyData}(nd:ks.Nodup)(l:ks.length=es.length):kvD ks es=ks.map fun k=>(jr k,(lkD (kvD ks es) k).getD .none):=by
 refine List.ext_getElem? fun j=>?_;rw[ig];unfold kvD;rw[yd];cases h1:ks[j]? with
 |none=>rfl
 |some k =>
  have hj:j<es.length:=by rw[←l];exact(ε.mp h1).1
  have h2:es[j]?=some es[j]:=ζ hj;rw[h2];show some (jr k,es[j])=some (jr k,(lkD (kvD ks es) k).getD .none);rw[mX nd (aDy h1 h2)];rfl
theorem xB.of{c:Kd->PyData->PyData->Prop}: ∀{fs:List (Str×Kd)}{ds es:List PyData},fs.length=ds.length->fs.length=es.length->(∀(j:Nat) (f:Str×Kd) (d e:PyData),fs[j]?=some f->ds[j]?=some d->es[j]?=some e->c f.2 d e)->xB c fs ds es
 |[],[],[],_,_,_=>jm
 |f::fs,d::ds,e::es,l1,l2,h=>⟨h 0 f d e rfl rfl rfl,xB.of (lc l1) (lc l2) fun j f' d' e' h1 h2 h3=>h (j+1) f' d' e' h1 h2 h3⟩
theorem aQv(hS:FNd S){ds:List PyData}{ks:List Str}{es:List PyData}(hl:((Kd.nest i).parts S).length=ds.length)(l:ks.length=es.length)(p:ks.Perm (((Kd.nest i).parts S).map (·.1)))(h:∀(q:Nat) (k:Str) (e:PyData),ks[q]?=some k->es[q]?=some e->∃(j:Nat) (d:PyData) (kd:Kd),((Kd.nest i).parts S)[j]?=some (k,kd)/\ds[j]?=some d/\Rec S r kd d e):Rec S (r+1) (.nest i) (zC (.nest i) ((Kd.nest i).parts S) ds) (.dict (kvD ks es)):=by
 have hn:=vU hS i;have nd:=p.symm.nodup hn;obtain⟨g,hg⟩ : ∃g:Str->PyData,∀k,g k=(lkD (kvD ks es) k).getD .none:=⟨_,fun _=>rfl⟩;have e1:kvD ks es=ks.map fun k=>(jr k,g k):=(aEk nd l).trans (qg fun k _=>by rw[hg]);refine⟨ds,((Kd.nest i).parts S).map fun f=>g f.1,ks,es,rfl,rfl,l,?_,xB.of hl (by rw[δ]) fun j f d e h1 h2 h3=>?_⟩
 ·have e2:kvD (((Kd.nest i).parts S).map (·.1)) (((Kd.nest i).parts S).map fun f=>g f.1)=(((Kd.nest i).parts S).map (·.1)).map fun k=>(jr k,g k):=by
   rw[jp];unfold kvD;rw[List.zipWith_map,List.zipWith_self];rfl
  rw[e1,yM,e2];exact p.map _
 ·obtain⟨fk,fd⟩:=f;rw[ig,h1]at h3;cases h3;obtain⟨q,hq⟩:=jb.mp (p.mem_iff.mpr (iu.mpr ⟨(fk,fd),ι h1,rfl⟩));have he:es[q]?=some (es[q]'(by rw[←l];exact(ε.mp hq).1)):=ζ _;obtain⟨j',d',kd,z1,z2,z3⟩:=h q _ _ hq he;have ej:j'=j:=by
   have a1:(((Kd.nest i).parts S).map (·.1))[j']?=some fk:=by rw[ig,z1];rfl
   have a2:(((Kd.nest i).parts S).map (·.1))[j]?=some fk:=by rw[ig,h1];rfl
   obtain⟨b1,c1⟩:=ε.mp a1;obtain⟨b2,c2⟩:=ε.mp a2;exact(List.getElem_inj hn).mp (c1.trans c2.symm)
  subst ej;rw[h1]at z1;rw[h2]at z2;cases z1;cases z2;show Rec S r fd d (g fk);rw[hg,mX nd (aDy hq he)];exact z3
theorem nR{α : Type}: ∀{l:List α}{c:Nat}{y : α},l[c]?=some y->(y::l.eraseIdx c).Perm l
 |[],_,_,h=>by cases h
 |x::l,0,y,h=>by cases h;exact List.Perm.refl _
 |x::l,c+1,y,h=>(List.Perm.swap x y (l.eraseIdx c)).trans (List.Perm.cons x (nR (c:=c) h))
theorem rZ{α β : Type}(f : α->β):∀(l:List α) (c:Nat),(l.map f).eraseIdx c=(l.eraseIdx c).map f
 |[],_=>rfl
 |_::_,0=>rfl
 |x::l,c+1=>congrArg (f x :: ·) (rZ f l c)
theorem seqIx{c n:Nat}(h:c<n):seqIndex? (c:Int) n=some c:=by
 have h0:¬ ((c:Int)<0):=by omega
 unfold seqIndex?;rw[if_neg h0];show(if (decide ((0:Int)<=(c:Int))&&decide ((c:Int)<(n:Int)))=true then some (c:Int).toNat else none)=some c;rw[decide_eq_true (by omega),decide_eq_true (by omega)];rfl
theorem aEo : ∀(a b:List PyData),cnL c (a++b)=cnL c a+cnL c b
 |[],b=>(Nat.zero_add _).symm
 |d::a,b=>by show c d+cnL c (a++b)=(c d+cnL c a)+cnL c b;rw[aEo a b,wz]
theorem aAh{c:PyData->Nat}{ds:List PyData}{j:Nat}(h:ds[j]?=some d):cnL c (ds.take (j+1))=cnL c (ds.take j)+c d:=by
 rw[iw,h,aEo];rfl
theorem aFl : ∀(a b:List PyData) (i:Nat),nbL c f (a++b) i=nbL c f a i++nbL c f b (i+cnL c a)
 |[],b,i=>rfl
 |d::a,b,i=>by
  show f d i::nbL c f (a++b) (i+c d)=f d i::(nbL c f a (i+c d)++nbL c f b (i+(c d+cnL c a)));rw[aFl a b,wz]
theorem aBp{f:PyData->Nat->PyData}{ds:List PyData}{j:Nat}(h:ds[j]?=some d):nbL c f (ds.take (j+1)) i=nbL c f (ds.take j) i++[f d (i+cnL c (ds.take j))]:=by
 rw[iw,h,aFl];rfl
theorem aLm{ys:List V}{x:V}{zs:List V}{j:Nat}(h:ys.length=j):(ys++x::zs).set j v=ys++v::zs:=by
 subst h
 induction ys with
 |nil=>rfl
 |cons y ys ih=>exact congrArg (y :: ·) ih
theorem vY{α : Type}{xs:List α}: xs.drop xs.length=[]:=xy (ν _)
theorem Tr.tyN{K:Ξ}(h:Tr z K H x d fs)(hn:∀v,d≠.int v):∃t,tyM K x H t/\isa t "int" = false:=by
 cases h with
 |int i=>exact absurd rfl (hn i)
 |lst h _ _=>exact⟨"list",.inl (.inl ⟨rfl,_,SqL.of h⟩),rfl⟩
 |tup h _=>exact⟨"tuple",.inl (.inr ⟨rfl,_,h⟩),rfl⟩
 |dct h _ _ _=>exact⟨"dict",.inr ⟨rfl,_,_,rfl,h⟩,rfl⟩
theorem aBv:∀{ks:List Str}{ds es:List PyData},ks.length=ds.length->il (fun (p:PyData×PyData) d=>(p.1,d)) (kvD ks ds) es=kvD ks es
 |[],[],_,_=>rfl
 |k::ks,d::ds,[],_=>rfl
 |k::ks,d::ds,e::es,h=>by
  show(jr k,e)::il (fun (p:PyData×PyData) d=>(p.1,d)) (kvD ks ds) es=(jr k,e)::kvD ks es;rw[aBv (lc h)]
theorem sZ{f:PyData->Nat->PyData}: ∀{ds:List PyData}{i:Nat}{x:PyData},x∈nbL c f ds i->∃d∈ds,∃j,x=f d j
 |d::ds,i,x,h=>by
  rcases π.mp h with rfl|h
  ·exact⟨d,ρ ..,i,rfl⟩
  ·obtain⟨d',h1,j,h2⟩:=sZ h;exact⟨d',ς _ h1,j,h2⟩
theorem nb_ni{e:PyData}(h:∀v,e≠.int v)(ht:Tre r e)(i:Nat):∀v,nb r e i≠.int v:=fun v z=>by
 cases r with
 |zero=>cases e <;> first|exact ht.elim|exact h _ rfl
 |succ r =>
  cases e with
  |int w=>exact h w rfl
  |list ds=>cases z
  |tuple xs =>
   match xs,ht with
   |[.int j,e],ht=>cases z
  |dict kvs=>cases z
  |none=>exact ht.elim
  |bool _=>exact ht.elim
  |str _=>exact ht.elim
theorem aQy:∀{r:Nat}{e:PyData}{i:Nat},Tre r e->Tre r (nb r e i):=by
 intro r
 induction r with
 |zero=>intro e i h;cases e with
  |int v=>exact jm
  |_=>exact h.elim
 |succ r ih =>
  intro e i h;cases e with
  |int v=>exact jm
  |list ds =>
   obtain⟨h1,h2,h3⟩:=h;refine⟨fun z=>h1 (og (by rw[←hZ (c:=cn r) (f:=nb r) ds i,z];rfl)),by rw[hZ];exact h2,fun x hx=>?_⟩;obtain⟨d,hd,j,rfl⟩:=sZ hx;exact ih (h3 d hd)
  |tuple xs =>
   match xs,h with
   |[.int j,e],h=>exact⟨ih h.1,nb_ni h.2 h.1 i⟩
  |dict kvs =>
   obtain⟨ks,ds,rfl,l,n,b,h⟩:=h;refine⟨ks,nbL (cn r) (nb r) ds i,?_,by rw[hZ];exact l,n,b,fun x hx=>?_⟩
   ·show il (fun (p:PyData×PyData) d=>(p.1,d)) (kvD ks ds) (nbL (cn r) (nb r) ((kvD ks ds).map (·.2)) i)=_;rw[vV l,aBv l]
   ·obtain⟨d,hd,j,rfl⟩:=sZ hx;exact ih (h d hd)
  |none=>exact h.elim
  |bool _=>exact h.elim
  |str _=>exact h.elim
theorem nM{K:Ξ}: ∀os:List Int,DatAll K H (os.map V.int) (os.map PyData.int)
 |[]=>.nil
 |_::os=>.cons (.int _) (nM os)
theorem aMh(os:List Int):ou (.list (os.map PyData.int))=true:=by
 have h1:∀os:List Int,PyData.canLayAll0 (os.map PyData.int)=true:=fun os=>by
  induction os with
  |nil=>rfl
  |cons _ os ih=>exact ih
 have h2:∀os:List Int,lj (os.map PyData.int)=0:=fun os=>by
  induction os with
  |nil=>rfl
  |cons _ os ih=>show max 0 (lj (os.map PyData.int))=0;rw[ih];rfl
 unfold ou;rw[ke];exact⟨h1 os,decide_eq_true (by show lj (os.map PyData.int)+1<=64;rw[h2];decide)⟩
def Ok9:Nat->PyData->Prop
 |_,.int v=>0<=v/\v<4294967296
 |0,_=>False
 |r+1,.list ds=>ds≠[]/\∀d∈ds,Ok9 r d
 |r+1,.tuple [.int j,e]=>(0<=j/\j<4294967296)/\Ok9 r e
 |r+1,.dict kvs=>∃ks ds,kvs=kvD ks ds/\ks.length=ds.length/\ks.Nodup/\ks≠[]/\(∀k∈ks,Sml k/\k.length<=6)/\∀d∈ds,Ok9 r d
 |_,_=>False
theorem aPl(h:Ok9 r (.int v)): 0<=v/\v<4294967296:=by cases r <;> exact h
theorem mQ{c:PyData->Nat}{ds:List PyData}(hn:ds≠[])(h:∀d∈ds,1<=c d): 1<=cnL c ds:=by
 cases ds with
 |nil=>exact absurd rfl hn
 |cons d ds =>
  have:=h d (ρ ..);show 1<=c d+cnL c ds;omega
theorem mW:∀{r:Nat}{e:PyData},Ok9 r e->1<=cn r e:=by
 intro r
 induction r with
 |zero=>intro e h;cases e with
  |int v=>exact ν _
  |_=>exact h.elim
 |succ r ih =>
  intro e h;cases e with
  |int v=>exact ν _
  |list ds=>exact mQ h.1 fun d hd=>ih (h.2 d hd)
  |tuple xs =>
   match xs,h with
   |[.int j,e],h=>exact ih h.2
  |dict kvs =>
   obtain⟨ks,ds,rfl,l,_,hne,_,h⟩:=h;show 1<=cnL (cn r) ((kvD ks ds).map (·.2));rw[vV l];exact mQ (fun z=>hne (og (by rw[l,z];rfl))) fun d hd=>ih (h d hd)
  |none=>exact h.elim
  |bool _=>exact h.elim
  |str _=>exact h.elim
theorem wt9{c t n e:Nat}(hc : 1<=c)(he:e<=10): 120*c*(n+1)+e+(120*t*(n+1)+10*t)<=120*(c+t)*(n+1)+10*(c+t):=by
 have h2 : 120*(c+t)*(n+1)=120*c*(n+1)+120*t*(n+1):=by rw[Nat.mul_add 120 c t,Nat.add_mul]
 rw[h2];omega
theorem aOr : ∀{vs ys:List PyData},F2 (Srt r) vs ys->(∀v∈vs,1<=cn r v/\∀y,Srt r v y->Sn y (120*cn r v*(r+1)) (2*r+1))->SnA ys (120*cnL (cn r) vs*(r+1)+10*cnL (cn r) vs) (2*r+1)
 |[],[],_,_=>by simpa [cnL] using SnA.nil _
 |v::vs,y::ys,h,ih=>by
  obtain⟨h1,h2⟩:=ih v (ρ ..);have k:=SnA.cons (h2 y h.1) (aOr h.2 fun x hx=>ih x (ς _ hx));have w:=wt9 (n:=r) (e:=1) (t:=cnL (cn r) vs) h1 (by decide);exact⟨k.sh,k.ls,ip k.wt w,k.dp⟩
theorem aOj : ∀{ss:List Str}{vs ys:List PyData},F2 (Srt r) vs ys->ss.length=vs.length->(∀k∈ss,Sml k/\k.length<=6)->(∀v∈vs,1<=cn r v/\∀y,Srt r v y->Sn y (120*cn r v*(r+1)) (2*r+1))->SnA (prD ss ys) (120*cnL (cn r) vs*(r+1)+10*cnL (cn r) vs) (2*r+2)
 |[],[],[],_,_,_,_=>by simpa [cnL,prD] using SnA.nil _
 |k::ss,v::vs,y::ys,h,l,hk,ih=>by
  obtain⟨h1,h2⟩:=ih v (ρ ..);obtain⟨k1,k2⟩:=hk k (ρ ..);have s1:=(SnA.cons ((Sn.str k1).le (ν _) (io _)) (SnA.cons (h2 y h.1) (SnA.nil _))).tup;have kk:=SnA.cons s1 (aOj h.2 (lc l) (fun x hx=>hk x (ς _ hx)) fun x hx=>ih x (ς _ hx));have w:=wt9 (n:=r) (e:=k.length+3) (t:=cnL (cn r) vs) h1 (by omega);exact⟨kk.sh,kk.ls,ip kk.wt (ip (by omega) w),kk.dp⟩
theorem wR{a:List PyData}(h:a.Perm b):cnL c a=cnL c b:=by
 induction h with
 |nil=>rfl
 |cons x _ ih=>show c x+cnL c _=c x+cnL c _;rw[ih]
 |swap x y l=>show c y+(c x+cnL c l)=c x+(c y+cnL c l);omega
 |trans _ _ h1 h2=>exact h1.trans h2
theorem F2.of{c:PyData->PyData->Prop}: ∀{ds es:List PyData},ds.length=es.length->(∀(i:Nat) (d e:PyData),ds[i]?=some d->es[i]?=some e->c d e)->F2 c ds es
 |[],[],_,_=>jm
 |d::ds,e::es,l,h=>⟨h 0 d e rfl rfl,F2.of (lc l) fun i d' e' h1 h2=>h (i+1) d' e' h1 h2⟩
theorem aPh:∀{r:Nat}{e y:PyData},Ok9 r e->Srt r e y->Sn y (120*cn r e*(r+1)) (2*r+1):=by
 have base:∀{r:Nat}{v:Int}{y:PyData},Ok9 r (.int v)->Srt r (.int v) y->Sn y (120*cn r (.int v)*(r+1)) (2*r+1):=by
  intro r v y h hs;obtain⟨h1,h2⟩:=aPl h;rw[hU hs,show cn r (.int v)=1 by cases r <;> rfl];refine(Sn.int32 (by omega) (by omega)).le ?_ (io _);have : 120*1*1<=120*1*(r+1):=Nat.mul_le_mul_left _ (by omega);omega
 intro r
 induction r with
 |zero=>intro e y h hs;cases e with
  |int v=>exact base h hs
  |_=>exact h.elim
 |succ r ih =>
  intro e y h hs;have up:∀{c:Nat},120*c*(r+2)=120*c*(r+1+1):=rfl;cases e with
  |int v=>exact base h hs
  |list ds =>
   obtain⟨ys,rfl,hf⟩:=hs;have k:=aOr hf fun v hv=>⟨mW (h.2 v hv),fun y hy=>ih (h.2 v hv) hy⟩;have k2:=SnA.cons ((Sn.str (show Sml rowW by unfold Sml;ac_rfl)).le (ν _) (io _)) k;have c1 : 1<=cnL (cn r) ds:=mQ h.1 fun d hd=>mW (h.2 d hd);refine(SnA.lst k2).le ?_ (by omega);show 3+1+(120*cnL (cn r) ds*(r+1)+10*cnL (cn r) ds)<=120*cnL (cn r) ds*(r+1+1);rw[show 120*cnL (cn r) ds*(r+1+1)=120*cnL (cn r) ds*(r+1)+120*cnL (cn r) ds from Nat.mul_succ _ _];omega
  |tuple xs =>
   match xs,h,hs with
   |[.int j,e],h,hs =>
    obtain⟨z,rfl,hz⟩:=hs;have c1:=mW h.2;obtain⟨hj1,hj2⟩:=h.1;have k:=(SnA.cons ((Sn.str (show Sml aKx by unfold Sml;ac_rfl)).le (ν _) (io _)) (SnA.cons ((Sn.int32 (i:=j) (by omega) (by omega)).le (ν _) (io _)) (SnA.cons (ih h.2 hz) (SnA.nil _)))).tup;refine k.le ?_ (by omega);show 4+1+(101+1+(120*cn r e*(r+1)+1+0))<=120*cn r e*(r+1+1);rw[show 120*cn r e*(r+1+1)=120*cn r e*(r+1)+120*cn r e from Nat.mul_succ _ _];omega
  |dict kvs =>
   obtain⟨ks,ds,rfl,l,nd,hne,hks,hd⟩:=h;obtain⟨ss,ys,rfl,l1,_,hp,hv⟩:=hs;rw[cD l]at hp;have hpk:=hV hp;have em:ks.map (fun k=>(lkD (kvD ks ds) k).getD .none)=ds:=by
    have:=congrArg (List.map Prod.snd) (aEk nd l);rw[vV l,jp]at this;exact this.symm
   have hpm:(ss.map fun k=>(lkD (kvD ks ds) k).getD .none).Perm ds:=(hpk.map _).trans (by rw[em]);have hf:F2 (Srt r) (ss.map fun k=>(lkD (kvD ks ds) k).getD .none) ys:=F2.of (by rw[δ];exact l1) fun i d e h1 h2=>by
    rw[ig]at h1;obtain⟨k,hk,rfl⟩:=kc.mp h1;obtain⟨v,hv1,hv2⟩:=hv i k e hk h2;rw[hv1];exact hv2
   have k:=aOj hf (by rw[δ]) (fun k hk=>hks k (hpk.mem_iff.mp hk)) fun v hv'=>⟨mW (hd v (hpm.mem_iff.mp hv')),fun y hy=>ih (hd v (hpm.mem_iff.mp hv')) hy⟩;rw[wR hpm]at k;refine(SnA.lst k).le ?_ (by omega);have c1 : 1<=cnL (cn r) ds:=mQ (fun z=>hne (og (by rw[l,z];rfl))) fun d hd'=>mW (hd d hd');show _<=120*cnL (cn r) ((kvD ks ds).map (·.2))*(r+1+1);rw[vV l,show 120*cnL (cn r) ds*(r+1+1)=120*cnL (cn r) ds*(r+1)+120*cnL (cn r) ds from Nat.mul_succ _ _];omega
  |none=>exact h.elim
  |bool _=>exact h.elim
  |str _=>exact h.elim
theorem xB.each{c:Kd->PyData->PyData->Prop}(h:xB c fs ds es){e:PyData}(he:e∈es):∃f∈fs,∃d,c f.2 d e:=by
 obtain⟨j,hj⟩:=jb.mp he;obtain⟨f,hf⟩ : ∃f,fs[j]?=some f:=⟨_,ζ (by rw[h.len.2];exact(ε.mp hj).1)⟩;obtain⟨d,e',_,h2,h3⟩:=h.get hf;rw[hj]at h2;cases h2;exact⟨f,ι hf,d,h3⟩
theorem sH{fs:List (Str×Kd)}{ks:List Str}{es es':List PyData}(l:ks.length=es'.length)(l2:fs.length=es.length)(p:(kvD ks es').Perm (eJ fs es)):es'.Perm es:=by
 have:=p.map (·.2)
 rwa [vV l,yM,vV (by rw[δ];exact l2)]at this
theorem aLy(hG:Good S)(hN:NmS S)(hS:FNd S):∀{n:Nat}{k:Kd}{d e:PyData},k.Fit S.length->k.Rk n->Rec S n k d e->Ok9 n e:=by
 have num:∀{n w:Nat}{d e:PyData},(Kd.num w).Fit S.length->Rec S n (.num w) d e->Ok9 n e:=by
  intro n w d e hf h;obtain⟨v,_,rfl,hv⟩ : ∃v:Nat,d=.int v/\e=.int v/\v<256 ^ w:=by cases n <;> exact h
  have:=aHz hf.2 hv;cases n <;> exact⟨by omega,by omega⟩
 intro n
 induction n with
 |zero=>intro k d e hf hr h;cases k with
  |num w=>exact num hf h
  |_=>exact h.elim
 |succ n ih =>
  intro k d e hf hr h;cases k with
  |num w=>exact num hf h
  |pick is =>
   obtain⟨j,i,a,b,hi,_,rfl,h2⟩:=h;have hm:=ι hi;have hj:j<is.length:=(ε.mp hi).1;have:=hf.2.1;exact⟨⟨by omega,by omega⟩,ih (k:=.nest i) (hf.2.2.2 i hm) (show 2*i+2<=n by have:=hr i hm;omega) h2⟩
  |many m k =>
   obtain⟨ds,es,_,rfl,h⟩:=h;obtain⟨p1,p2⟩:=xE hG (.inr ⟨m,k,rfl⟩) hf;refine⟨fun z=>p1 (og (by rw[h.len.2,z];rfl)),fun e he=>?_⟩;obtain⟨f,hf',d1,hr1⟩:=xB.each h he;obtain⟨z1,z2,_⟩:=Kd.parts_ok hG hf hr hf';exact ih z2 z1 hr1
  |nest i =>
   obtain⟨ds,es,ks,es',_,rfl,l,p,h⟩:=h;obtain⟨p1,p2⟩:=xE hG (.inl ⟨i,rfl⟩) hf;have D:=wX (vU hS i) l p h;have hk:=D.p.length_eq;rw[δ]at hk;refine⟨ks,es',rfl,l,D.p.symm.nodup (vU hS i),fun z=>p1 (og (by rw[←hk,z];rfl)),fun k hk'=>?_,fun e he=>?_⟩
   ·obtain⟨f,hf',rfl⟩:=iu.mp (D.p.mem_iff.mp hk');exact⟨iG hN hf hf',(Kd.parts_ok hG hf hr hf').2.2.2⟩
   ·obtain⟨f,hf',d1,hr1⟩:=xB.each h ((sH l h.len.2 p).mem_iff.mp he);obtain⟨z1,z2,_⟩:=Kd.parts_ok hG hf hr hf';exact ih z2 z1 hr1
theorem aPn(hG:Good S):∀{n:Nat}{k:Kd}{d e:PyData},k.Fit S.length->k.Rk n->Rec S n k d e->cn n e<=k.size (tabs S).sz:=by
 have num:∀{n w:Nat}{d e:PyData},(Kd.num w).Fit S.length->Rec S n (.num w) d e->cn n e<=(Kd.num w).size (tabs S).sz:=by
  intro n w d e hf h;obtain⟨v,_,rfl,_⟩ : ∃v:Nat,d=.int v/\e=.int v/\v<256 ^ w:=by cases n <;> exact h
  rw[show cn n (.int v)=1 by cases n <;> rfl];exact hf.1
 intro n
 induction n with
 |zero=>intro k d e hf hr h;cases k with
  |num w=>exact num hf h
  |_=>exact h.elim
 |succ n ih =>
  have ls:∀(fs:List (Str×Kd)) (ds es:List PyData),(∀f∈fs,f.2.Rk n/\f.2.Fit S.length)->xB (Rec S n) fs ds es->cnL (cn n) es<=(fs.map fun f=>f.2.size (tabs S).sz).sum:=by
   intro fs
   induction fs with
   |nil=>intro ds es _ h;cases es with
    |nil=>exact ν _
    |cons _ _=>cases ds <;> exact h.elim
   |cons f fs ihl=>intro ds es hf h;cases ds with
    |nil=>exact h.elim
    |cons d ds=>cases es with
     |nil=>exact h.elim
     |cons e es =>
      obtain⟨a1,a2⟩:=hf f (ρ ..);have b1:=ih a2 a1 h.1;have b2:=ihl ds es (fun g hg=>hf g (ς _ hg)) h.2;show cn n e+cnL (cn n) es<=_;rw[jx,uj];omega
  intro k d e hf hr h;have pf:∀f∈k.parts S,f.2.Rk n/\f.2.Fit S.length:=fun f hf'=>by
   obtain⟨z1,z2,_⟩:=Kd.parts_ok hG hf hr hf';exact⟨z1,z2⟩
  cases k with
  |num w=>exact num hf h
  |pick is =>
   obtain⟨j,i,a,b,hi,_,rfl,h2⟩:=h;have hm:=ι hi;have k1:=ih (k:=.nest i) (hf.2.2.2 i hm) (show 2*i+2<=n by have:=hr i hm;omega) h2;have hs:(Kd.nest i).size (tabs S).sz<=xA (is.map fun i=>(tabs S).sz.getD i 0):=eC (iu.mpr ⟨i,hm,rfl⟩);show cn n b<=1+xA (is.map fun i=>(tabs S).sz.getD i 0);omega
  |many m k =>
   obtain⟨ds,es,_,rfl,h⟩:=h;rw[←fK hG (.inr ⟨m,k,rfl⟩) hf];exact ls _ _ _ pf h
  |nest i =>
   obtain⟨ds,es,ks,es',_,rfl,l,p,h⟩:=h;rw[←fK hG (.inl ⟨i,rfl⟩) hf];show cnL (cn n) ((kvD ks es').map (·.2))<=_;rw[vV l,wR (sH l h.len.2 p)];exact ls _ _ _ pf h
theorem aLw : ∀{n:Nat}{k:Kd}{d e:PyData},Rec S n k d e->Rec S n k (twn n d) (twn n e):=by
 have num:∀{n w:Nat}{d e:PyData},Rec S n (.num w) d e->Rec S n (.num w) (twn n d) (twn n e):=by
  intro n w d e h;obtain⟨v,rfl,rfl,hv⟩ : ∃v:Nat,d=.int v/\e=.int v/\v<256 ^ w:=by cases n <;> exact h
  cases n <;> exact⟨v,rfl,rfl,hv⟩
 intro n
 induction n with
 |zero=>intro k d e h;cases k with
  |num w=>exact num h
  |_=>exact h.elim
 |succ n ih =>
  intro k d e h;cases k with
  |num w=>exact num h
  |pick is =>
   obtain⟨j,i,a,b,hi,rfl,rfl,h2⟩:=h;exact⟨j,i,_,_,hi,rfl,rfl,ih h2⟩
  |many m k =>
   obtain⟨ds,es,rfl,rfl,h⟩:=h;refine⟨_,_,rfl,rfl,xB.of (by rw[mw];exact h.len.1) (by rw[mw];exact h.len.2) fun j f d e h1 h2 h3=>?_⟩;have hfk:∀g∈(Kd.many m k).parts S,g.2=k:=fun g hg=>by
    obtain⟨_,_,rfl⟩:=iu.mp hg;rfl
   obtain⟨e1,e2⟩:=ε.mp h2;obtain⟨e3,e4⟩:=ε.mp h3;rw[List.getElem_replicate]at e2 e4;subst e2 e4;rw[hfk f (ι h1)];cases hp:(Kd.many m k).parts S with
   |nil=>rw[hp]at h1;cases h1
   |cons g gs =>
    rw[hp]at h;cases ds with
    |nil=>exact h.elim
    |cons d0 ds=>cases es with
     |nil=>exact h.elim
     |cons e0 es =>
      have:=ih h.1;rw[hfk g (by rw[hp];exact ρ ..)]at this;exact this
  |nest i =>
   obtain⟨ds,es,ks,es',rfl,rfl,l,p,h⟩:=h;have l1:=h.len.1;have l2:=h.len.2;refine⟨ds.map (twn n),es.map (twn n),ks,es'.map (twn n),?_,congrArg rn (fO _ _ _),by rw[δ];exact l,?_,xB.of (by rw[δ];exact l1) (by rw[δ];exact l2) fun j f d e h1 h2 h3=>?_⟩
   ·show rn ((eJ ((Kd.nest i).parts S) ds).map fun p=>(p.1,twn n p.2))=_;rw[yM,yM,fO]
   ·have:=p.map fun p=>(p.1,twn n p.2);rw[yM,fO,fO]at this;rw[yM];exact this
   ·rw[ig]at h2 h3;obtain⟨d0,hd0,rfl⟩:=kc.mp h2;obtain⟨e0,he0,rfl⟩:=kc.mp h3;obtain⟨d1,e1,z1,z2,z3⟩:=h.get h1;rw[hd0]at z1;rw[he0]at z2;cases z1;cases z2;exact ih z3
theorem aDq(h:Rec S n (.nest i) d e):∃ks es,e=.dict (kvD ks es)/\ks.length=es.length:=by
 cases n with
 |zero=>exact h.elim
 |succ n =>
  obtain⟨_,_,ks,es,_,rfl,l,_⟩:=h;exact⟨ks,es,rfl,l⟩
theorem aCu(h:Rec S n (.nest i) d e):∀v,e≠.int v:=fun v z=>by
 obtain⟨ks,es,rfl,_⟩:=aDq h;cases z
theorem aMt:∀{r:Nat}{e:PyData},Tre r e->e.depth<=r:=by
 intro r
 induction r with
 |zero=>intro e h;cases e with
  |int v=>exact ν _
  |_=>exact h.elim
 |succ r ih =>
  have la:∀ds:List PyData,(∀d∈ds,Tre r d)->lj ds<=r:=by
   intro ds
   induction ds with
   |nil=>intro _;exact io _
   |cons d ds ihl=>intro h;exact Nat.max_le.mpr ⟨ih (h d (ρ ..)),ihl fun x hx=>h x (ς _ hx)⟩
  intro e h;cases e with
  |int v=>exact io _
  |list ds=>exact rq (la ds h.2.2)
  |tuple xs =>
   match xs,h with
   |[.int j,e],h=>exact rq (Nat.max_le.mpr ⟨io _,Nat.max_le.mpr ⟨ih h.1,io _⟩⟩)
  |dict kvs =>
   obtain⟨ks,ds,rfl,l,_,_,h⟩:=h;refine rq ?_;rw[show wd (kvD ks ds)=lj ds from aDp l];exact la ds h
  |none=>exact h.elim
  |bool _=>exact h.elim
  |str _=>exact h.elim
theorem ne9{K:Ξ}{Q:VK}(h:Rec S n (.nest i) d e)(hd:e.depth<=50)(h1:Dt false K H x e)(h2:Dt false K H y e)(q:Q (.bl false) H):rNeT K x y H Q:=by
 obtain⟨ks,es,rfl,l⟩:=aDq h;obtain⟨a,xs,rfl,a1,a2,a3⟩:=aFp h1 l;obtain⟨b,ys,rfl,b1,b2,b3⟩:=aFp h2 l;exact .inl ⟨a,b,ks,xs,ys,es,rfl,rfl,a1,b1,a2,b2,a3,b3,(by rw[←aDp l];have:wd (kvD ks es)+1<=50:=hd;show wd (kvD ks es)<=60;omega),q⟩
def aOz (c:Cl5) (K:Ξ) (r:Nat):Sp:=fun vs H Q _=>∃(p s:Addr) (x:V) (i:Nat) (sa:List Addr) (S:List Shp) (d e:PyData) (fs:List Addr),vs=[.ref p,.ref s,x]/\St3 H p/\p∉fs/\sa[i]?=some s/\2*i+2<=r/\r<=9/\(Kd.nest i).size (tabs S).sz<=64/\SW c K (offs (p::fs) H) sa S/\Wel S/\Tr true K H x e fs/\Rec S r (.nest i) d e/\∀H',St3 H' p->jJ (offs (p::fs) H) H'->Q (.bl true) H'
theorem aIc{K:Ξ}(hs:St3 H p)(h:SqT K H t xs):SqT K (offs [p] H) t xs:=by
 obtain⟨a,b,c,hp⟩:=hs;rcases h with (h|⟨o,h⟩)|h
 ·exact .inl (.inl (vC (fun z=>by rw[ο.mp z,hp]at h;cases h) h))
 ·exact .inl (.inr ⟨o,vC (fun z=>by rw[ο.mp z,hp]at h;cases h) h⟩)
 ·exact .inr h
theorem noM9{K:Ξ}{F:Kd->Bool}(hF:∀k,F k=true->k.isNum=true->False):∀vs H Q E,cO c K 0 F vs H Q E->False:=fun vs H Q E h=>by obtain⟨a,x,kd,sa,S,d,e,_,h1,h2,h3,_⟩:=h;exact hF kd h1 (h2.zero h3)
end K19
namespace L2
open PySem PySem.Spec PyProof.Rows
theorem xK{K:Ξ}: (aDc CX P w K mg base N qual scope f cd A outer s H E).K=K:=rfl
theorem xN{X:Cx}: X.nox.K=X.K:=rfl
theorem aLh{t2:TS}(h:let r2:=t2;vG t1 r2 D σ H):vG t1 t2 D σ H:=h
theorem aNv{t3:TS}(h:let r3:=t3;let r2:=vG t2 r3;vG t1 r2 D σ H):vG t1 (vG t2 t3) D σ H:=h
theorem aMe{t4:TS}(h:let r4:=t4;let r3:=vG t3 r4;let r2:=vG t2 r3;vG t1 r2 D σ H):vG t1 (vG t2 (vG t3 t4)) D σ H:=h
theorem aLo{t5:TS}(h:let r5:=t5;let r4:=vG t4 r5;let r3:=vG t3 r4;let r2:=vG t2 r3;vG t1 r2 D σ H):vG t1 (vG t2 (vG t3 (vG t4 t5))) D σ H:=h
theorem aMx{t6:TS}(h:let r6:=t6;let r5:=vG t5 r6;let r4:=vG t4 r5;let r3:=vG t3 r4;let r2:=vG t2 r3;vG t1 r2 D σ H):vG t1 (vG t2 (vG t3 (vG t4 (vG t5 t6)))) D σ H:=h
theorem aNq{t7:TS}(h:let r7:=t7;let r6:=vG t6 r7;let r5:=vG t5 r6;let r4:=vG t4 r5;let r3:=vG t3 r4;let r2:=vG t2 r3;vG t1 r2 D σ H):vG t1 (vG t2 (vG t3 (vG t4 (vG t5 (vG t6 t7))))) D σ H:=h
end L2
local macro_rules | `(tactic| refine⟨_,($t),?_⟩) => `(tactic| (refine⟨_,$t,?_⟩; (try dsimp only[L2.xK,L2.xN]);first | (refine L2.aNq ?_;intros) | (refine L2.aMx ?_;intros) | (refine L2.aLo ?_;intros) | (refine L2.aMe ?_;intros) | (refine L2.aNv ?_;intros) | (refine L2.aLh ?_;intros)| skip))
namespace K19
open PySem L2 PyProof.Rows
local macro_rules | `(tactic| clear 1 $p:ident $H:ident $g:ident $k:ident $h:ident) => `(tactic| (generalize zq9 : upd _ $p _ = $H;obtain ⟨$g, $k⟩ := kR zq9 $h))
local macro_rules | `(tactic| clear 0 $p:ident $H:ident $g:ident $k:ident) => `(tactic| (generalize zq9 : upd _ $p _ = $H;obtain ⟨$g, $k⟩ := vD zq9))
local macro_rules | `(tactic| walk_at"sc") => `(tactic| exact⟨rfl, rfl, rfl, by decide +kernel, rfl, by decide +kernel, by decide +kernel⟩)
local macro_rules | `(tactic| w_cond $s:ident) => `(tactic| (obtain ⟨M, C, Ua, Ub, Uc, Ud, Ue, Uf⟩ := Z; (first | refine F.ok $s (fun vs H Q E h => ?_) (fun cdv A outer s0 H vs Q E hr0 h => ?_) | refine F.okE $s (fun vs H Q E h => ?_) (fun cdv A outer s0 H vs Q E hr0 h => ?_) | refine F.okH $s (fun vs H Q E h => ?_) (fun cdv A outer s0 H vs Q E hr0 h => ?_)); (rotate_left;have hr := hr0.mono (ug _);rotate_right);try (· first | (cases h;subst_vars;rfl) | repeat (first | (obtain ⟨rfl, _⟩ := h;exact rfl) | obtain ⟨_, h⟩ := h))))
abbrev cG:Stmt:=top 18
theorem pW:jM ["thing","signs","most"] ["thing","signs","most"] (jH cG):=by walk_at"sc"
abbrev iR:Stmt:=top 17
theorem aDa:jM ["thing"] ["thing"] (jH iR):=by walk_at"sc"
abbrev cR:Stmt:=top 19
theorem gP:jM ["text","low","high","number"] ["text","low","high"] (jH cR):=by walk_at"sc"
abbrev nZ:Stmt:=top 23
theorem aHe:jM ["path","step"] ["path","step"] (jH nZ):=by walk_at"sc"
abbrev iH:Stmt:=top 73
theorem aCa:jM ["_law_cell_here"] ["_law_cell_here"] (jH iH):=by walk_at"sc"
abbrev fP:Stmt:=top 74
theorem aC:jM ["_law_box_here","_law_many","_law_digit","_law_number"] ["_law_box_here","_law_many"] (jH fP):=by walk_at"sc"
abbrev eZ:Stmt:=top 72
theorem aAp:jM ["_law_script","_law_k"] ["_law_script","_law_k"] (jH eZ):=by walk_at"sc"
abbrev yX:Stmt:=top 60
theorem iP:jM ["words"] ["words"] (jH yX):=by walk_at"sc"
abbrev fB:Stmt:=inClass (top 25) 3
theorem aAc:jM ["self"] ["self"] (jH fB):=by walk_at"sc"
abbrev aQ:Stmt:=inClass (top 26) 3
theorem oW:jM ["self"] ["self"] (jH aQ):=by walk_at"sc"
abbrev cA:Stmt:=inClass (top 29) 1
theorem rG:jM ["self"] ["self"] (jH cA):=by walk_at"sc"
abbrev dG:Stmt:=inClass (top 25) 4
theorem uR:jM ["self"] ["self"] (jH dG):=by walk_at"sc"
abbrev zQ:Stmt:=inClass (top 26) 4
theorem lY:jM ["self"] ["self"] (jH zQ):=by walk_at"sc"
abbrev aU:Stmt:=inClass (top 29) 2
theorem nG:jM ["self"] ["self"] (jH aU):=by walk_at"sc"
abbrev cS:Stmt:=inClass (top 27) 3
theorem tD:jM ["self"] ["self"] (jH cS):=by walk_at"sc"
abbrev bO:Stmt:=inClass (top 27) 4
theorem pU:jM ["self"] ["self"] (jH bO):=by walk_at"sc"
abbrev yS:Stmt:=inClass (top 28) 4
theorem iX:jM ["self"] ["self"] (jH yS):=by walk_at"sc"
abbrev cE:Stmt:=inClass (top 28) 5
theorem pN:jM ["self"] ["self"] (jH cE):=by walk_at"sc"
abbrev dD:Stmt:=inClass (top 28) 3
theorem tY:jM ["self"] ["self"] (jH dD):=by walk_at"sc"
abbrev fV:Stmt:=inClass (top 25) 0
theorem wH:jM ["self","width"] ["self","width"] (jH fV):=by walk_at"sc"
abbrev aP:Stmt:=inClass (top 26) 0
theorem nA:jM ["self","shape"] ["self","shape"] (jH aP):=by walk_at"sc"
abbrev cU:Stmt:=inClass (top 27) 0
theorem uI:jM ["self","count","kind"] ["self","count","kind"] (jH cU):=by walk_at"sc"
abbrev dR:Stmt:=inClass (top 28) 0
theorem uV:jM ["self","shapes"] ["self","shapes"] (jH dR):=by walk_at"sc"
abbrev aN:Stmt:=inClass (top 30) 0
theorem nJ:jM ["self","shapes"] ["self","shapes"] (jH aN):=by walk_at"sc"
abbrev zN:Stmt:=inClass (top 25) 6
theorem mC:jM ["self","path"] ["self","path"] (jH zN):=by walk_at"sc"
abbrev yY:Stmt:=inClass (top 28) 7
theorem lD:jM ["self","path"] ["self","path"] (jH yY):=by walk_at"sc"
abbrev yV:Stmt:=inClass (top 26) 5
theorem iN:jM ["self"] ["self"] (jH yV):=by walk_at"sc"
abbrev aT:Stmt:=inClass (top 27) 5
theorem oM:jM ["self"] ["self"] (jH aT):=by walk_at"sc"
abbrev yT:Stmt:=inClass (top 24) 2
theorem xG:jM ["self","path","rows","step","kind"] ["self","path"] (jH yT):=by walk_at"sc"
abbrev aK:Stmt:=inClass (top 29) 3
theorem nL:jM ["self"] ["self"] (jH aK):=by walk_at"sc"
abbrev cJ:Stmt:=inClass (top 29) 0
theorem rL:jM ["self","name","fields"] ["self","name","fields"] (jH cJ):=by walk_at"sc"
abbrev dP:Stmt:=top 63
theorem sY:jM ["words"] ["words"] (jH dP):=by walk_at"sc"
abbrev lF:Stmt:=top 62
theorem aBu:jM ["words"] ["words"] (jH lF):=by walk_at"sc"
abbrev yW:Stmt:=top 61
theorem iY:jM ["words"] ["words"] (jH yW):=by walk_at"sc"
abbrev zX:Stmt:=top 66
theorem mG:jM ["words"] ["words"] (jH zX):=by walk_at"sc"
abbrev cH:Stmt:=top 78
theorem pK:jM ["_law_path","_law_step"] ["_law_path","_law_step"] (jH cH):=by walk_at"sc"
abbrev yE:Stmt:=top 64
theorem gN:jM ["told","line","name"] ["told","line","name"] (jH yE):=by walk_at"sc"
abbrev zS:Stmt:=top 67
theorem lV:jM ["told"] ["told"] (jH zS):=by walk_at"sc"
abbrev bN:Stmt:=top 65
theorem xO:jM ["told","line","words","named","at","name"] ["told","line","words"] (jH bN):=by walk_at"sc"
abbrev iF:Stmt:=top 69
theorem aCs:jM ["words","shapes"] ["words","shapes"] (jH iF):=by walk_at"sc"
abbrev aV:Stmt:=top 70
theorem oG:jM ["shape"] ["shape"] (jH aV):=by walk_at"sc"
abbrev bM:Stmt:=top 68
theorem aO:jM ["told","line","words","kind","shape"] ["told","line","words"] (jH bM):=by walk_at"sc"
abbrev aJ:Stmt:=top 59
theorem vP:jM ["text","lines","told","line","row","words"] ["text"] (jH aJ):=by walk_at"sc"
abbrev fQ:Stmt:=top 76
theorem wL:jM ["_law_kind_here","_law_shapes_here"] ["_law_kind_here","_law_shapes_here"] (jH fQ):=by walk_at"sc"
abbrev cT:Stmt:=top 79
theorem uO:jM ["_law_kind_here","_law_shapes_here"] ["_law_kind_here","_law_shapes_here"] (jH cT):=by walk_at"sc"
abbrev dU:Stmt:=top 77
theorem vT:jM ["_law_kind_here","_law_shapes_here","_law_path","_law_found","_law_number","_law_name","_law_inner"] ["_law_kind_here","_law_shapes_here","_law_path"] (jH dU):=by walk_at"sc"
abbrev fE:Stmt:=top 81
theorem lS:jM ["_law_shapes_here","_law_main"] ["_law_shapes_here"] (jH fE):=by walk_at"sc"
abbrev fM:Stmt:=top 80
theorem aB:jM ["_law_box_here","_law_known","_law_way","_law_width","_law_at"] ["_law_box_here","_law_known"] (jH fM):=by walk_at"sc"
abbrev yQ:Stmt:=top 83
theorem iV:jM ["_law_kind_here","_law_shapes_here"] ["_law_kind_here","_law_shapes_here"] (jH yQ):=by walk_at"sc"
abbrev fZ:Stmt:=top 84
theorem xU:jM ["_law_shapes_here","_law_lines","_law_name","_law_fields","_law_field","_law_kind_here"] ["_law_shapes_here"] (jH fZ):=by walk_at"sc"
abbrev cX:Stmt:=top 75
theorem yA:jM ["_law_box_here","_law_way","_law_at","_law_words","_law_tail"] ["_law_box_here"] (jH cX):=by walk_at"sc"
abbrev bP:Stmt:=top 82
theorem qS:jM ["_law_box_here","_law_most","_law_names_here","_law_turn","_law_shapes_here","_law_k","_law_fields","_law_j","_law_field"] ["_law_box_here","_law_most"] (jH bP):=by walk_at"sc"
abbrev fL:Stmt:=top 20
theorem aBt:jM ["width"] ["width"] (jH fL):=by walk_at"sc"
abbrev iT:Stmt:=top 21
theorem aCr:jM ["thing","width"] ["thing","width"] (jH iT):=by walk_at"sc"
abbrev zW:Stmt:=top 37
theorem mF:jM ["pick","thing"] ["pick","thing"] (jH zW):=by walk_at"sc"
abbrev fF:Stmt:=top 85
theorem lK:jM ["_law_box_here","_law_width","_law_most"] ["_law_box_here","_law_width"] (jH fF):=by walk_at"sc"
abbrev dS:Stmt:=top 86
theorem xY:jM ["_law_box_here","_law_kind_here","_law_shapes_here","_law_number","_law_found","_law_name","_law_inner"] ["_law_box_here","_law_kind_here","_law_shapes_here"] (jH dS):=by walk_at"sc"
abbrev fX:Stmt:=top 14
theorem wJ:jM ["thing"] ["thing"] (jH fX):=by walk_at"sc"
abbrev bX:Stmt:=top 16
theorem rE:jM ["thing","low","high"] ["thing","low","high"] (jH bX):=by walk_at"sc"
abbrev fG:Stmt:=top 33
theorem aAm:jM ["kind","thing"] ["kind","thing"] (jH fG):=by walk_at"sc"
abbrev bY:Stmt:=top 34
theorem eQ:jM ["kind","thing","fields"] ["kind","thing"] (jH bY):=by walk_at"sc"
abbrev cY:Stmt:=top 35
theorem tN:jM ["kind","thing"] ["kind","thing"] (jH cY):=by walk_at"sc"
abbrev dI:Stmt:=top 36
theorem tL:jM ["kind","thing"] ["kind","thing"] (jH dI):=by walk_at"sc"
abbrev dJ:Stmt:=top 32
theorem tQ:jM ["shape","thing"] ["shape","thing"] (jH dJ):=by walk_at"sc"
abbrev bS:Stmt:=top 44
theorem vN:jM ["kind","path","value","number","record","shape","rows","step","inner"] ["kind","path","value"] (jH bS):=by walk_at"sc"
abbrev aBx:Stmt:=top 43
theorem aNm:jM ["shape","record"] ["shape","record"] (jH aBx):=by walk_at"sc"
abbrev nU:Stmt:=top 46
theorem aGy:jM ["thing"] ["thing"] (jH nU):=by walk_at"sc"
abbrev aX:Stmt:=top 48
theorem nS:jM ["path","bound","rows","at"] ["path","bound","rows","at"] (jH aX):=by walk_at"sc"
abbrev fN:Stmt:=top 40
theorem wI:jM ["kind","values"] ["kind","values"] (jH fN):=by walk_at"sc"
abbrev fY:Stmt:=top 39
theorem aBg:jM ["kind"] ["kind"] (jH fY):=by walk_at"sc"
abbrev uC:Stmt:=top 38
theorem aIv:jM ["shape"] ["shape"] (jH uC):=by walk_at"sc"
abbrev pA:Stmt:=top 41
theorem aHc:jM ["record"] ["record"] (jH pA):=by walk_at"sc"
abbrev bK:Stmt:=top 47
theorem qH:jM ["kind","path","rows","at","number","shape","record","behind","values","step","inner","value"] ["kind","path","rows","at"] (jH bK):=by walk_at"sc"
abbrev iW:Stmt:=top 45
theorem fA:jM ["shape","rows","record","behind"] ["shape","rows"] (jH iW):=by walk_at"sc"
abbrev bT:Stmt:=top 87
theorem aR:jM ["_law_thing","_law_name","_law_one"] ["_law_thing"] (jH bT):=by walk_at"sc"
abbrev cK:Stmt:=top 90
theorem pZ:jM ["_law_thing"] ["_law_thing"] (jH cK):=by walk_at"sc"
abbrev aW:Stmt:=top 92
theorem vS:jM ["_law_thing","_law_found","_law_one","_law_name"] ["_law_thing"] (jH aW):=by walk_at"sc"
abbrev gJ:Stmt:=top 89
theorem aG:jM ["_law_thing","_law_found","_law_name","_law_one"] ["_law_thing"] (jH gJ):=by walk_at"sc"
abbrev dF:Stmt:=top 88
theorem zE:jM ["_law_box_here","_law_thing","_law_left","_law_found","_law_name"] ["_law_box_here","_law_thing"] (jH dF):=by walk_at"sc"
abbrev zV:Stmt:=top 91
theorem vX:jM ["_law_thing","_law_state","_law_places","_law_place"] ["_law_thing","_law_state"] (jH zV):=by walk_at"sc"
abbrev bQ:Stmt:=top 93
theorem eV:jM ["_law_thing","_law_state"] ["_law_thing"] (jH bQ):=by walk_at"sc"
abbrev dH:Stmt:=top 94
theorem qA:jM ["_law_box_here","_law_shape","_law_record","_law_due","_law_first","_law_second","_law_one","_law_some","_law_turn","_law_k","_law_left","_law_rows","_law_told","_law_again","_law_none","_law_kept"] ["_law_box_here","_law_shape","_law_record"] (jH dH):=by walk_at"sc"
abbrev aKh:Stmt:=top 95
theorem fS:jM ["_law_script","_law_k","_law_box_here","_law_shapes_here","_law_read","_law_at","_law_record"] ["_law_script"] (jH aKh):=by walk_at"sc"
structure ZZ (P:mf) (w:oo) (base:mv) (K:Ξ) (mg:Str->Option Value) (t1 t2 t3 t4 t5 t6 t7 t8 t9 t10 t11 t12 t13:Tok) (ts:Addr) (Va cIu:Addr) (Vb cIv:Addr) (Vc cIx:Addr) (Vd cIy:Addr) (Ve cIz:Addr) (Vf cIw:Addr):Prop where
 M:Blt mg
 C:Cst K mg t1 t2 t3 t4 t5 t6 t7 t8 t9 t10 t11 t12 t13 ts
 Ua:rA K mg "Num" Va cIu ["width"]
 Ub:rA K mg "Nested" Vb cIv ["shape"]
 Uc:rA K mg "Many" Vc cIx ["count","kind"]
 Ud:rA K mg "Pick" Vd cIy ["shapes"]
 Ue:rA K mg "Shape" Ve cIz ["name","fields"]
 Uf:rA K mg "Shapes" Vf cIw ["shapes"]
section
variable {P:mf}{w:oo}{K:Ξ}{mg:Str->Option Value}{base:mv}{t1 t2 t3 t4 t5 t6 t7 t8 t9 t10 t11 t12 t13:Tok}{ts:Addr}{Va cIu:Addr}{Vb cIv:Addr}{Vc cIx:Addr}{Vd cIy:Addr}{Ve cIz:Addr}{Vf cIw:Addr}(Z:ZZ P w base K mg t1 t2 t3 t4 t5 t6 t7 t8 t9 t10 t11 t12 t13 ts Va cIu Vb cIv Vc cIx Vd cIy Ve cIz Vf cIw)
include Z
local macro_rules|`(j0 $a $b)=>`(kH P w K mg base CX0 (k+2) f fd $a $b)
local macro_rules|`(j4 $a $b)=>`(Cal P w K mg base CX0 k $a $b)
local macro_rules|`(j5 $a $b)=>`(yO P w K mg base CX0 k $a $b)
local macro_rules|`(j6 $a $b $c)=>`(zY P w K mg base CX0 k $a $b $c)
local macro_rules|`(j7 0)=>`(Cl5.mk Va Vb Vc Vd Ve)
theorem rB{k:Nat}(F:Fun K "is_text_of" "is_text_of" cG f fd):j0 ["thing","signs","most"] (oX K):=by
 w_cond pW;obtain⟨x,signs,most,rfl,h⟩:=h;refine⟨_,(jD (jX (PW.pt (yP (vH (kK (jG (vK.or nO sA) rfl M.isinstance ii (jA (pv 0) (jA (kT (v:=.ty "str") rfl M.str boot_str rfl) jB))))) (yH (vH (oH eO eO jE (jG aAz rfl M.len je (jA (pv 0) jB)) (pv 2)))))) (jC (jI aA)) jL) (jC (jI (jG (bC rfl) rfl M.all boot_all (jA (kQ ["sign"] ["signs"] [1] rfl (aQg (pv 0)) rfl ⟨rfl,trivial⟩ ⟨⟨rfl,rfl,rfl,_,rfl⟩,trivial⟩ (fun _ _ _ _=>(qC rfl)) (fun _ _ _ _=>kP) (fun _ _ _ _=>(qY aHh (pv 0) (pv 1) (by with_unfolding_all rfl)))) jB))))),?_⟩;rcases h with⟨z,rfl,hz,q⟩|⟨t,ht,hns,q⟩
 ·have hl:=len_list z;refine⟨_,rfl,.inl ⟨_,_,"str",rfl,by decide,rfl,_,rfl,jQ ?_⟩⟩;refine⟨_,rfl,.str z,z.length,rfl,⟨small hz,rfl⟩,_,_,rfl,rfl,_,rfl,yU (fun c1=>?_) (fun c1=>?_)⟩
  ·refine⟨_,rfl,_,_,rfl,rfl,_,rfl,yU (fun c2=>?_) (fun c2=>?_)⟩
   ·have e:within z most=false:=by
     unfold within;have:decide ((z.length:Int)<=most)=false:=by simpa using c2
     rw[this,Bool.and_false]
    have:=q H (jJ.refl H);rw[e,sm]at this;exact this
   ·have e:within z most=true:=by
     unfold within;have c2':decide ((z.length:Int)<=most)=true:=by simpa using c2
     rw[c2',c1];rfl
    refine⟨_,rfl,z,rfl,aHx (fun i ys H'=>H'=H/\ys=((z.cps.toList.take i).map fun c=>decide (c∈signs.cps.toList)).map V.bl) ⟨rfl,rfl⟩ (fun i ys H' _ w=>by rw[w.2,δ,δ];exact wq ..) (kI hz) (fun i c ys H' hc w=>?_) (fun ys H' w p hp=>?_)⟩
    ·obtain⟨rfl,rfl⟩:=w;refine⟨_,rfl,_,rfl,⟨#[c]⟩,signs,rfl,rfl,⟨rfl,?_⟩,_,rfl⟩;rw[aIr (fun c=>decide (c∈signs.cps.toList)) _ i hc,χ,aPy];rfl
    ·obtain⟨rfl,rfl⟩:=w;refine⟨p,(z.cps.toList.map fun c=>decide (c∈signs.cps.toList)),rfl,SqL.of ?_,?_⟩
     ·rw[jP,←hl,List.take_length]
     ·have:=q _ (vQ hp (.lst (((z.cps.toList.take z.length).map fun c=>decide (c∈signs.cps.toList)).map V.bl)));rw[e,Bool.true_and]at this;rw[all_map];exact this
  ·refine⟨_,rfl,?_⟩;have e:within z most=false:=by
    unfold within;have:decide (1<=(z.length:Int))=false:=by simpa using c1
    rw[this,sm]
   have:=q H (jJ.refl H);rw[e,sm]at this;exact kZ this
 ·rcases ht with ht|⟨rfl,p,kvs,rfl,hp⟩
  ·exact⟨_,rfl,.inl ⟨x,_,t,rfl,by decide,ht,_,rfl,xF (by rw[isa3 hns];rfl) (iteT q)⟩⟩
  ·exact⟨_,rfl,.inr ⟨p,_,kvs,rfl,by decide,hp,_,rfl,kZ (iteT q)⟩⟩
theorem aCl(F:Fun K "is_name" "is_name" iR f fd)(bv:j4 "is_text_of" (oX K)):j0 ["thing"] (bA K):=by
 w_cond aDa;obtain⟨x,rfl,h⟩:=h;refine⟨_,(jC (jI (vZ (jF bv hr (jA (pv 0) (jA (qM (v:=.str "abcdefghijklmnopqrstuvwxyz") rfl C.SMALL_LETTERS ⟨_,rfl⟩) (jA (qM (v:=.int 6) rfl C.MOST_LETTERS ⟨_,rfl⟩) jB)))) (xZ (qY tP (pv 0) (qM (v:=.ref ts) rfl C.OWN_WORDS rfl) (by with_unfolding_all rfl)))))),?_⟩;rcases h with⟨z,rfl,hz,q⟩|⟨t,ht,hns,q⟩
 ·refine⟨_,rfl,.str z,zP,6,rfl,.inl ⟨z,rfl,hz,fun H1 g1=>⟨_,rfl,yU (fun c=>?_) (fun c=>?_)⟩⟩⟩
  ·refine⟨_,rfl,ts,_,rfl,.inr (C.words _),rfl,eG _,?_⟩;show Q (.bl (!inV (.str z) (aKk.map V.str))) H1;rw[hJ];have:=q H1 g1;unfold qB at this;rw[c,Bool.true_and]at this;exact this
  ·have:=q H1 g1;unfold qB at this;rw[Bool.eq_false_iff.mpr c,sm]at this;exact this
 ·exact⟨_,rfl,x,zP,6,rfl,.inr ⟨t,ht,hns,⟨_,rfl,iteF (q H (jJ.refl H))⟩⟩⟩
theorem uD{k:Nat}(F:Fun K "number_in" "number_in" cR f fd)(bv:j4 "is_text_of" (oX K)):j0 ["text","low","high"] (fC K):=by
 w_cond gP;obtain⟨x,lo,hi,rfl,h⟩:=h;refine⟨_,(jD (jX (vH (kK (jF bv hr (jA (pv 0) (jA (qM (v:=.str "0123456789") rfl C.FIGURES ⟨_,rfl⟩) (jA (qM (v:=.int 10) rfl C.MOST_FIGURES ⟨_,rfl⟩) jB)))))) (jC (jI lB)) jL) (jD (jX (PW.pt (aKv (kF qQ (jK aDf (pv 0) jE) jO) (aDt (kF eU (jG aAz rfl M.len je (jA (pv 0) jB)) jE)))) (jC (jI lB)) jL) (jD (jR 3 gP.nd (kY bZ rfl M.int boot_int (jA (pv 0) jB))) (jC (jI (aBc (oH eO eO (pv 1) (pv 3) (pv 2)) (pv 3) lB)))))),?_⟩;rcases h with⟨z,rfl,hz,q⟩|⟨t,ht,hns,q⟩
 ·have hl:=len_list z;refine⟨_,rfl,.str z,bD,10,rfl,.inl ⟨z,rfl,hz,fun H1 g1=>⟨_,rfl,yU (fun c=>?_) (fun c=>?_)⟩⟩⟩
  ·have e:uL z=none:=by
    unfold uL;rw[if_neg];intro w;rw[ke]at w;rw[w.1]at c;exact absurd c (by decide)
   have:=q H1 g1;rw[e]at this;exact this
  ·have c':(within z 10&&aAb z bD)=true:=by simpa using c
   have hw : 1<=(z.length:Int):=by
    rw[ke]at c';unfold within at c';have:=c'.1;rw[ke]at this;exact of_decide_eq_true this.1
   have hw2:(z.length:Int)<=10:=by
    rw[ke]at c';unfold within at c';have:=c'.1;rw[ke]at this;exact of_decide_eq_true this.2
   have hd:PySem.NumText.AllDigits z.cps.toList:=fun d hd=>by
    rw[ke]at c';have:=jq.mp c'.2 d hd;exact(wW d).mp (of_decide_eq_true this)
   obtain⟨c0,hc0⟩ : ∃c0,z.cps.toList[0]?=some c0:=⟨_,ζ (by omega)⟩;have at0:atI z.cps.toList 0=some c0:=by
    have:=qR (j:=0) hc0;simpa using this
   have lead:wS z=(decide (c0=48)&&decide (1<(z.length:Int))):=by
    unfold wS;rw[hc0]
    congr 1
    rw[qv];simp
   have no:wS z=true->Q .non H1:=fun w=>by
    have e:uL z=none:=by
     unfold uL;rw[if_neg];intro v;rw[ke,w]at v;exact absurd v.2 (by decide)
    have:=q H1 g1;rw[e]at this;exact this
   have yes:wS z=false->uL z=some ((PySem.NumText.digitsVal z.cps.toList:Nat):Int):=fun w=>by
    unfold uL;rw[if_pos];rw[c',w];rfl
   have hnum:=PySem.intText_digits (x:=z) hd (by intro w;rw[w]at hc0;cases hc0) (by omega);refine⟨_,rfl,z,_,c0,rfl,rfl,small hz,at0,rfl,_,rfl,?_⟩;rw[is_0];refine yU (fun c1=>?_) (fun c1=>?_)
   ·refine⟨_,rfl,.str z,z.length,rfl,⟨small hz,rfl⟩,_,_,rfl,rfl,_,rfl,yU (fun c2=>?_) (fun c2=>?_)⟩
    ·exact no (by rw[lead,c1];simpa using c2)
    ·have ey:=yes (by rw[lead,Bool.eq_false_iff.mpr c2,Bool.and_false]);refine⟨_,rfl,z,_,rfl,hnum,by omega,?_⟩;refine⟨_,rfl,_,rfl,_,_,rfl,rfl,_,rfl,yU (fun d1=>⟨_,rfl,_,_,rfl,rfl,_,rfl,yU (fun d2=>⟨_,rfl,?_⟩) (fun d2=>?_)⟩) (fun d1=>⟨_,rfl,iteF ?_⟩)⟩
     ·have:=q H1 g1;rw[ey,cM,if_pos ⟨of_decide_eq_true d1,of_decide_eq_true d2⟩]at this;exact this
     ·have:=q H1 g1;rw[ey,cM,if_neg (fun w=>d2 (decide_eq_true w.2))]at this;exact this
     ·have:=q H1 g1;rw[ey,cM,if_neg (fun w=>d1 (decide_eq_true w.1))]at this;exact this
   ·have ey:=yes (by rw[lead,Bool.eq_false_iff.mpr c1,sm]);refine iteF ⟨_,rfl,z,_,rfl,hnum,by omega,?_⟩;refine⟨_,rfl,_,rfl,_,_,rfl,rfl,_,rfl,yU (fun d1=>⟨_,rfl,_,_,rfl,rfl,_,rfl,yU (fun d2=>⟨_,rfl,?_⟩) (fun d2=>?_)⟩) (fun d1=>⟨_,rfl,iteF ?_⟩)⟩
    ·have:=q H1 g1;rw[ey,cM,if_pos ⟨of_decide_eq_true d1,of_decide_eq_true d2⟩]at this;exact this
    ·have:=q H1 g1;rw[ey,cM,if_neg (fun w=>d2 (decide_eq_true w.2))]at this;exact this
    ·have:=q H1 g1;rw[ey,cM,if_neg (fun w=>d1 (decide_eq_true w.1))]at this;exact this
 ·exact⟨_,rfl,x,bD,10,rfl,.inr ⟨t,ht,hns,⟨_,rfl,kZ (q H (jJ.refl H))⟩⟩⟩
theorem aGm{k:Nat}(F:Fun K "joined" "joined" nZ f fd):j0 ["path","step"] dE:=by
 w_cond aHe;obtain⟨p,x,y,rfl,hy,hp,hl,q⟩:=h;refine⟨_,(jC (jI (aBc (cV (pv 0) (fun _=>rfl)) (aMm (aIg (pv 0) (aQu (aIg (pv 1) aRv)))) (aLd (pv 1))))),?_⟩;refine⟨_,rfl,_,⟨small hp,rfl⟩,yU (fun c=>?_) (fun c=>?_)⟩
 ·have hne:¬ p.length=0:=fun z=>by rw[z]at c;exact absurd c (by decide)
  have l1:(Str.empty++p).length<=ψ:=by rw[eA];exact small hp
  have l2:(Str.empty++p++η ".").length<=ψ:=by rw[eA,kq];exact aJu (by have:(η ".").length=1:=rfl;omega)
  have l3:(Str.empty++p++η "." ++ y).length<=ψ:=by rw[eA,kq,kq];exact aJu (by have:(η ".").length=1:=rfl;omega)
  refine⟨_,rfl,p,rfl,small hp,l1,l2,_,rfl,y,hy,small hl,l3,l3,?_⟩;rw[eA];unfold pj at q;rw[if_neg hne]at q;exact q
 ·have hne:p.length=0:=by
   by_cases z:p.length=0
   ·exact z
   ·exact absurd (show((p.length:Int) != 0)=true from bne_iff_ne.mpr (by omega)) c
  unfold pj at q;rw[if_pos hne]at q;exact⟨_,rfl,y,hy,small hl,q⟩
theorem aCx{k:Nat}(F:Fun K "_law_box" "_law_box" iH f fd):j0 ["_law_cell_here"] aOc:=by
 w_cond aCa;obtain⟨c,rfl,q⟩:=h;refine⟨_,(jC (jI (qE (jA (jG (sP rfl) rfl M.max boot_max (jA jE (jA (jV cQ (pv 0) (jV aQz jE jE)) jB))) (jA (jV xT (pv 0) jE) (jA jE jB)))))),?_⟩;exact⟨_,rfl,_,_,rfl,rfl,⟨by decide,by decide,by decide⟩,_,_,rfl,rfl,_,_,rfl,_,rfl,_,_,rfl,rfl,(by show(0:Int)<_;decide),lZ,fun p hp=>q p _ hp ⟨⟨_,_,_,jP⟩,fun b o n e=>by rw[jT n];exact e⟩⟩
theorem aAn{k:Nat}(F:Fun K "_law_take" "_law_take" fP f fd):j0 ["_law_box_here","_law_many"] cC:=by
 w_cond aC;obtain⟨p,m,rfl,hm,hm2,⟨a,b,c,h⟩,q⟩:=h;refine⟨_,(jD (jX (kF eU (jK jU (pv 0) jE) jE) (jD (jR 2 aC.nd (jV xT (jK jU (pv 0) jE) (pv 1))) (jD (cF (jV aJn (jK jU (pv 0) jE) (pv 1)) (nF (pv 0) jE set_list)) (jC (jI (pv 2))))) jL) (jD (cF (jV qG (jK jU (pv 0) jE) jE) (nF (pv 0) jE set_list)) (jD (jR 3 aC.nd (jV xT (jV zU (jV qG (jV qG (jK jU (pv 0) jE) (jV zU jE (jK jU (pv 0) jE))) jE) jE) jE)) (jD (jR 3 aC.nd (jV xT (jV qG (jV qG (jV zU (pv 3) (pv 3)) (jV zU jE (jK jU (pv 0) jE))) jE) jE)) (jC (jI (jV xT (jV aMz (jV xT (jV zU (pv 3) (jV qG (pv 3) jE)) jE) jE) (pv 1)))))))),?_⟩;have nat:∀x:Int,∃v:Nat,x % m=(v:Int)/\(v:Int)<m:=fun x=>by
  have h0:=Int.emod_nonneg x (show m≠0 by omega);have h1:=Int.emod_lt_of_pos x hm;exact⟨(x % m).toNat,by omega,by omega⟩
 refine⟨_,rfl,p,_,_,_,rfl,rfl,SqL.of h,rfl,_,_,rfl,rfl,_,rfl,yU (fun cc=>?_) (fun cc=>?_)⟩
 ·refine⟨_,rfl,p,_,_,_,rfl,rfl,SqL.of h,rfl,_,rfl,_,_,rfl,rfl,hm,?_⟩;refine⟨_,rfl,p,_,_,_,rfl,rfl,SqL.of h,rfl,_,rfl,_,_,rfl,rfl,⟨hm,Int.lt_trans hm2 (by decide)⟩,_,rfl,p,_,_,0,rfl,rfl,h,rfl,?_⟩;obtain⟨v,hv,hl⟩:=nat a;refine⟨_,rfl,?_⟩;show Q (.int (a % m)) _;rw[hv];exact q v _ hl ⟨⟨_,_,_,jP⟩,fun b' o n e=>by rw[jT n];exact e⟩
 ·refine⟨_,rfl,p,_,_,_,rfl,rfl,SqL.of h,rfl,_,_,rfl,rfl,_,rfl,p,_,_,2,rfl,rfl,h,rfl,?_⟩;have h1:upd H p (.lst [.int a,.int b,.int (c+1)]) p=some (.lst [.int a,.int b,.int (c+1)]):=jP;refine⟨_,rfl,p,_,_,_,rfl,rfl,SqL.of h1,rfl,_,rfl,p,_,_,_,rfl,rfl,SqL.of h1,rfl,_,_,rfl,rfl,.inl ⟨by omega,by omega⟩,_,_,rfl,rfl,_,_,rfl,rfl,_,_,rfl,rfl,.inr ⟨by omega,by omega⟩,_,_,rfl,rfl,(by show(0:Int)<_;decide),?_⟩;refine⟨_,rfl,_,rfl,_,_,rfl,rfl,.inl ⟨by omega,by omega⟩,_,rfl,p,_,_,_,rfl,rfl,SqL.of h1,rfl,_,_,rfl,rfl,.inl ⟨by omega,by omega⟩,_,_,rfl,rfl,_,_,rfl,rfl,_,_,rfl,rfl,(by show(0:Int)<_;decide),?_⟩;refine⟨_,rfl,_,rfl,_,_,rfl,rfl,_,_,rfl,rfl,.inl ⟨by omega,by omega⟩,_,_,rfl,rfl,(by show(0:Int)<_;decide),_,_,rfl,rfl,⟨by decide,by decide⟩,_,rfl,_,_,rfl,rfl,hm,?_⟩
  (try dsimp only)
  generalize hz:(_ % m:Int)=z;obtain⟨v,hv,hl⟩:=nat (((((((b+7919*(c+1)+17)*48271 % 2147483629)*((b+7919*(c+1)+17)*48271 % 2147483629)+16807*(c+1)+3) % 2147483587)*(((((b+7919*(c+1)+17)*48271 % 2147483629)*((b+7919*(c+1)+17)*48271 % 2147483629)+16807*(c+1)+3) % 2147483587)+11)) % 2147483647) / 8);rw[←hz,hv];exact q v _ hl ⟨⟨_,_,_,jP⟩,fun b' o n e=>by rw[jT n];exact e⟩
theorem aBe{k:Nat}(F:Fun K "_law_cell" "_law_cell" eZ f fd):j0 ["_law_script","_law_k"] (aJl K):=by
 w_cond aAp;obtain⟨a,ns,k,rfl,hS,hk0,hk1,q⟩:=h;refine⟨_,(jD (jX (kF aDw (pv 1) (jG jW rfl M.len je (jA (pv 0) jB))) (jC (jI (jK jU (pv 0) (pv 1)))) jL) (jC (jI (jV qG (jV zU jE (pv 1)) jE)))),?_⟩;have hl:(ns.map V.int).length=ns.length:=δ _;refine⟨_,rfl,_,rfl,a,_,rfl,.inl hS,_,_,rfl,rfl,_,rfl,?_⟩;refine yU (fun c=>?_) (fun c=>?_)
 ·have c':k<(((ns.map V.int).length:Nat):Int):=of_decide_eq_true c;rw[hl]at c';obtain⟨v,hv⟩:=aJw ns hk0 c';exact⟨_,rfl,_,rfl,a,_,_,_,rfl,rfl,hS,hv,q _⟩
 ·exact⟨_,rfl,_,_,rfl,rfl,.inl ⟨by omega,by omega⟩,_,_,rfl,rfl,q _⟩
theorem iK{k:Nat}(F:Fun K "is_shape_line" "is_shape_line" yX f fd)(ak:j4 "is_name" (bA K)):j0 ["words"] (aOa K):=by
 w_cond iP;obtain⟨a,ws,rfl,hw,q⟩:=h;refine⟨_,(jC (jI (vZ (qY qQ (jG jW rfl M.len je (jA (pv 0) jB)) jE (vW _)) (vZ (qY qQ (jK jU (pv 0) jE) jO (vW _)) (xZ (jF ak hr (jA (jK jU (pv 0) jE) jB))))))),?_⟩;refine⟨_,rfl,a,_,rfl,.inl hw.l,rfl,_,rfl,?_⟩
 match ws,hw,q with
 |[],hw,q=>exact jQ (q _ (jJ.refl _))
 |[x],hw,q=>exact vE (by simp) (q _ (jJ.refl _))
 |x::y::z::r,hw,q=>exact vE (by simp;omega) (q _ (jJ.refl _))
 |[x,y],hw,q =>
  refine xF (by simp) ⟨_,rfl,a,_,_,_,rfl,rfl,hw.l,rfl,rfl,_,rfl,yU (fun c=>?_) (fun c=>?_)⟩
  ·refine⟨_,rfl,a,_,_,_,rfl,rfl,hw.l,rfl,.str y,rfl,.inl ⟨y,rfl,hw.s y (by simp),fun H1 g1=>?_⟩⟩;have e:aBb [x,y]=qB y:=by
    show(decide (x=η "shape")&&qB y)=_;rw[decide_eq_true (show x=η "shape" from by simpa using c),Bool.true_and]
   have:=q H1 g1;rw[e]at this;exact this
  ·have e:aBb [x,y]=false:=by
    show(decide (x=η "shape")&&qB y)=_;rw[decide_eq_false (show ¬ x=η "shape" from by simpa using c),sm]
   have:=q _ (jJ.refl _);rw[e]at this;exact this
theorem lI{k:Nat}(F:Fun K "size" "Num.size" fB f fd):j0 ["self"] (spV (j7 0) K r Kd.isNum vSz):=by
 w_cond aAc;obtain⟨a,kd,sa,S,rfl,hF,hk,hf,ho,hw,hg,q⟩:=h;refine⟨_,(jC (jI (qF (pv 0) rfl))),?_⟩;cases id ho with
 |num h1 =>
  exact⟨_,rfl,a,Va,_,_,_,rfl,h1,Ua.cl,Ua.nd,rfl,q _ (jJ.refl _)⟩
 |_=>cases hF
theorem nX(F:Fun K "size" "Nested.size" aQ f fd)(ay:j6 Ve "size" (lJ (j7 0) K r sSz)):j0 ["self"] (spV (j7 0) K (r+1) Kd.isNest vSz):=by
 w_cond oW;obtain⟨a,kd,sa,S,rfl,hF,hk,hf,ho,hw,hg,q⟩:=h;refine⟨_,(jC (jI (zD (qF (pv 0) rfl) Ue.cl ay hr qT))),?_⟩;cases id ho with
 | @nest a dx s i e h1 =>
  obtain⟨sh,hs,dx2,t,ps,h2,_⟩:=hw.at e;exact⟨_,rfl,a,Vb,_,_,_,rfl,h1,Ub.cl,Ub.nd,rfl,s,dx2,_,rfl,h2,rfl,s,i,sa,S,rfl,e,(by have : 2*i+2<=r+1:=hk;omega),hw,hg,q⟩
 |_=>cases hF
theorem eY{k r:Nat}(F:Fun K "size" "Shape.size" cA f fd)(de:∀C sp,TV (j7 0) K r vSz C sp->yN P w K mg base CX0 k "size" C sp):j0 ["self"] (lJ (j7 0) K r sSz):=by
 w_cond rG;obtain⟨a,i,sa,S,rfl,e,hi,hw,hg,q⟩:=h;refine⟨_,(jC (jI (jG (aAr rfl) rfl M.sum (show my "sum" = some (.builtin "sum") from by ac_rfl) (jA (kQ ["name","kind"] [] [] rfl (dN (qF (pv 0) rfl)) rfl trivial trivial (fun _ _ _ _=>(xV (K:=K) (n:=2) rfl rfl (jS (qC rfl) (jS (aM rfl) qK)))) (fun _ _ _ _=>kP) (fun _ _ _ _=>(xI (pv 1) de hr qT))) jB)))),?_⟩;obtain⟨s,hS,so⟩:=hw.at e;obtain⟨dx,t,ps,k1,k2,k3⟩:=so.fields;have zl:(ps.map V.ref).length=s.2.length:=by rw[δ];exact k3.len
 have hfit:=hg.fit i s hS;have htab:=fU hS fun f hf=>(hfit f hf).1.below;have hil:i<S.length:=(ε.mp hS).1;refine⟨_,rfl,a,Ve,_,_,_,rfl,k1,Ue.cl,Ue.nd,rfl,t,rfl,⟨_,k2⟩,zK (xs:=ps.map V.ref) (fun j ys H'=>jJ H H'/\ys=((s.2.take j).map fun f=>V.int (vSz f.2 (tabs S)))) ⟨jJ.refl _,rfl⟩ (fun j ys H' _ z=>⟨z.1.tp k2,by rw[z.2,δ,Θ];exact kg _ _⟩) (kI (by have:=hg.few i s hS;omega)) (fun j x ys H' os ho hx z=>?_) (fun ys H' z p hp=>?_)⟩
 ·obtain⟨g,rfl⟩:=z;obtain⟨o1,o2,rfl⟩:=rN ho;obtain⟨u,hu,rfl⟩:=qJ hx;obtain⟨x,y,kd,k,hf,ht,_,hko⟩:=k3.get hu;have hm:=hfit _ (ι hf);exact⟨u,_,rfl,g.tp ht,rfl,_,_,rfl,_,_,rfl,rfl,_,rfl,aEe (pH (by simp)) (hm.1.rk.mono hi) (hm.1.mono (ql hil)) (hko.same g) (hw.same g) hg fun H2 g2=>⟨⟨g.trans g2,(qO hf).symm⟩,[_,_],rfl,rfl⟩⟩
 ·obtain⟨g,rfl⟩:=z;have g2:=vQ hp (.lst ((s.2.take (ps.map V.ref).length).map fun f=>V.int (vSz f.2 (tabs S))));have kp:upd H' p (.lst ((s.2.take (ps.map V.ref).length).map fun f=>V.int (vSz f.2 (tabs S)))) p=some (.lst (((s.2.map fun f=>vSz f.2 (tabs S)).map fun n:Nat=>(n:Int)).map V.int)):=by
   rw[jP,zl,jZ,jp,jp];rfl
  have q':=q _ (g.trans g2);refine⟨p,(s.2.map fun f=>vSz f.2 (tabs S)).map fun n:Nat=>(n:Int),rfl,SqL.of kp,?_⟩;rw[sumI];rw[show sSz i (tabs S)=(s.2.map fun f=>vSz f.2 (tabs S)).sum from htab.1]at q';exact q'
theorem gL{k:Nat}(F:Fun K "depth" "Num.depth" dG f fd):j0 ["self"] (spV (j7 0) K r Kd.isNum vDp):=by
 w_cond uR;obtain⟨a,kd,sa,S,rfl,hF,hk,hf,ho,hw,hg,q⟩:=h;refine⟨_,(jC (jI jE)),?_⟩;cases id ho with
 |num h1 =>
  exact q _ (jJ.refl _)
 |_=>cases hF
theorem mB(F:Fun K "depth" "Nested.depth" zQ f fd)(au:j6 Ve "depth" (lJ (j7 0) K r sDp)):j0 ["self"] (spV (j7 0) K (r+1) Kd.isNest vDp):=by
 w_cond lY;obtain⟨a,kd,sa,S,rfl,hF,hk,hf,ho,hw,hg,q⟩:=h;refine⟨_,(jC (jI (zD (qF (pv 0) rfl) Ue.cl au hr qT))),?_⟩;cases id ho with
 | @nest a dx s i e h1 =>
  obtain⟨sh,hs,dx2,t,ps,h2,_⟩:=hw.at e;exact⟨_,rfl,a,Vb,_,_,_,rfl,h1,Ub.cl,Ub.nd,rfl,s,dx2,_,rfl,h2,rfl,s,i,sa,S,rfl,e,(by have : 2*i+2<=r+1:=hk;omega),hw,hg,q⟩
 |_=>cases hF
theorem dC{k r:Nat}(F:Fun K "depth" "Shape.depth" aU f fd)(cw:∀C sp,TV (j7 0) K r vDp C sp->yN P w K mg base CX0 k "depth" C sp):j0 ["self"] (lJ (j7 0) K r sDp):=by
 w_cond nG;obtain⟨a,i,sa,S,rfl,e,hi,hw,hg,q⟩:=h;refine⟨_,(jC (jI (jV qG jE (jG (zJ rfl) rfl M.max boot_max (jA (kQ ["name","kind"] [] [] rfl (dN (qF (pv 0) rfl)) rfl trivial trivial (fun _ _ _ _=>(xV (K:=K) (n:=2) rfl rfl (jS (qC rfl) (jS (aM rfl) qK)))) (fun _ _ _ _=>kP) (fun _ _ _ _=>(xI (pv 1) cw hr qT))) jB))))),?_⟩;obtain⟨s,hS,so⟩:=hw.at e;obtain⟨dx,t,ps,k1,k2,k3⟩:=so.fields;have zl:(ps.map V.ref).length=s.2.length:=by rw[δ];exact k3.len
 have hfit:=hg.fit i s hS;have htab:=fU hS fun f hf=>(hfit f hf).1.below;have hil:i<S.length:=(ε.mp hS).1;refine⟨_,rfl,a,Ve,_,_,_,rfl,k1,Ue.cl,Ue.nd,rfl,t,rfl,⟨_,k2⟩,zK (xs:=ps.map V.ref) (fun j ys H'=>jJ H H'/\ys=((s.2.take j).map fun f=>V.int (vDp f.2 (tabs S)))) ⟨jJ.refl _,rfl⟩ (fun j ys H' _ z=>⟨z.1.tp k2,by rw[z.2,δ,Θ];exact kg _ _⟩) (kI (by have:=hg.few i s hS;omega)) (fun j x ys H' os ho hx z=>?_) (fun ys H' z p hp=>?_)⟩
 ·obtain⟨g,rfl⟩:=z;obtain⟨o1,o2,rfl⟩:=rN ho;obtain⟨u,hu,rfl⟩:=qJ hx;obtain⟨x,y,kd,k,hf,ht,_,hko⟩:=k3.get hu;have hm:=hfit _ (ι hf);exact⟨u,_,rfl,g.tp ht,rfl,_,_,rfl,_,_,rfl,rfl,_,rfl,aEe (pH (by simp)) (hm.1.rk.mono hi) (hm.1.mono (ql hil)) (hko.same g) (hw.same g) hg fun H2 g2=>⟨⟨g.trans g2,(qO hf).symm⟩,[_,_],rfl,rfl⟩⟩
 ·obtain⟨g,rfl⟩:=z;have g2:=vQ hp (.lst ((s.2.take (ps.map V.ref).length).map fun f=>V.int (vDp f.2 (tabs S))));have kp:upd H' p (.lst ((s.2.take (ps.map V.ref).length).map fun f=>V.int (vDp f.2 (tabs S)))) p=some (.lst (((s.2.map fun f=>vDp f.2 (tabs S)).map fun n:Nat=>(n:Int)).map V.int)):=by
   rw[jP,zl,jZ,jp,jp];rfl
  have q':=q _ (g.trans g2);refine⟨p,(s.2.map fun f=>vDp f.2 (tabs S)).map fun n:Nat=>(n:Int),rfl,SqL.of kp,(by simpa using hg.ne i s hS),fun m h1 h2=>?_⟩;rw[aGv h1 h2];refine⟨_,_,rfl,rfl,?_⟩;rw[show sDp i (tabs S)=1+xA (s.2.map fun f=>vDp f.2 (tabs S)) from htab.2.1,vh]at q';exact q'
theorem tG(F:Fun K "size" "Many.size" cS f fd)(de:∀C sp,TV (j7 0) K r vSz C sp->yN P w K mg base CX0 k "size" C sp):j0 ["self"] (spV (j7 0) K (r+1) Kd.isMany vSz):=by
 w_cond tD;obtain⟨a,kd,sa,S,rfl,hF,hk,hf,ho,hw,hg,q⟩:=h;refine⟨_,(jC (jI (jV zU (qF (pv 0) rfl) (xI (qF (pv 0) rfl) de hr qT)))),?_⟩;cases id ho with
 | @many a dx b n k h1 h2 =>
  refine⟨_,rfl,a,Vc,_,_,_,rfl,h1,Uc.cl,Uc.nd,rfl,_,rfl,a,Vc,_,_,_,rfl,h1,Uc.cl,Uc.nd,rfl,aEe (pH (by simp)) hk.sub hf.sub h2 hw hg fun H' g=>⟨_,_,rfl,rfl,.inl ⟨by have:=hf.2.1;omega,by have:=hf.2.1;omega⟩,?_⟩⟩;have q':=q H' g;rw[show vSz (Kd.many n k) (tabs S)=n*vSz k (tabs S) from rfl,Int.natCast_mul]at q';exact q'
 |_=>cases hF
theorem rJ(F:Fun K "depth" "Many.depth" bO f fd)(cw:∀C sp,TV (j7 0) K r vDp C sp->yN P w K mg base CX0 k "depth" C sp):j0 ["self"] (spV (j7 0) K (r+1) Kd.isMany vDp):=by
 w_cond pU;obtain⟨a,kd,sa,S,rfl,hF,hk,hf,ho,hw,hg,q⟩:=h;refine⟨_,(jC (jI (xI (qF (pv 0) rfl) cw hr qT))),?_⟩;cases id ho with
 | @many a dx b n k h1 h2 =>
  exact⟨_,rfl,a,Vc,_,_,_,rfl,h1,Uc.cl,Uc.nd,rfl,aEe (pH (by simp)) hk.sub hf.sub h2 hw hg q⟩
 |_=>cases hF
theorem bF{k r:Nat}(F:Fun K "greatest" "Pick.greatest" yS f fd)(ay:j6 Ve "size" (lJ (j7 0) K r sSz)):j0 ["self"] (spGr (j7 0) K (r+1)):=by
 w_cond iX;obtain⟨a,is,sa,S,rfl,hk,hf,ho,hw,hg,q⟩:=h;refine⟨_,(jC (jI (jG (zJ rfl) rfl M.max boot_max (jA (kQ ["shape"] [] [] rfl (dN (qF (pv 0) rfl)) rfl trivial trivial (fun _ _ _ _=>(qC rfl)) (fun _ _ _ _=>kP) (fun _ _ _ _=>(zD (pv 0) Ue.cl ay hr qT))) jB)))),?_⟩;obtain⟨dx,t,ss,h1,h2,h3,h4⟩ : ∃(dx t:Addr) (ss:List Addr),H a=some (.ins Vd dx [("shapes",.ref t)])/\SqT K H t (ss.map V.ref)/\ss.length=is.length/\∀(j i:Nat) (s:Addr),is[j]?=some i->ss[j]?=some s->sa[i]?=some s:=by
  cases ho with
  |pick h1 h2 h3 h4=>exact⟨_,_,_,h1,h2,h3,h4⟩
 have zl:(ss.map V.ref).length=is.length:=by rw[δ];exact h3
 refine⟨_,rfl,a,Vd,_,_,_,rfl,h1,Ud.cl,Ud.nd,rfl,t,rfl,⟨_,h2⟩,nE (xs:=ss.map V.ref) (fun j ys H'=>jJ H H'/\ys=((is.take j).map fun i=>V.int (sSz i (tabs S)))) ⟨jJ.refl _,rfl⟩ (fun j ys H' _ z=>⟨z.1.tp h2,by rw[z.2,δ,Θ];exact kg _ _⟩) (kI (by have:=hf.2.1;omega)) (fun j x ys H' hx z=>?_) (fun ys H' z p hp=>?_)⟩
 ·obtain⟨g,rfl⟩:=z;obtain⟨s,hs,rfl⟩:=qJ hx;have hj:j<is.length:=by rw[←h3];exact(ε.mp hs).1
  have hi:is[j]?=some is[j]:=ζ hj;have e:=h4 j _ s hi hs;obtain⟨sh,hS,dx2,t2,ps,k2,_⟩:=hw.at e;exact⟨_,rfl,s,dx2,_,rfl,g _ _ k2,rfl,s,is[j],sa,S,rfl,e,(by have:=hk _ (ju hj);omega),hw.same g,hg,fun H2 g2=>⟨⟨g.trans g2,(qO hi).symm⟩,_,rfl⟩⟩
 ·obtain⟨g,rfl⟩:=z;have g2:=vQ hp (.lst ((is.take (ss.map V.ref).length).map fun i=>V.int (sSz i (tabs S))));have kp:upd H' p (.lst ((is.take (ss.map V.ref).length).map fun i=>V.int (sSz i (tabs S)))) p=some (.lst (((is.map fun i=>sSz i (tabs S)).map fun n:Nat=>(n:Int)).map V.int)):=by
   rw[jP,zl,jZ,jp,jp];rfl
  have q':=q _ (g.trans g2);refine⟨p,(is.map fun i=>sSz i (tabs S)).map fun n:Nat=>(n:Int),rfl,SqL.of kp,(by have:=hf.1;intro z;rw[jp,List.map_eq_nil_iff]at z;rw[z]at this;exact absurd this (by decide)),fun m h5 h6=>?_⟩;rw[aGv h5 h6];exact q'
theorem pT{k r:Nat}(F:Fun K "depth" "Pick.depth" cE f fd)(au:j6 Ve "depth" (lJ (j7 0) K r sDp)):j0 ["self"] (spV (j7 0) K (r+1) Kd.isPick vDp):=by
 w_cond pN;obtain⟨a,kd,sa,S,rfl,hF,hk,hf,ho,hw,hg,q⟩:=h;refine⟨_,(jC (jI (jG (zJ rfl) rfl M.max boot_max (jA (kQ ["shape"] [] [] rfl (dN (qF (pv 0) rfl)) rfl trivial trivial (fun _ _ _ _=>(qC rfl)) (fun _ _ _ _=>kP) (fun _ _ _ _=>(zD (pv 0) Ue.cl au hr qT))) jB)))),?_⟩;obtain⟨is,dx,t,ss,rfl,h1,h2,h3,h4⟩ : ∃(is:List Nat) (dx t:Addr) (ss:List Addr),kd=.pick is/\H a=some (.ins Vd dx [("shapes",.ref t)])/\SqT K H t (ss.map V.ref)/\ss.length=is.length/\∀(j i:Nat) (s:Addr),is[j]?=some i->ss[j]?=some s->sa[i]?=some s:=by
  cases ho with
  |pick h1 h2 h3 h4=>exact⟨_,_,_,_,rfl,h1,h2,h3,h4⟩
  |_=>cases hF
 have zl:(ss.map V.ref).length=is.length:=by rw[δ];exact h3
 refine⟨_,rfl,a,Vd,_,_,_,rfl,h1,Ud.cl,Ud.nd,rfl,t,rfl,⟨_,h2⟩,nE (xs:=ss.map V.ref) (fun j ys H'=>jJ H H'/\ys=((is.take j).map fun i=>V.int (sDp i (tabs S)))) ⟨jJ.refl _,rfl⟩ (fun j ys H' _ z=>⟨z.1.tp h2,by rw[z.2,δ,Θ];exact kg _ _⟩) (kI (by have:=hf.2.1;omega)) (fun j x ys H' hx z=>?_) (fun ys H' z p hp=>?_)⟩
 ·obtain⟨g,rfl⟩:=z;obtain⟨s,hs,rfl⟩:=qJ hx;have hj:j<is.length:=by rw[←h3];exact(ε.mp hs).1
  have hi:is[j]?=some is[j]:=ζ hj;have e:=h4 j _ s hi hs;obtain⟨sh,hS,dx2,t2,ps,k2,_⟩:=hw.at e;exact⟨_,rfl,s,dx2,_,rfl,g _ _ k2,rfl,s,is[j],sa,S,rfl,e,(by have:=hk _ (ju hj);omega),hw.same g,hg,fun H2 g2=>⟨⟨g.trans g2,(qO hi).symm⟩,_,rfl⟩⟩
 ·obtain⟨g,rfl⟩:=z;have g2:=vQ hp (.lst ((is.take (ss.map V.ref).length).map fun i=>V.int (sDp i (tabs S))));have kp:upd H' p (.lst ((is.take (ss.map V.ref).length).map fun i=>V.int (sDp i (tabs S)))) p=some (.lst (((is.map fun i=>sDp i (tabs S)).map fun n:Nat=>(n:Int)).map V.int)):=by
   rw[jP,zl,jZ,jp,jp];rfl
  have q':=q _ (g.trans g2);refine⟨p,(is.map fun i=>sDp i (tabs S)).map fun n:Nat=>(n:Int),rfl,SqL.of kp,(by have:=hf.1;intro z;rw[jp,List.map_eq_nil_iff]at z;rw[z]at this;exact absurd this (by decide)),fun m h5 h6=>?_⟩;rw[aGv h5 h6];exact q'
theorem uB{r:Nat}(F:Fun K "size" "Pick.size" dD f fd)(bf:j6 Vd "greatest" (spGr (j7 0) K (r+1))):j0 ["self"] (spV (j7 0) K (r+1) Kd.isPick vSz):=by
 w_cond tY;obtain⟨a,kd,sa,S,rfl,hF,hk,hf,ho,hw,hg,q⟩:=h;refine⟨_,(jC (jI (jV qG jE (zD (pv 0) Ud.cl bf hr qT)))),?_⟩;cases id ho with
 | @pick a dx t is ss h1 h2 h3 h4 =>
  refine⟨_,rfl,a,dx,_,rfl,h1,rfl,a,is,sa,S,rfl,hk,hf,ho,hw,hg,fun H' g=>⟨_,_,rfl,rfl,?_⟩⟩;have q':=q H' g;rw[show vSz (Kd.pick is) (tabs S)=1+xA (is.map fun i=>(tabs S).sz.getD i 0) from rfl,vh]at q';exact q'
 |_=>cases hF
theorem wO{k:Nat}(F:Fun K "__init__" "Num.__init__" fV f fd):j0 ["self","width"] (oY Va "width"):=by
 w_cond wH;obtain⟨a,dx,v,H1,rfl,hA,g,h0,q⟩:=h;refine⟨_,(jC (dM (pv 0) (pv 1) rfl)),?_⟩;exact⟨_,rfl,_,rfl,a,Va,dx,[],rfl,hA,Ua.cl,Ua.nd,by decide,q _ (g.putn h0) jP⟩
theorem oB{k:Nat}(F:Fun K "__init__" "Nested.__init__" aP f fd):j0 ["self","shape"] (oY Vb "shape"):=by
 w_cond nA;obtain⟨a,dx,v,H1,rfl,hA,g,h0,q⟩:=h;refine⟨_,(jC (dM (pv 0) (pv 1) rfl)),?_⟩;exact⟨_,rfl,_,rfl,a,Vb,dx,[],rfl,hA,Ub.cl,Ub.nd,by decide,q _ (g.putn h0) jP⟩
theorem tH{k:Nat}(F:Fun K "__init__" "Many.__init__" cU f fd):j0 ["self","count","kind"] (spI2 Vc "count" "kind"):=by
 w_cond uI;obtain⟨a,dx,v,u,H1,rfl,hA,g,h0,q⟩:=h;refine⟨_,(jD (dM (pv 0) (pv 1) rfl) (jC (dM (pv 0) (pv 2) rfl))),?_⟩;exact⟨_,rfl,_,rfl,a,Vc,dx,[],rfl,hA,Uc.cl,Uc.nd,by decide,_,rfl,_,rfl,a,Vc,dx,_,rfl,jP,Uc.cl,Uc.nd,(by show 1<1000;decide),q _ ((g.putn h0).putn h0) jP⟩
theorem uS{k:Nat}(F:Fun K "__init__" "Pick.__init__" dR f fd):j0 ["self","shapes"] (spIT K Vd "shapes"):=by
 w_cond uV;obtain⟨a,dx,l,ys,H1,rfl,hA,g,h0,hl,q⟩:=h;refine⟨_,(jC (dM (pv 0) (kY yK rfl M.tuple qw (jA (pv 1) jB)) rfl)),?_⟩;refine⟨_,rfl,l,ys,rfl,.inl ⟨g.seq hl,fun t ht=>?_⟩⟩;clear 1 t H2 g2 k2 ht;exact⟨_,rfl,a,Vd,dx,[],rfl,g2 _ _ hA,Ud.cl,Ud.nd,by decide,q t _ ((g.trans g2).putn h0) jP (SqT.of (by rw[jT (lm (jN hA ht))];exact k2))⟩
theorem oF{k:Nat}(F:Fun K "__init__" "Shapes.__init__" aN f fd):j0 ["self","shapes"] (spIT K Vf "shapes"):=by
 w_cond nJ;obtain⟨a,dx,l,ys,H1,rfl,hA,g,h0,hl,q⟩:=h;refine⟨_,(jC (dM (pv 0) (kY yK rfl M.tuple qw (jA (pv 1) jB)) rfl)),?_⟩;refine⟨_,rfl,l,ys,rfl,.inl ⟨g.seq hl,fun t ht=>?_⟩⟩;clear 1 t H2 g2 k2 ht;exact⟨_,rfl,a,Vf,dx,[],rfl,g2 _ _ hA,Uf.cl,Uf.nd,by decide,q t _ ((g.trans g2).putn h0) jP (SqT.of (by rw[jT (lm (jN hA ht))];exact k2))⟩
theorem cN{k:Nat}(F:Fun K "units_at" "Num.units_at" zN f fd):j0 ["self","path"] (spU (j7 0) K r Kd.isNum):=by
 w_cond mC;obtain⟨a,p,kd,sa,S,rfl,hp,hF,hk,hf,ho,hw,hg,q⟩:=h;refine⟨_,(jC (jI (qE (jA (kW (jA (pv 1) (jA (qF (pv 0) rfl) (jA jO jB)))) jB)))),?_⟩;cases id ho with
 |num h1 =>
  refine⟨_,rfl,_,rfl,a,Va,_,_,_,rfl,h1,Ua.cl,Ua.nd,rfl,lZ,fun t ht=>?_⟩;clear 1 t H1 g1 k1 ht;refine⟨iU,fun l hl=>?_⟩;clear 1 l H2 g2 k2 hl;exact q l H2 (g1.trans g2) (g1.free hl) ⟨[t],k2,.cons (g2.tp (SqT.of k1)) .nil⟩
 |_=>cases hF
theorem lE{r:Nat}(F:Fun K "units_at" "Pick.units_at" yY f fd)(af:j4 "joined" dE)(bf:j6 Vd "greatest" (spGr (j7 0) K (r+1))):j0 ["self","path"] (spU (j7 0) K (r+1) Kd.isPick):=by
 w_cond lD;obtain⟨a,p,kd,sa,S,rfl,hp,hF,hk,hf,ho,hw,hg,q⟩:=h;refine⟨_,(jC (jI (qE (jA (kW (jA (jF af hr (jA (pv 1) (jA jO jB))) (jA jE (jA jO jB)))) (jA (kW (jA (pv 1) (jA (zD (pv 0) Ud.cl bf hr qT) (jA jO jB)))) jB))))),?_⟩;cases id ho with
 | @pick a dx t is ss h1 h2 h3 h4 =>
  refine⟨_,rfl,p,_,_,rfl,rfl,(by omega),(by decide),lZ,fun t1 ht1=>?_⟩;clear 1 t1 H1 g1 k1 ht1;refine⟨_,rfl,_,rfl,a,dx,_,rfl,g1 _ _ h1,rfl,a,is,sa,S,rfl,hk,hf,ho.same g1,hw.same g1,hg,fun H2 g2=>⟨lZ,fun t2 ht2=>?_⟩⟩;clear 1 t2 H3 g3 k3 ht2;refine⟨xD,fun l hl=>?_⟩;clear 1 l H4 g4 k4 hl;exact q l H4 (((g1.trans g2).trans g3).trans g4) (((g1.trans g2).trans g3).free hl) ⟨[t1,t2],k4,.cons (((g2.trans g3).trans g4).tp (SqT.of k1)) (.cons (g4.tp (SqT.of k3)) .nil)⟩
 |_=>cases hF
theorem iM{k:Nat}(F:Fun K "parted" "Nested.parted" yV f fd):j0 ["self"] (spP2 (j7 0) K Kd.isNest):=by
 w_cond iN;obtain⟨a,kd,sa,S,rfl,hF,hf,ho,hw,hg,q⟩:=h;refine⟨_,(jC (jI (kY tI rfl M.list qh (jA (qF (qF (pv 0) rfl) rfl) jB)))),?_⟩;cases id ho with
 | @nest a dx s i e h1 =>
  obtain⟨sh,hs,dx2,t,ps,k1,k2,k3⟩:=hw.at e;refine⟨_,rfl,a,Vb,_,_,_,rfl,h1,Ub.cl,Ub.nd,rfl,s,Ve,_,_,_,rfl,k1,Ue.cl,Ue.nd,rfl,t,_,rfl,.inr k2,fun l hl=>?_⟩;clear 1 l H1 g1 kl hl;refine q l H1 g1 hl ⟨ps,kl,by rw[xC hs];exact k3.len,fun j t ht=>?_⟩;rw[xC hs];obtain⟨nm,kd,k,h2,h3,h4⟩:=k3.get ht;have h5:=(h4.same g1).more (sa.drop i);rw[kj]at h5;exact⟨nm,kd,k,h2,g1.tp h3,h5⟩
 |_=>cases hF
theorem pC{k:Nat}(F:Fun K "parted" "Many.parted" aT f fd):j0 ["self"] (spP2 (j7 0) K Kd.isMany):=by
 w_cond oM;obtain⟨a,kd,sa,S,rfl,hF,hf,ho,hw,hg,q⟩:=h;refine⟨_,(jC (jI (kQ ["number"] ["self"] [0] rfl (vJ rfl M.range (jA (qF (pv 0) rfl) jB)) rfl ⟨rfl,trivial⟩ ⟨⟨rfl,rfl,rfl,_,rfl⟩,trivial⟩ (fun _ _ _ _=>(qC rfl)) (fun _ _ _ _=>kP) (fun _ _ _ _=>(kW (jA (pv 0) (jA (mV (K:=K) rfl (pv 1) rfl) jB))))))),?_⟩;cases id ho with
 | @many a dx b n k h1 h2 =>
  have hn:n<=6:=hf.2.1;refine⟨_,rfl,a,Vc,_,_,_,rfl,h1,Uc.cl,Uc.nd,rfl,n,rfl,by omega,by omega,yI (n:=n) (fun j ys H'=>jJ H H'/\∃tt:List Addr,ys=tt.map V.ref/\tt.length=j/\∀(i:Nat) (t:Addr),tt[i]?=some t->SqT K H' t [.int i,.ref b]) ⟨jJ.refl _,[],rfl,rfl,fun i t e=>by simp at e⟩ (fun j ys H' _ z=>?_) (kI (by omega)) (fun j ys H' hj z=>?_) (fun ys H' z p hp=>?_)⟩
  ·obtain⟨_,tt,rfl,hl,_⟩:=z;rw[δ];omega
  ·obtain⟨g,tt,rfl,hl,hP⟩:=z;refine⟨_,rfl,_,rfl,a,Vc,_,_,_,rfl,g _ _ h1,Uc.cl,Uc.nd,rfl,xD,fun t ht=>?_⟩;clear 1 t H1 g1 k1 ht;refine⟨⟨g.trans g1,tt++[t],by rw[χ];rfl,by rw[θ,hl];rfl,fun i u e=>?_⟩,_,rfl⟩;rcases aZ e with e|⟨rfl,rfl⟩
   ·exact g1.tp (hP i u e)
   ·rw[hl];rw[rh]at k1;exact SqT.of k1
  ·obtain⟨g,tt,rfl,hl,hP⟩:=z;clear 1 p H1 g1 k1 hp;refine q p H1 (g.trans g1) (g.free hp) ⟨tt,k1,by show tt.length=((jk n).map _).length;rw[hl,δ,jw],fun i t e=>?_⟩;have hi:i<n:=by rw[←hl];exact(ε.mp e).1
   refine⟨η (toString i),k,b,?_,g1.tp (hP i t e),h2.same (g.trans g1)⟩;show((jk n).map _)[i]?=_;rw[ig,ul hi];rfl
 |_=>cases hF
theorem bB{k r:Nat}{FF:Kd->Bool}(hFF:∀k,FF k=true->(∃i,k=.nest i)\/∃n q,k=.many n q)(F:Fun K "units_at" "Kind.units_at" yT f fd)(am:∀C sp,aCn (j7 0) K C sp->yN P w K mg base CX0 k "parted" C sp)(cf:∀C sp,TU (j7 0) K r C sp->yN P w K mg base CX0 k "units_at" C sp)(af:j4 "joined" dE):j0 ["self","path"] (spU (j7 0) K (r+1) FF):=by
 w_cond xG;obtain⟨a,p,kd,sa,S,rfl,hp,hF,hk,hf,ho,hw,hg,q⟩:=h;refine⟨_,(jD (jR 2 xG.nd (qE jB)) (jD (vF jo rfl (kU (xI (pv 0) am hr qT)) (xQ rfl (jS (kS 3 xG.nd) (jS (kS 4 xG.nd) qK))) (jC (qX (aD lh PySem.F.slot_list_extend PySem.F.type_list_extend sT (pv 2) (jA (wM (pv 4) cf hr qT (jA (jF af hr (jA (pv 1) (jA (pv 3) jB))) jB)) jB))))) (jC (jI (pv 2))))),?_⟩;refine⟨cZ,fun l hl=>?_⟩;generalize e1:upd H l _=H1;obtain⟨g1,k1⟩:=kR e1 hl;refine⟨_,rfl,oK (pH (by simp)) (hFF kd hF) hf (ho.same g1) (hw.same g1) hg fun l2 H2 g2 hl2 zq=>?_⟩;obtain⟨tt,k2,zl,pr⟩:=zq;have kl2:=g2 _ _ k1;have n2:l2≠l:=lm (jN k1 hl2);have hw2:=hw.same (g1.trans g2);have bd:=Kd.size_bd hg.sz (by decide) hf;have lens:∀j,(((kd.parts S).take j).flatMap fun f=>un f.2 S (pj p f.1)).length<=6000:=fun j=>by
  have h1:(un kd S p).length<=_:=(hg.kd hf).2 p;rw[Kd.parts_un hg hf (hFF kd hF)]at h1
  conv at h1=>lhs;rw[←kj j (kd.parts S)]
  rw[qf,θ]at h1;omega
 refine⟨l2,rfl,⟨_,SqL.of k2⟩,qU (xs:=tt.map V.ref) (fun j σ H'=>∃o3 o4,σ = [some (.ref a),some (.str p),some (.ref l),o3,o4]/\But l H2 H'/\UL K H' l (((kd.parts S).take j).flatMap fun f=>un f.2 S (pj p f.1))) ⟨_,_,rfl,But.refl,[],kl2,.nil⟩ (fun j σ H' _ z=>?_) (fun j x σ H' hx z=>?_) (fun σ H' z=>?_)⟩
 ·obtain⟨o3,o4,rfl,g,_⟩:=z;exact SqL.of (g _ _ n2 k2)
 ·obtain⟨o3,o4,rfl,g,us,ku,ur⟩:=z;obtain⟨t,ht,rfl⟩:=qJ hx;obtain⟨y,kd',kk,hps,hq,hko⟩:=pr _ _ ht;have hx':=aBy hf hps;obtain⟨p1,p2,p3,p4⟩:=Kd.parts_ok hg hf hk (ι hps);obtain⟨C',dx',fs',sp',m1,m2,m3,m4⟩:=kdU (pH (m:="units_at") (by simp)) p1 p2 (hko.but g kl2) (hw2.but g kl2) hg;have hyl:(pj p y).length<=p.length+7:=by
   have e1:(η ".").length=1:=rfl;have p4':y.length<=6:=p4;unfold pj
   split
   ·omega
   ·rw[kq,kq];omega
  refine⟨t,_,rfl,g.tup kl2 hq,rfl,_,_,rfl,_,_,rfl,rfl,_,rfl,.inl ⟨rfl,_,SqL.of ku⟩,_,rfl,kk,C',dx',fs',sp',rfl,m1,m2,m3,_,rfl,_,rfl,p,_,y,rfl,hx',(by omega),(by have p4':y.length<=6:=p4;omega),m4 _ _ _ (by omega) fun l3 H3 g3 hl3 zq=>?_⟩;obtain⟨us3,k3,ur3⟩:=zq;have ku3:=g3 _ _ ku;have h6:=lens (j+1);rw[dZ hps,θ,←ur.len,←ur3.len]at h6;refine⟨l,l3,_,_,rfl,rfl,ku3,k3,(by rw[jf,δ,δ];omega),?_⟩;clear 0 l H4 g4 k4;refine⟨_,_,rfl,(g.trans (But.of g3)).trans g4,us++us3,by rw[χ];exact k4,?_⟩;rw[dZ hps];exact((ur.same g3).but g4 ku3).app (ur3.but g4 ku3)
 ·obtain⟨o3,o4,rfl,g,u⟩:=z;rw[δ,zl,jZ]at u;refine⟨_,rfl,q l H' (But.from (g1.trans g2) hl g) hl ?_⟩;rw[Kd.parts_un hg hf (hFF kd hF)];exact u
theorem pD(F:Fun K "units" "Shape.units" aK f fd)(ac:j5 cIv (oY Vb "shape"))(cf:∀C sp,TU (j7 0) K r C sp->yN P w K mg base CX0 k "units_at" C sp):j0 ["self"] (aOu (j7 0) K r):=by
 w_cond nL;obtain⟨a,i,sa,S,rfl,e,hi,h8,hw,hg,q⟩:=h;refine⟨_,(jC (jI (wM (xW Ub ac hr0 rfl qT (jA (pv 0) jB)) cf hr qT (jA jO jB)))),?_⟩;refine⟨_,rfl,fun x dx hx hdx _=>⟨x,dx,.ref a,H,rfl,jP,zZ hx hdx,hx,fun H1 g1 k1=>⟨rfl,?_⟩⟩⟩;have hil:i<S.length:=by rw[←hw.1];exact(ε.mp e).1
 obtain⟨C',dx',fs',sp',m1,m2,m3,m4⟩:=kdU (kd:=.nest i) (r:=r) (pH (m:="units_at") (by simp)) hi hil (.nest e k1) (hw.same g1) hg;exact⟨x,C',dx',fs',sp',rfl,m1,m2,m3,m4 _ _ _ (by show 0+8*r<=200;omega) fun l H2 g2 hl u=>q l H2 (g1.trans g2) (g1.free hl) u⟩
theorem rP{k:Nat}(F:Fun K "__init__" "Shape.__init__" cJ f fd):j0 ["self","name","fields"] (aKn (j7 0) K):=by
 w_cond rL;obtain⟨a,dx,fl,nm,ps,fs,sa,H1,rfl,hA,g,h0,hl,hP,hn,q⟩:=h;refine⟨_,(jD (dM (pv 0) (pv 1) rfl) (jC (dM (pv 0) (kY yK rfl M.tuple qw (jA (kQ ["field","kind"] [] [] rfl (aRp (pv 2)) rfl trivial trivial (fun _ _ _ _=>(xV (K:=K) (n:=2) rfl rfl (jS (qC rfl) (jS (aM rfl) qK)))) (fun _ _ _ _=>kP) (fun _ _ _ _=>(kW (jA (pv 0) (jA (pv 1) jB))))) jB)) rfl))),?_⟩;refine⟨_,rfl,_,rfl,a,Ve,dx,[],rfl,hA,Ue.cl,Ue.nd,by decide,?_⟩;have ga:jJ H1 (upd H a (.ins Ve dx (bI "name" (.str nm) []))):=g.putn h0;have ka:upd H a (.ins Ve dx (bI "name" (.str nm) [])) a=some (.ins Ve dx [("name",.str nm)]):=jP;generalize upd H a (.ins Ve dx (bI "name" (.str nm) []))=H2 at ga ka;have zl:(ps.map V.ref).length=fs.length:=by rw[δ];exact hP.len
 have turn:∀(j:Nat) (x:V) (ys:List V) (H':Hp) (Pv:Nat->List V->Hp->Prop),Pv=(fun j ys H'=>jJ H2 H'/\∃tt:List Addr,ys=tt.map V.ref/\tt.length=j/\FO (j7 0) K H' sa tt (fs.take j))->(ps.map V.ref)[j]?=some x->Pv j ys H'->∃t nm kk,x=.ref t/\SqT K H' t [.str nm,.ref kk]/\∀u,H' u=none->Pv (j+1) (ys++[.ref u]) (upd H' u (.tup [.str nm,.ref kk])):=by
  intro j x ys H' Pv eP hx z;subst eP;obtain⟨g2,tt,rfl,htl,hF⟩:=z;obtain⟨t,ht,rfl⟩:=qJ hx;obtain⟨nm',kd,kk,hfs,hq,hko⟩:=hP.get ht;refine⟨t,nm',kk,rfl,g2.tp (ga.tp hq),fun u hu=>?_⟩;generalize e3:upd H' u _=H3;obtain⟨g3,k3⟩:=kR e3 hu;refine⟨g2.trans g3,tt++[u],by rw[χ];rfl,by rw[θ,htl];rfl,?_⟩;have:=(hF.same g3).snoc (SqT.of k3) (hko.same ((ga.trans g2).trans g3));rw[iw,hfs];exact this
 have fin:∀(ys:List V) (H':Hp),(jJ H2 H'/\∃tt:List Addr,ys=tt.map V.ref/\tt.length=(ps.map V.ref).length/\FO (j7 0) K H' sa tt (fs.take (ps.map V.ref).length))->∀p,H' p=none->∀t,upd H' p (.lst ys) t=none->Q .non (upd (upd (upd H' p (.lst ys)) t (.tup ys)) a (.ins Ve dx [("name",.str nm),("fields",.ref t)])):=by
  intro ys H' z p hp t ht;obtain⟨g2,tt,rfl,htl,hF⟩:=z;generalize e3:upd H' p _=H3 at ht;obtain⟨g3,k3⟩:=kR e3 hp;clear 1 t H4 g4 k4 ht;have ka4:H4 a=_:=(g2.trans g3 |>.trans g4) _ _ ka;rw[zl,jZ]at hF;have G:jJ H1 (upd H4 a (.ins Ve dx [("name",.str nm),("fields",.ref t)])):=(((ga.trans g2).trans g3).trans g4).putn h0;have nta:t≠a:=lm (jN ((g2.trans g3) _ _ ka) ht);refine q t tt _ G jP (SqT.of (by rw[jT nta];exact k4)) ?_;exact FO.insD (hF.same (g3.trans g4)) ka4
 have st:jJ H2 H2/\∃tt:List Addr,([]:List V)=tt.map V.ref/\tt.length=0/\FO (j7 0) K H2 sa tt (fs.take 0):=⟨jJ.refl _,[],rfl,rfl,by rw[List.take_zero];exact .nil⟩;have lst:∀(H':Hp) (p t:Addr) (ys:List V),(jJ H2 H'/\∃tt:List Addr,ys=tt.map V.ref/\tt.length=(ps.map V.ref).length/\FO (j7 0) K H' sa tt (fs.take (ps.map V.ref).length))->H' p=none->upd H' p (.lst ys) t=none->upd (upd H' p (.lst ys)) t (.tup ys) a=some (.ins Ve dx [("name",.str nm)]):=fun H' p t ys z hp ht=>(vQ ht _) _ _ ((vQ hp _) _ _ (z.1 _ _ ka));refine⟨_,rfl,fl,rfl,?_⟩;rcases hl with hl|hl
 ·refine .inl ⟨⟨_,ga.seq hl⟩,bV (xs:=ps.map V.ref) (fun j ys H'=>jJ H2 H'/\∃tt:List Addr,ys=tt.map V.ref/\tt.length=j/\FO (j7 0) K H' sa tt (fs.take j)) st (fun j ys H' _ z=>⟨z.1.seq (ga.seq hl),by obtain⟨_,tt,rfl,hl,_⟩:=z;rw[δ];omega⟩) (kI (by omega)) (fun j x ys H' os ho hx z=>?_) (fun ys H' z p hp=>⟨p,ys,rfl,.inl ⟨SqL.of jP,fun t ht=>⟨_,rfl,a,Ve,dx,_,rfl,lst H' p t ys z hp ht,Ue.cl,Ue.nd,(by show 1<1000;decide),fin ys H' z p hp t ht⟩⟩⟩)⟩;obtain⟨o1,o2,rfl⟩:=rN ho;obtain⟨t,nm',kk,rfl,hq,nxt⟩:=turn j x ys H' _ rfl hx z;exact⟨t,_,rfl,hq,rfl,_,_,rfl,_,_,rfl,rfl,_,rfl,_,rfl,xD,fun u hu=>⟨nxt u hu,[_,_],rfl,rfl⟩⟩
 ·refine .inr ⟨⟨_,ga.tp hl⟩,zK (xs:=ps.map V.ref) (fun j ys H'=>jJ H2 H'/\∃tt:List Addr,ys=tt.map V.ref/\tt.length=j/\FO (j7 0) K H' sa tt (fs.take j)) st (fun j ys H' _ z=>⟨z.1.tp (ga.tp hl),by obtain⟨_,tt,rfl,hl,_⟩:=z;rw[δ];omega⟩) (kI (by omega)) (fun j x ys H' os ho hx z=>?_) (fun ys H' z p hp=>⟨p,ys,rfl,.inl ⟨SqL.of jP,fun t ht=>⟨_,rfl,a,Ve,dx,_,rfl,lst H' p t ys z hp ht,Ue.cl,Ue.nd,(by show 1<1000;decide),fin ys H' z p hp t ht⟩⟩⟩)⟩;obtain⟨o1,o2,rfl⟩:=rN ho;obtain⟨t,nm',kk,rfl,hq,nxt⟩:=turn j x ys H' _ rfl hx z;exact⟨t,_,rfl,hq,rfl,_,_,rfl,_,_,rfl,rfl,_,rfl,_,rfl,xD,fun u hu=>⟨nxt u hu,[_,_],rfl,rfl⟩⟩
theorem tT(F:Fun K "is_single" "is_single" dP f fd)(cg:j4 "number_in" (fC K))(ak:j4 "is_name" (bA K)):j0 ["words"] (spSg K):=by
 w_cond sY;obtain⟨a,ws,rfl,hl,hs,q⟩:=h;refine⟨_,(jD (jX (kF qQ (jK jU (pv 0) jE) jO) (jC (jI (vZ (qY qQ (jG jW rfl M.len je (jA (pv 0) jB)) jE (vW _)) (xZ (qY aFu (jF cg hr (jA (jK jU (pv 0) jE) (jA jE (jA (qM (v:=.int 4) rfl C.MOST_WIDTH ⟨_,rfl⟩) jB)))) lB (vW _)))))) jL) (jC (jI (vZ (qY qQ (jG jW rfl M.len je (jA (pv 0) jB)) jE (vW _)) (xZ (jF ak hr (jA (jK jU (pv 0) jE) jB))))))),?_⟩;rcases hs with⟨w,w1,w4,rfl⟩|⟨x,hx,rfl⟩
 ·obtain⟨d1,d2,d3,_⟩:=dig (w:=w) (by omega);refine⟨_,rfl,a,_,_,_,rfl,rfl,hl,rfl,rfl,_,rfl,kZ ⟨_,rfl,a,_,rfl,.inl hl,rfl,_,rfl,xF (by simp) ⟨_,rfl,a,_,_,_,rfl,rfl,hl,rfl,.str _,1,4,rfl,.inl ⟨_,rfl,by omega,fun H1 g1=>⟨rfl,?_⟩⟩⟩⟩⟩;rw[d1,show cM (some (w:Int)) 1 4=some (w:Int) from if_pos ⟨by omega,by omega⟩];exact q H1 g1
 ·have hne:=bL hx (y:="num") (by decide);refine⟨_,rfl,a,_,_,_,rfl,rfl,hl,rfl,rfl,_,rfl,vE (by simpa using hne) ⟨_,rfl,a,_,rfl,.inl hl,rfl,_,rfl,xF (by simp) ⟨_,rfl,a,_,_,_,rfl,rfl,hl,rfl,.str x,rfl,.inl ⟨x,rfl,by have:=(vR hx).2;omega,fun H1 g1=>?_⟩⟩⟩⟩;rw[hx];exact q H1 g1
theorem aCt(F:Fun K "is_kind" "is_kind" lF f fd)(cg:j4 "number_in" (fC K))(cv:j4 "is_single" (spSg K))(ak:j4 "is_name" (bA K)):j0 ["words"] (spKd K):=by
 w_cond aBu;obtain⟨a,nm,n,kd,rfl,hl,hf,hn,q⟩:=h;refine⟨_,(jD (jX (kF qQ (jK jU (pv 0) jE) jO) (jC (jI (vZ (qY eU (jG jW rfl M.len je (jA (pv 0) jB)) jE (vW _)) (vZ (qY aFu (jF cg hr (jA (jK jU (pv 0) jE) (jA jE (jA (qM (v:=.int 6) rfl C.MOST_COUNT ⟨_,rfl⟩) jB)))) lB (vW _)) (xZ (jF cv hr (jA (xJ zH (pv 0) (yL jE) yJ) jB))))))) jL) (jD (jX (kF qQ (jK jU (pv 0) jE) jO) (jC (jI (vZ (aAv eO eO (qM (v:=.int 2) rfl C.LEAST_PICKED ⟨_,rfl⟩) (jV cQ (jG jW rfl M.len je (jA (pv 0) jB)) jE) (qM (v:=.int 4) rfl C.MOST_PICKED ⟨_,rfl⟩)) (xZ (jG (bC rfl) rfl M.all boot_all (jA (kQ ["word"] [] [] rfl (kU (xJ zH (pv 0) (yL jE) yJ)) rfl trivial trivial (fun _ _ _ _=>(qC rfl)) (fun _ _ _ _=>kP) (fun _ _ _ _=>(jF ak hr (jA (pv 0) jB)))) jB)))))) jL) (jC (jI (jF cv hr (jA (pv 0) jB)))))),?_⟩;cases kd with
 |num w=>exact⟨_,rfl,a,_,_,_,rfl,rfl,hl,rfl,rfl,_,rfl,jQ ⟨_,rfl,a,_,_,_,rfl,rfl,hl,rfl,rfl,_,rfl,jQ ⟨_,rfl,a,_,rfl,hl,.inl ⟨w,hf.1,hf.2,rfl⟩,q⟩⟩⟩
 |nest i =>
  have hx:=hn i hf;have h1:=bL hx (y:="row") (by decide);have h2:=bL hx (y:="pick") (by decide);exact⟨_,rfl,a,_,_,_,rfl,rfl,hl,rfl,rfl,_,rfl,vE (by simpa using h1) ⟨_,rfl,a,_,_,_,rfl,rfl,hl,rfl,rfl,_,rfl,vE (by simpa using h2) ⟨_,rfl,a,_,rfl,hl,.inr ⟨_,hx,rfl⟩,q⟩⟩⟩
 |many m k =>
  have hm:=hf.2.1;have hm1:=hf.1;obtain⟨d1,d2,d3,_⟩:=dig (w:=m) (by omega);have hne:=Kd.words_ne nm k;have h0 : 0<(k.words nm).length:=wm.mpr hne;have hl':SqL K H a (V.str (η "row")::V.str (η (toString (m:Int)))::(k.words nm).map V.str):=hl;refine⟨_,rfl,a,_,_,_,rfl,rfl,hl',at0,rfl,_,rfl,kZ ⟨_,rfl,a,_,rfl,.inl hl',_,_,rfl,rfl,_,rfl,xF (by simp;omega) ⟨_,rfl,a,_,_,_,rfl,rfl,hl',at1,.str _,1,6,rfl,.inl ⟨_,rfl,by omega,fun H1 g1=>⟨rfl,_,rfl,?_⟩⟩⟩⟩⟩;rw[d1,show cM (some (m:Int)) 1 6=some (m:Int) from if_pos ⟨by omega,by omega⟩];refine xF (by rfl) ⟨_,rfl,_,rfl,a,_,rfl,g1.seq hl,fun p hp=>?_⟩;rw[show eK ((Kd.words nm (.many m k)).map V.str) (some 2) none=(k.words nm).map V.str from aOq _ _ _];clear 1 p H2 g2 k2 hp;refine⟨p,k.words nm,rfl,SqL.of k2,?_,fun H3 g3=>q H3 ((g1.trans g2).trans g3)⟩;rcases hf.2.2 with⟨w,rfl,hw⟩|⟨i,rfl,hi⟩
  ·exact .inl ⟨w,hw.1,hw.2,rfl⟩
  ·exact .inr ⟨_,hn i hi,rfl⟩
 |pick is =>
  have h1:=hf.1;have h2:=hf.2.1;have hl':SqL K H a (V.str (η "pick")::(is.map nm).map V.str):=hl;have zl:((is.map nm).map V.str).length=is.length:=by rw[δ,δ]
  refine⟨_,rfl,a,_,_,_,rfl,rfl,hl',at0,rfl,_,rfl,jQ ⟨_,rfl,a,_,_,_,rfl,rfl,hl',at0,rfl,_,rfl,kZ ⟨_,rfl,a,_,rfl,.inl hl',_,_,rfl,rfl,_,_,rfl,rfl,_,rfl,xF (by simp;omega) ⟨_,_,rfl,rfl,_,rfl,xF (by simp;omega) ⟨_,rfl,_,rfl,a,_,rfl,hl',fun p hp=>?_⟩⟩⟩⟩⟩;rw[wT];clear 1 p H2 g2 k2 hp;refine⟨p,rfl,⟨_,SqL.of k2⟩,vO (xs:=(is.map nm).map V.str) (fun j ys H'=>jJ H2 H'/\ys=((is.take j).map fun _=>true).map V.bl) ⟨jJ.refl _,rfl⟩ (fun j ys H' _ z=>⟨z.1.seq (SqL.of k2),by rw[z.2,δ,δ,Θ];exact kg _ _⟩) (kI (by omega)) (fun j x ys H' hx z=>?_) (fun ys H' z p hp=>?_)⟩
  ·obtain⟨g,rfl⟩:=z;obtain⟨y,hy,rfl⟩:=xM hx;rw[ig]at hy;cases e:is[j]? with
   |none=>rw[e]at hy;cases hy
   |some i =>
    rw[e]at hy;cases hy;have hx:=hn i (hf.2.2.2 i (ι e));refine⟨_,rfl,.str (nm i),rfl,.inl ⟨_,rfl,by have:=(vR hx).2;omega,fun H3 g3=>⟨⟨g.trans g3,?_⟩,_,rfl⟩⟩⟩;rw[qO e,hx,χ];rfl
  ·obtain⟨g,rfl⟩:=z;have g3:=vQ hp (.lst (((is.take ((is.map nm).map V.str).length).map fun _=>true).map V.bl));refine⟨p,_,rfl,SqL.of jP,?_⟩;rw[show((is.take ((is.map nm).map V.str).length).map fun _=>true).all id=true from jq.mpr fun b hb=>by obtain⟨_,_,rfl⟩:=iu.mp hb;rfl];exact q _ ((g2.trans g).trans g3)
theorem lC(F:Fun K "is_field_line" "is_field_line" yW f fd)(ak:j4 "is_name" (bA K))(fz:j4 "is_kind" (spKd K)):j0 ["words"] (spFl K):=by
 w_cond iY;obtain⟨a,nm,n,kd,fn,rfl,hl,hfn,hf,hn,q⟩:=h;refine⟨_,(jC (jI (vZ (qY eU (jG jW rfl M.len je (jA (pv 0) jB)) jE (vW _)) (vZ (jF ak hr (jA (jK jU (pv 0) jE) jB)) (xZ (jF fz hr (jA (xJ zH (pv 0) (yL jE) yJ) jB))))))),?_⟩;have h0 : 0<(kd.words nm).length:=wm.mpr (Kd.words_ne nm kd);refine⟨_,rfl,a,_,rfl,.inl hl,_,_,rfl,rfl,_,rfl,xF (by simp;omega) ⟨_,rfl,a,_,_,_,rfl,rfl,hl,at0,.str fn,rfl,.inl ⟨fn,rfl,by have:=(vR hfn).2;omega,fun H1 g1=>⟨_,rfl,xF hfn ⟨_,rfl,_,rfl,a,_,rfl,g1.seq hl,fun p hp=>?_⟩⟩⟩⟩⟩;rw[show eK ((fn::kd.words nm).map V.str) (some 1) none=(kd.words nm).map V.str from wT _ _];clear 1 p H2 g2 k2 hp;exact⟨p,nm,n,kd,rfl,SqL.of k2,hf,hn,fun H3 g3=>q H3 ((g1.trans g2).trans g3)⟩
theorem lT(F:Fun K "shapes_named" "shapes_named" zX f fd)(ak:j4 "is_name" (bA K)):j0 ["words"] (aEh K):=by
 w_cond mG;obtain⟨a,nm,n,kd,fn,rfl,hl,hf,hn,q⟩:=h;refine⟨_,(jC (jI (kQ ["word"] [] [] rfl (kU (xJ zH (pv 0) (yL jE) yJ)) rfl trivial trivial (fun _ _ _ _=>(qC rfl)) (fun _ _ _ _=>(aNn (kK (jF ak hr (jA (pv 0) jB))))) (fun _ _ _ _=>(pv 0))))),?_⟩;obtain⟨w6,w5⟩:=eI hn hf;refine⟨_,rfl,_,rfl,a,_,rfl,hl,fun p hp=>?_⟩;rw[show eK ((fn::kd.words nm).map V.str) (some 1) none=(kd.words nm).map V.str from wT _ _];clear 1 p H2 g2 k2 hp;refine⟨p,rfl,⟨_,SqL.of k2⟩,vO (xs:=(kd.words nm).map V.str) (fun j ys H'=>jJ H2 H'/\ys=(((kd.words nm).take j).filter qB).map V.str) ⟨jJ.refl _,rfl⟩ (fun j ys H' hj z=>⟨z.1.seq (SqL.of k2),?_⟩) (kI (by rw[δ];omega)) (fun j x ys H' hx z=>?_) (fun ys H' z l hl=>?_)⟩
 ·rw[z.2,δ];refine ip (List.length_filter_le ..) ?_;rw[Θ];exact kg _ _
 ·obtain⟨g,rfl⟩:=z;obtain⟨y,hy,rfl⟩:=xM hx;have hy6:=w6 y (ι hy);refine⟨_,rfl,.str y,rfl,.inl ⟨_,rfl,by omega,fun H3 g3=>⟨_,rfl,yU (fun c=>⟨_,rfl,⟨g.trans g3,?_⟩,_,rfl⟩) (fun c=>⟨⟨g.trans g3,?_⟩,_,rfl⟩)⟩⟩⟩
  ·rw[sN hy,if_pos c,χ];rfl
  ·rw[sN hy,if_neg c,jy]
 ·obtain⟨g,rfl⟩:=z;clear 1 l H3 g3 k3 hl;rw[δ,jZ,tF hn hf]at k3;exact q l H3 ((g2.trans g).trans g3) ((g2.trans g).free hl) k3
theorem pI{k:Nat}(F:Fun K "_law_joined" "_law_joined" cH f fd):j0 ["_law_path","_law_step"] spLJ:=by
 w_cond pK;obtain⟨p,y,rfl,hp,hy,hy1,q⟩:=h;refine⟨_,(jC (jI (jV vA (jV vA (pv 0) (jV aLn jO (kY lL rfl M.int boot_int (jA (vZ (qY eR (pv 0) jO (vW _)) (xZ (qY eR (pv 1) jO (vW _)))) jB)))) (pv 1)))),?_⟩;have hye:¬ y=η "":=fun z=>by rw[z]at hy1;exact absurd hy1 (by decide)
 have hd:(η ".").length=1:=rfl;refine⟨_,rfl,_,rfl,rfl,_,rfl,yU (fun c=>?_) (fun c=>?_)⟩
 ·have hpe:¬ p.length=0:=fun z=>by
   have e:p=η "":=Str.ext' (by rw[show p.cps = #[] from Array.eq_empty_of_size_eq_zero z];rfl);rw[e]at c;exact absurd c (by decide)
  refine⟨_,rfl,rfl,_,rfl,_,_,rfl,rfl,?_⟩;rw[show(!decide (V.str y=V.str (η "")))=true by simpa using hye];refine⟨.inr rfl,by decide,_,_,rfl,rfl,(by rw[jf,if_pos rfl,if_pos rfl,hd];omega),_,rfl,_,_,rfl,rfl,(by rw[jf,if_pos rfl,if_pos rfl,kq,hd];omega),?_⟩;rw[if_pos rfl,if_pos rfl];unfold pj at q;rw[if_neg hpe]at q;exact q
 ·have hp0:p=η "":=by simpa using c
  subst hp0;refine⟨_,rfl,_,_,rfl,rfl,.inl rfl,by decide,_,_,rfl,rfl,(by decide),_,rfl,_,_,rfl,rfl,(by rw[jf,kq];simp only[uz,if_false];rw[if_neg (by decide)];show 0+0+y.length<=_;omega),?_⟩;unfold pj at q;rw[if_pos (by decide)]at q;simp only[uz,if_false];rw[if_neg (by decide),show η "" = Str.empty from rfl,eA,eA];exact q
theorem gU{k:Nat}(F:Fun K "need_new_shape" "need_new_shape" yE f fd):j0 ["told","line","name"] (aOh (j7 0) K):=by
 w_cond gN;obtain⟨tl,x,nm,sa,T,rfl,hl,hw,hne,hnm,hlen,q⟩:=h;refine⟨_,(jD (jX (PW.pt (aKv (cV (pv 0) (fun _=>rfl)) (aDt (vH (cV (qF (jK jU (pv 0) (oA fT jE)) rfl) (fun _=>rfl)))))) (jC vL) jL) (jD (jX (mP lH (pv 2) (kQ ["shape"] [] [] rfl (kU (pv 0)) rfl trivial trivial (fun _ _ _ _=>(qC rfl)) (fun _ _ _ _=>kP) (fun _ _ _ _=>(mV (K:=K) rfl (pv 0) rfl))) (by with_unfolding_all rfl)) (jC vL) jL) (jC (jX (kF qQ (jG jW rfl M.len je (jA (pv 0) jB)) (qM (v:=.int 8) rfl C.MOST_SHAPES ⟨_,rfl⟩)) (jC vL) jL)))),?_⟩;have zl:(sa.map V.ref).length=T.length:=by rw[δ];exact hw.1
 refine aOi (fun σ' H'=>σ'=[some (.ref tl),some x,some (.str nm)]/\H'=H) (fun σ' H' z=>?_) (fun nx hnx=>?_)
 ·obtain⟨rfl,rfl⟩:=z;refine⟨_,rfl,_,rfl,tl,rfl,⟨_,SqL.of hl⟩,vO (xs:=sa.map V.ref) (fun j ys H2=>H2=H'/\ys=((T.take j).map (·.1)).map V.str) ⟨rfl,rfl⟩ (fun j ys H2 _ z=>⟨by rw[z.1];exact SqL.of hl,by rw[z.2,δ,δ,Θ];exact kg _ _⟩) (kI (by omega)) (fun j x ys H2 hx z=>?_) (fun ys H2 z p hp=>?_)⟩
  ·obtain⟨rfl,rfl⟩:=z;obtain⟨s,hs,rfl⟩:=qJ hx;obtain⟨sh,hS,dx,t,ps,k1,_⟩:=hw.at hs;refine⟨_,rfl,s,Ve,_,_,_,rfl,k1,Ue.cl,Ue.nd,rfl,⟨rfl,?_⟩,_,rfl⟩;rw[qO hS,χ];rfl
  ·obtain⟨rfl,rfl⟩:=z;clear 1 p H3 g3 k3 hp;refine⟨p,_,rfl,.inl (SqL.of k3),rfl,eG _,_,rfl,?_⟩;rw[if_neg υ,hJ,zl,jZ];refine vE (by rw[decide_eq_false hnm];decide) ⟨_,rfl,tl,_,rfl,.inl (SqL.of (g3 _ _ hl)),rfl,_,rfl,vE (by rw[zl];simp;omega) (q H3 g3)⟩
 ·rcases ye sa with rfl|⟨sa0,z,rfl⟩
  ·exact⟨_,rfl,false,.inl ⟨_,SqL.of hl,rfl⟩,jQ (jQ (hnx _ _ ⟨rfl,rfl⟩))⟩
  ·rw[yf]at *;obtain⟨s,hS,so⟩:=hw.at (i:=sa0.length) (a:=z) (by rw[ie (ν _),mi];rfl);obtain⟨dx,t,ps,k1,k2,k3⟩:=so;have hp:ps≠[]:=fun e=>hne s (ι hS) (uv.mp (by rw[←k3.len,e];rfl));exact⟨_,rfl,true,.inl ⟨_,SqL.of hl,by simp⟩,xF rfl ⟨_,rfl,_,rfl,tl,_,_,_,rfl,rfl,SqL.of hl,bH _ _,z,Ve,_,_,_,rfl,k1,Ue.cl,Ue.nd,rfl,true,.inr (.inl ⟨_,k2,by cases ps with|nil=>exact absurd rfl hp|cons _ _=>rfl⟩),jQ (hnx _ _ ⟨rfl,rfl⟩)⟩⟩
theorem lX{k:Nat}(F:Fun K "whole_shapes" "whole_shapes" zS f fd):j0 ["told"] (spWh (j7 0) K):=by
 w_cond lV;obtain⟨tl,z,sa,T,s,rfl,hl,hw,hnd,hlen,q⟩:=h;refine⟨_,(jC (jI (oU ["shape"] [] [] rfl (kU (xJ zH (pv 0) yJ (yL (oA fT jE)))) rfl trivial trivial (fun _ _ _ _=>(qC rfl)) (fun _ _ _ _=>kP) (fun _ _ _ _=>(mV (K:=K) rfl (pv 0) rfl)) (fun _ _ _ _=>(pv 0))))),?_⟩;obtain⟨hw0,_⟩:=hw.init;have zl:(sa.map V.ref).length=T.length:=by rw[δ];exact hw0.1
 refine⟨_,rfl,_,rfl,_,rfl,tl,_,rfl,SqL.of hl,fun p hp=>?_⟩;rw[cutC];generalize e2:upd H p _=H2;obtain⟨g2,k2⟩:=kR e2 hp;refine⟨p,rfl,⟨_,SqL.of k2⟩,aCd (xs:=sa.map V.ref) (fun D j ys H'=>jJ H2 H'/\H2 D=none/\H' D=some (.dK ys)/\ys=dk (T.take j) (sa.take j)) (fun D hD=>⟨(jJ.refl H2).putn hD,hD,jP,rfl⟩) (fun D j ys H' _ z=>z.1.seq (SqL.of k2)) (fun D j x ys H' hx z=>?_) (fun D ys H' z=>?_)⟩
 ·obtain⟨g,hD,kD,rfl⟩:=z;obtain⟨a,ha,rfl⟩:=qJ hx;obtain⟨sh,hS,dx,t,ps,k1,_⟩:=hw0.at ha;have hj:=(ε.mp hS).1;have hnk:∀x∈dk (T.take j) (sa.take j),x.1≠(.inr sh.1:Key):=fun x hx e=>by
   obtain⟨u,hu,eu⟩:=aMd x hx;obtain⟨i,hi⟩:=jb.mp hu;have hij:i<j:=by have:=(ε.mp hi).1;rw[Θ]at this;omega
   rw[oy hij]at hi;have e2:kN T i=kN T j:=by rw[vM hi,vM hS];exact xl (eu.symm.trans e)
   have:=aIh hnd (ε.mp hi).1 hj e2;omega
  refine⟨_,rfl,a,Ve,_,_,_,rfl,g _ _ (g2 _ _ k1),Ue.cl,Ue.nd,rfl,_,rfl,.inr sh.1,rfl,kD,?_,?_⟩
  ·have:(dk (T.take j) (sa.take j)).length<=100:=by unfold dk;rw[qx,Θ];omega
   exact li this (by decide)
  ·rw[eE hnk];exact⟨⟨g.putn hD,hD,jP,(aNi hS ha).symm⟩,_,rfl⟩
 ·obtain⟨g,hD,kD,rfl⟩:=z;rw[zl,jZ,←hw0.1,jZ]at kD;exact q D H' (g2.trans g) (g2.free hD) kD
theorem rF(F:Fun K "need_field" "need_field" bN f fd)(cz:j4 "is_field_line" (spFl K))(df:j4 "shapes_named" (aEh K))(bt:j4 "whole_shapes" (spWh (j7 0) K)):j0 ["told","line","words"] (spNF (j7 0) K):=by
 w_cond xO;obtain⟨tl,a,z,x,sa,T,s,fn,kd,rfl,hl,hw,hws,hfn,hnew,hs100,hf,hn,hnd,hlen,q⟩:=h;refine⟨_,(jD (jX (PW.pt (yP (vH (cV (pv 0) (fun _=>rfl))) (yH (vH (kK (jF cz hr (jA (pv 2) jB))))))) (jC vL) jL) (jD (jX (mP lH (jK jU (pv 2) jE) (kQ ["name","kind"] [] [] rfl (dN (qF (jK jU (pv 0) (oA fT jE)) rfl)) rfl trivial trivial (fun _ _ _ _=>(xV (K:=K) (n:=2) rfl rfl (jS (qC rfl) (jS (aM rfl) qK)))) (fun _ _ _ _=>kP) (fun _ _ _ _=>(pv 0))) (by with_unfolding_all rfl)) (jC vL) jL) (jD (jR 3 xO.nd (jF df hr (jA (pv 2) jB))) (jD (vF jo rfl (aEy rfl M.enumerate (jA (pv 3) jB)) (xQ rfl (jS (kS 4 xO.nd) (jS (kS 5 xO.nd) qK))) (jC (jX (mP lH (pv 5) (xJ zH (pv 3) yJ (yL (pv 4))) (by with_unfolding_all rfl)) (jC vL) jL))) (jC (vF jo rfl (kU (pv 3)) (kS 5 xO.nd) (jC (jX (aPc (aHn hr.units1 (pv 5) (jF bt hr (jA (pv 0) jB)))) (jC vL) jL)))))))),?_⟩;obtain⟨hw0,dx,t,ps,k1,k2,k3⟩:=hw.init;obtain⟨n1,n4,n2⟩:=aAk hnd hf;have zl:(ps.map V.ref).length=s.2.length:=by rw[δ];exact k3.len
 refine⟨_,rfl,true,.inl ⟨_,SqL.of hl,by simp⟩,jQ ⟨_,rfl,a,kN T,T.length,kd,fn,rfl,hws,hfn,hf,hn,fun H1 g1=>⟨_,rfl,jQ ?_⟩⟩⟩;refine⟨_,rfl,a,_,_,_,rfl,rfl,g1.seq hws,at0,_,rfl,_,rfl,tl,_,_,_,rfl,rfl,SqL.of (g1 _ _ hl),bH _ _,z,Ve,_,_,_,rfl,(g1 _ _ k1),Ue.cl,Ue.nd,rfl,t,rfl,⟨_,g1.tp k2⟩,zK (xs:=ps.map V.ref) (fun j ys H2=>H2=H1/\ys=((s.2.take j).map (·.1)).map V.str) ⟨rfl,rfl⟩ (fun j ys H2 _ z=>⟨by rw[z.1];exact g1.tp k2,by rw[z.2,δ,δ,Θ];exact kg _ _⟩) (kI (by omega)) (fun j x ys H2 os ho hx z=>?_) (fun ys H2 z p hp=>?_)⟩
 ·obtain⟨rfl,rfl⟩:=z;obtain⟨o1,o2,rfl⟩:=rN ho;obtain⟨u,hu,rfl⟩:=qJ hx;obtain⟨nm',kd',kk,hfs,hq,hko⟩:=k3.get hu;refine⟨u,_,rfl,g1.tp hq,rfl,_,_,rfl,_,_,rfl,rfl,_,rfl,⟨rfl,?_⟩,[_,_],rfl,rfl⟩;rw[qO hfs,χ];rfl
 ·obtain⟨rfl,rfl⟩:=z;clear 1 p H3 g3 k4 hp;refine⟨p,_,rfl,.inl (SqL.of k4),rfl,eG _,_,rfl,?_⟩;rw[if_neg υ,hJ,zl,jZ];refine vE (by rw[decide_eq_false hnew];decide) ⟨_,rfl,a,kN T,T.length,kd,fn,rfl,g3.seq (g1.seq hws),hf,hn,fun l H4 g4 hl4 k5=>?_⟩;have g14:=(g1.trans g3).trans g4;have zn:((Kd.named (kN T) kd).map V.str).length=(Kd.named (kN T) kd).length:=δ _;refine⟨_,rfl,l,_,rfl,SqL.of k5,wG (xs:=(Kd.named (kN T) kd).map V.str) (fun i σ H'=>∃o4 o5,σ = [some (.ref tl),some x,some (.ref a),some (.ref l),o4,o5]/\jJ H4 H') ⟨_,_,rfl,jJ.refl _⟩ (fun i σ H' _ z=>?_) (fun i x σ H' p hx z hp=>?_) (fun σ H' z=>?_)⟩
  ·obtain⟨o4,o5,rfl,g⟩:=z;exact g.seq (SqL.of k5)
  ·obtain⟨o4,o5,rfl,g⟩:=z;obtain⟨y,hy,rfl⟩:=xM hx;have g5:=vQ hp (.tup [.int (i:Int),.str y]);have k6:upd H' p (.tup [.int (i:Int),.str y]) p=_:=jP;generalize upd H' p (.tup [.int (i:Int),.str y])=H5 at g5 k6;refine⟨p,_,rfl,SqT.of k6,rfl,_,_,rfl,_,_,rfl,rfl,_,rfl,_,rfl,_,rfl,_,rfl,l,_,rfl,(g.trans g5).seq (SqL.of k5),fun p2 hp2=>?_⟩;rw[cutB];clear 1 p2 H6 g6 k7 hp2;rw[←List.map_take]at k7;refine⟨p2,_,rfl,.inl (SqL.of k7),rfl,eG _,_,rfl,?_⟩;rw[if_neg υ,hJ];refine vE (fun z=>?_) ⟨_,_,rfl,(g.trans g5).trans g6⟩;have hm:y∈(Kd.named (kN T) kd).take i:=of_decide_eq_true z;obtain⟨j,hj⟩:=jb.mp hm;have hji:j<i:=by have:=(ε.mp hj).1;rw[Θ]at this;omega
   rw[oy hji]at hj;obtain⟨a1,b1⟩:=ε.mp hj;obtain⟨a2,b2⟩:=ε.mp hy;exact qi.mp n1 j i a1 a2 hji (b1.trans b2.symm)
  ·obtain⟨o4,o5,rfl,g⟩:=z;refine⟨_,rfl,l,rfl,⟨_,g.seq (SqL.of k5)⟩,qU (xs:=(Kd.named (kN T) kd).map V.str) (fun i σ H'=>∃o4 o5,σ = [some (.ref tl),some x,some (.ref a),some (.ref l),o4,o5]/\jJ H4 H') ⟨_,_,rfl,g⟩ (fun i σ H' _ z=>?_) (fun i x σ H' hx z=>?_) (fun σ H' z=>?_)⟩
   ·obtain⟨o4,o5,rfl,g⟩:=z;exact g.seq (SqL.of k5)
   ·obtain⟨o4,o5,rfl,g⟩:=z;obtain⟨y,hy,rfl⟩:=xM hx;obtain⟨j,hj,rfl⟩:=n2 y (ι hy);have hT:T[j]?=some T[j]:=ζ hj;have hsa:sa[j]?=some (sa[j]'(by rw[hw0.1];exact hj)):=ζ _;have hv:=aIy hnd hT hsa;rw[←vM hT]at hv;refine⟨_,rfl,_,rfl,tl,z,sa,T,s,rfl,(g14.trans g) _ _ hl,hw.same (g14.trans g),hnd,hlen,fun d H5 g5 hd k6=>⟨d,_,rfl,yR.k (k:=qr (kN T j)) k6,_,rfl,?_⟩⟩;rw[hv];exact vE (by simp) ⟨_,_,rfl,g.trans g5⟩
   ·obtain⟨o4,o5,rfl,g⟩:=z;exact q H' (g14.trans g)
theorem aCq(F:Fun K "kind_in" "kind_in" iF f fd)(cu:j4 "kind_in" (aEn (j7 0) K r))(fh:j5 cIu (oY Va "width"))(ac:j5 cIv (oY Vb "shape"))(dz:j5 cIx (spI2 Vc "count" "kind"))(ee:j5 cIy (spIT K Vd "shapes")):j0 ["words","shapes"] (aEn (j7 0) K (r+1)):=by
 w_cond aCs;obtain⟨a,d,kd,sa,T,rfl,hlv,hl,hd,hf,hn,hnd,hsl,q⟩:=h;refine⟨_,(jD (jX (kF qQ (jK jU (pv 0) jE) jO) (jC (jI (xW Ua fh hr0 rfl qT (jA (kY bZ rfl M.int boot_int (jA (jK jU (pv 0) jE) jB)) jB)))) jL) (jD (jX (kF qQ (jK jU (pv 0) jE) jO) (jC (jI (xW Uc dz hr0 rfl qT (jA (kY bZ rfl M.int boot_int (jA (jK jU (pv 0) jE) jB)) (jA (jF cu hr (jA (xJ zH (pv 0) (yL jE) yJ) (jA (pv 1) jB))) jB))))) jL) (jD (jX (kF qQ (jK jU (pv 0) jE) jO) (jC (jI (xW Ud ee hr0 rfl qT (jA (kQ ["name"] ["shapes"] [1] rfl (kU (xJ zH (pv 0) (yL jE) yJ)) rfl ⟨rfl,trivial⟩ ⟨⟨rfl,rfl,rfl,_,rfl⟩,trivial⟩ (fun _ _ _ _=>(qC rfl)) (fun _ _ _ _=>kP) (fun _ _ _ _=>(yB hr.units1 (pv 1) (pv 0) (fun _ _=>rfl)))) jB)))) jL) (jC (jI (xW Ub ac hr0 rfl qT (jA (yB hr.units1 (pv 1) (jK jU (pv 0) jE) (fun _ _=>rfl)) jB))))))),?_⟩;have look:∀i,i<T.length->∃s,sa[i]?=some s/\aS (dk T sa) (.inr (kN T i))=some (.ref s):=fun i hi=>by
  have hT:T[i]?=some T[i]:=ζ hi;have hs:sa[i]?=some (sa[i]'(by omega)):=ζ _;exact⟨_,hs,by rw[vM hT];exact aIy hnd hT hs⟩
 cases kd with
 |num w =>
  obtain⟨_,d2,_,d4⟩:=dig (w:=w) (by have:=hf.2;omega);exact⟨_,rfl,a,_,_,_,rfl,rfl,hl,rfl,rfl,_,rfl,kZ ⟨_,rfl,a,_,_,_,rfl,rfl,hl,rfl,_,_,rfl,d4,by omega,fun x dx hx hdx _=>⟨x,dx,.int w,H,rfl,jP,zZ hx hdx,hx,fun H1 g1 k1=>⟨rfl,q x H1 g1 (.num k1)⟩⟩⟩⟩
 |nest i =>
  have hx:=hn i hf;obtain⟨s,hs,hv⟩:=look i hf;exact⟨_,rfl,a,_,_,_,rfl,rfl,hl,rfl,rfl,_,rfl,vE (by simpa using bL hx (y:="num") (by decide)) ⟨_,rfl,a,_,_,_,rfl,rfl,hl,rfl,rfl,_,rfl,vE (by simpa using bL hx (y:="row") (by decide)) ⟨_,rfl,a,_,_,_,rfl,rfl,hl,rfl,rfl,_,rfl,vE (by simpa using bL hx (y:="pick") (by decide)) ⟨_,rfl,_,rfl,a,_,_,_,rfl,rfl,hl,rfl,d,.ref s,rfl,(by rw[←hv];exact yR.k (k:=qr (kN T i)) hd),fun x dx hx hdx _=>⟨x,dx,.ref s,H,rfl,jP,zZ hx hdx,hx,fun H1 g1 k1=>⟨rfl,q x H1 g1 (.nest hs k1)⟩⟩⟩⟩⟩⟩
 |many m k =>
  obtain⟨_,d2,_,d4⟩:=dig (w:=m) (by have:=hf.2.1;omega);have hl':SqL K H a (V.str (η "row")::V.str (η (toString (m:Int)))::(k.words (kN T)).map V.str):=hl;refine⟨_,rfl,a,_,_,_,rfl,rfl,hl',at0,rfl,_,rfl,jQ ⟨_,rfl,a,_,_,_,rfl,rfl,hl',at0,rfl,_,rfl,kZ ⟨_,rfl,a,_,_,_,rfl,rfl,hl',at1,_,_,rfl,d4,by omega,_,rfl,_,rfl,a,_,rfl,hl',fun p hp=>?_⟩⟩⟩;rw[aOq];clear 1 p H1 g1 k1 hp;have hlk:k.lv=0:=by rcases hf.2.2 with⟨w,rfl,_⟩|⟨i,rfl,_⟩ <;> rfl
  refine⟨_,rfl,p,d,k,sa,T,rfl,(by rw[hlk];have : 1<r+1:=hlv;omega),SqL.of k1,g1 _ _ hd,hf.sub,hn,hnd,hsl,fun b H2 g2 ko=>?_⟩;exact fun x dx hx hdx _=>⟨x,dx,.int m,.ref b,H2,rfl,jP,zZ hx hdx,hx,fun H3 g3 k3=>⟨rfl,q x H3 ((g1.trans g2).trans g3) (.many k3 (ko.same g3))⟩⟩
 |pick is =>
  have hl':SqL K H a (V.str (η "pick")::(is.map (kN T)).map V.str):=hl;have h2:=hf.2.1;have zl:((is.map (kN T)).map V.str).length=is.length:=by rw[δ,δ]
  refine⟨_,rfl,a,_,_,_,rfl,rfl,hl',at0,rfl,_,rfl,jQ ⟨_,rfl,a,_,_,_,rfl,rfl,hl',at0,rfl,_,rfl,jQ ⟨_,rfl,a,_,_,_,rfl,rfl,hl',at0,rfl,_,rfl,kZ ⟨_,rfl,_,rfl,a,_,rfl,hl',fun p hp=>?_⟩⟩⟩⟩;rw[wT];clear 1 p H1 g1 k1 hp;refine⟨p,rfl,⟨_,SqL.of k1⟩,vO (xs:=(is.map (kN T)).map V.str) (fun j ys H'=>H'=H1/\∃ss:List Addr,ys=ss.map V.ref/\ss.length=j/\∀(b i:Nat) (s:Addr),is[b]?=some i->ss[b]?=some s->sa[i]?=some s) ⟨rfl,[],rfl,rfl,fun b i s _ z=>by simp at z⟩ (fun j ys H' _ z=>?_) (kI (by omega)) (fun j x ys H' hx z=>?_) (fun ys H' z p2 hp2=>?_)⟩
  ·obtain⟨rfl,ss,rfl,hss,_⟩:=z;exact⟨SqL.of k1,by rw[δ];omega⟩
  ·obtain⟨rfl,ss,rfl,hss,hall⟩:=z;obtain⟨y,hy,rfl⟩:=xM hx;rw[ig]at hy;cases e:is[j]? with
   |none=>rw[e]at hy;cases hy
   |some i =>
    rw[e]at hy;cases hy;obtain⟨s,hs,hv⟩:=look i (hf.2.2.2 i (ι e));refine⟨_,rfl,_,rfl,d,.ref s,rfl,(by rw[←hv];exact yR.k (k:=qr (kN T i)) (g1 _ _ hd)),⟨rfl,ss++[s],by rw[χ];rfl,by rw[θ,hss];rfl,fun b i' s' hb1 hb2=>?_⟩,_,rfl⟩;rcases aZ hb2 with hb2|⟨eb,es⟩
    ·exact hall b i' s' hb1 hb2
    ·rw[eb,hss,e]at hb1;cases hb1;rw[es];exact hs
  ·obtain⟨rfl,ss,rfl,hss,hall⟩:=z;clear 1 p2 H2 g2 k2 hp2;exact fun x dx hx hdx _=>⟨x,dx,p2,_,H2,rfl,jP,zZ hx hdx,hx,SqL.of k2,fun t H3 g3 k3 k4=>⟨rfl,q x H3 ((g1.trans g2).trans g3) (.pick k3 k4 (by rw[hss,zl]) hall)⟩⟩
theorem nH(F:Fun K "is_too_much" "is_too_much" aV f fd)(ay:j6 Ve "size" (lJ (j7 0) K r sSz))(dh:j6 Ve "units" (aOu (j7 0) K r))(au:j6 Ve "depth" (lJ (j7 0) K r sDp)):j0 ["shape"] (spTM (j7 0) K r):=by
 w_cond oG;obtain⟨a,i,sa,S,rfl,e,hi,h8,hw,hg,⟨b1,b2,b3⟩,q⟩:=h;refine⟨_,(jD (jX (PW.pt (yP (kF eU (jG jW rfl M.len je (jA (qF (pv 0) rfl) jB)) (qM (v:=.int 6) rfl C.MOST_FIELDS ⟨_,rfl⟩)) (yH (kF eU (zD (pv 0) Ue.cl ay hr qT) (qM (v:=.int 64) rfl C.MOST_CELLS ⟨_,rfl⟩))))) (jC (jI aA)) jL) (jC (jI (pe_or (qY eU (jG jW rfl M.len je (jA (zD (pv 0) Ue.cl dh hr qT) jB)) (qM (v:=.int 40) rfl C.MOST_UNITS ⟨_,rfl⟩) (vW _)) (xZ (qY eU (zD (pv 0) Ue.cl au hr qT) (qM (v:=.int 4) rfl C.MOST_DEPTH ⟨_,rfl⟩) (vW _))))))),?_⟩;obtain⟨s,hS,dx,t,ps,k1,k2,k3⟩:=hw.at e;have h6:=hg.few i s hS;have zl:(ps.map V.ref).length=s.2.length:=by rw[δ];exact k3.len
 refine⟨_,rfl,a,Ve,_,_,_,rfl,k1,Ue.cl,Ue.nd,rfl,t,_,rfl,.inr k2,_,_,rfl,rfl,_,rfl,vE (by rw[zl];simp;omega) ⟨_,rfl,a,dx,_,rfl,k1,rfl,a,i,sa,S,rfl,e,(by omega),hw,hg,fun H1 g1=>⟨_,_,rfl,rfl,_,rfl,vE (by have:sSz i (tabs S)<=64:=b1;simp;omega) ?_⟩⟩⟩;refine⟨_,rfl,a,dx,_,rfl,g1 _ _ k1,rfl,a,i,sa,S,rfl,e,hi,h8,hw.same g1,hg,fun l H2 g2 hl ⟨us,ku,ur⟩=>⟨l,_,rfl,.inl (SqL.of ku),_,_,rfl,rfl,_,rfl,vE (by rw[δ,ur.len];simp;omega) ?_⟩⟩;refine⟨_,rfl,a,dx,_,rfl,g2 _ _ (g1 _ _ k1),rfl,a,i,sa,S,rfl,e,(by omega),hw.same (g1.trans g2),hg,fun H3 g3=>⟨_,_,rfl,rfl,?_⟩⟩
 (try dsimp only)
 rw[decide_eq_false (by have:sDp i (tabs S)<=4:=b3;omega)];exact q H3 ((g1.trans g2).trans g3)
theorem pL(F:Fun K "with_field" "with_field" bM f fd)(cu:j4 "kind_in" (aEn (j7 0) K 2))(bt:j4 "whole_shapes" (spWh (j7 0) K))(bw:j5 cIz (aKn (j7 0) K))(di:j4 "is_too_much" (spTM (j7 0) K r)):j0 ["told","line","words"] (spWF (j7 0) K r):=by
 w_cond aO;obtain⟨tl,a,z,x,sa,T,s,fn,kd,rfl,hl,hw,hws,hf,hn,hnd,hlen,hr1,h8,hs50,hg,hb,q⟩:=h;refine⟨_,(jD (jR 3 aO.nd (jF cu hr (jA (xJ zH (pv 2) (yL jE) yJ) (jA (jF bt hr (jA (pv 0) jB)) jB)))) (jD (jR 4 aO.nd (xW Ue bw hr0 rfl qT (jA (qF (jK jU (pv 0) (oA fT jE)) rfl) (jA (jV aIe (qF (jK jU (pv 0) (oA fT jE)) rfl) (kW (jA (kW (jA (jK jU (pv 2) jE) (jA (pv 3) jB))) jB))) jB)))) (jD (jX (kK (jF di hr (jA (pv 4) jB))) (jC vL) jL) (jC (jI (pv 4)))))),?_⟩;obtain⟨hw0,dx,t,ps,k1,k2,k3⟩:=hw.init;refine⟨_,rfl,_,rfl,a,_,rfl,hws,fun p hp=>?_⟩;rw[show eK ((fn::kd.words (kN T)).map V.str) (some 1) none=(kd.words (kN T)).map V.str from wT _ _];clear 1 p H1 g1 kp hp;refine⟨_,rfl,tl,z,sa,T,s,rfl,g1 _ _ hl,hw.same g1,hnd,hlen,fun d H2 g2 hd kd2=>?_⟩;refine⟨p,d,kd,sa,T,rfl,(by cases kd <;> simp[Kd.lv]),g2.seq (SqL.of kp),kd2,hf,hn,hnd,hw0.1,fun k H3 g3 ko=>?_⟩;have g13:=(g1.trans g2).trans g3;refine⟨_,rfl,_,rfl,tl,_,_,_,rfl,rfl,SqL.of (g13 _ _ hl),bH _ _,z,Ve,_,_,_,rfl,(g13 _ _ k1),Ue.cl,Ue.nd,rfl,_,rfl,_,rfl,tl,_,_,_,rfl,rfl,SqL.of (g13 _ _ hl),bH _ _,z,Ve,_,_,_,rfl,(g13 _ _ k1),Ue.cl,Ue.nd,rfl,_,rfl,a,_,_,_,rfl,rfl,g13.seq hws,at0,_,rfl,xD,fun u hu=>?_⟩;clear 1 u H4 g4 k4 hu;refine⟨iU,fun v hv=>?_⟩;clear 1 v H5 g5 k5 hv;have hps:ps.length=s.2.length:=k3.len;refine⟨t,v,ps.map V.ref,[.ref u],rfl,rfl,(g4.trans g5).tp (g13.tp k2),SqT.of k5,(by simp),(by rw[jf,δ];simp;omega),fun fl H6 g6 hfl=>?_⟩;have g36:=(g4.trans g5).trans g6;refine fun y dy hy hdy _=>⟨y,dy,fl,s.1,ps++[u],s.2++[(fn,kd)],sa,H6,rfl,jP,zZ hy hdy,hy,.inr (by rw[χ];exact hfl),(k3.same (g13.trans g36)).snoc ((g5.trans g6).tp (SqT.of k4)) (ko.same g36),(by rw[θ];show s.2.length+1<=100;omega),fun t' ps' H7 g7 k7 st fo=>⟨rfl,?_⟩⟩;have gA:=(g13.trans g36).trans g7;have so:SO (j7 0) K H7 sa y (s.1,s.2++[(fn,kd)]):=⟨dy,t',ps',k7,st,fo⟩;have hsw:=(hw0.same gA).snoc so;have hsl:sa.length=T.length:=hw0.1;exact⟨_,rfl,y,T.length,sa++[y],_,rfl,(by rw[←hsl,ie (ν _),mi];rfl),hr1,h8,hsw,hg,hb,fun H8 g8=>⟨_,rfl,jQ ⟨_,rfl,q y H8 (gA.trans g8) (so.same g8)⟩⟩⟩
theorem nC{k r:Nat}(F:Fun K "read_shapes" "read_shapes" aJ f fd)(dc:j4 "is_shape_line" (aOa K))(cy:j4 "need_new_shape" (aOh (j7 0) K))(bw:j5 cIz (aKn (j7 0) K))(dq:j4 "need_field" (spNF (j7 0) K))(du:j4 "with_field" (spWF (j7 0) K r))(dm:j5 cIw (spIT K Vf "shapes")):j0 ["text"] (spRd (j7 0) Vf K r):=by
 w_cond vP;obtain⟨S,rfl,hW,hne,hr12,h8,q⟩:=h;refine⟨_,(jD (jX (vH (kK (jG nO rfl M.isinstance ii (jA (pv 0) (jA (kT (v:=.ty "str") rfl M.str boot_str rfl) jB))))) (jC vL) jL) (jD (jR 1 vP.nd (aD rj PySem.F.slot_str_split PySem.F.type_str_split sK (pv 0) (jA jO jB))) (jD (jR 2 vP.nd (qE jB)) (jD (vF jo rfl (aEy rfl M.enumerate (jA (pv 1) jB)) (xQ rfl (jS (kS 3 vP.nd) (jS (kS 4 vP.nd) qK))) (jD (jR 5 vP.nd (aD rj PySem.F.slot_str_split PySem.F.type_str_split sK (pv 4) (jA jO jB))) (jC (jX (kK (jF dc hr (jA (pv 5) jB))) (jD (qX (jF cy hr (jA (pv 2) (jA (pv 3) (jA (jK jU (pv 5) jE) jB))))) (jC (qX (aD lh pe ph zI (pv 2) (jA (xW Ue bw hr0 rfl qT (jA (jK jU (pv 5) jE) (jA (qE jB) jB))) jB))))) (jD (qX (jF dq hr (jA (pv 2) (jA (pv 3) (jA (pv 5) jB))))) (jC (cF (jF du hr (jA (pv 2) (jA (pv 3) (jA (pv 5) jB)))) (nF (pv 2) (oA fT jE) set_list)))))))) (jD (jX (vH (cV (qF (jK jU (pv 2) (oA fT jE)) rfl) (fun _=>rfl))) (jC vL) jL) (jC (jI (xW Uf dm hr0 rfl qT (jA (pv 2) jB))))))))),?_⟩;obtain⟨h30,hrow,htl,hsp⟩:=aJi hW hne;have hok:=aEd hW;refine⟨_,rfl,_,_,"str",rfl,by decide,rfl,_,rfl,jQ ⟨_,rfl,rfl,_,_,rfl,rfl,rfl,(by rw[jf];omega),fun p hp=>?_⟩⟩;rw[show qk (txt S) (η "\n")=_ from hsp];clear 1 p H1 g1 k1 hp;refine⟨cZ,fun tl hq=>?_⟩;clear 1 tl H2 g2 k2 hq;have hq0:H tl=none:=g1.free hq;have npt:p≠tl:=jN k1 hq;have k12:=g2 _ _ k1;have zl:(((vB S).map fun it=>jt spS (it.line (kN S))).map V.str).length=(vB S).length:=by rw[δ,δ]
 refine⟨_,rfl,p,_,rfl,SqL.of k12,wG (xs:=((vB S).map fun it=>jt spS (it.line (kN S))).map V.str) (fun i σ H'=>∃(o3 o4 o5:Option V) (sa:List Addr) (T:List Shp),σ = [some (.str (txt S)),some (.ref p),some (.ref tl),o3,o4,o5]/\But tl H2 H'/\H' tl=some (.lst (sa.map V.ref))/\SW (j7 0) K H' sa T/\mH S i T) ⟨_,_,_,[],[],rfl,But.refl,k2,SW.nil,mH.start S⟩ (fun i σ H' _ z=>?_) (fun i x σ H' p2 hx z hp2=>?_) (fun σ H' z=>?_)⟩
 ·obtain⟨o3,o4,o5,sa,T,rfl,g,_⟩:=z;exact SqL.of (g _ _ npt k12)
 ·obtain⟨o3,o4,o5,sa,T,rfl,g,kl,hw,hst⟩:=z;obtain⟨row,hrw,rfl⟩:=xM hx;rw[ig]at hrw;cases eit:(vB S)[i]? with
  |none=>rw[eit]at hrw;cases hrw
  |some it =>
  rw[eit]at hrw;cases hrw;have hit:=ι eit;obtain⟨r100,rsp⟩:=hrow it hit;obtain⟨ok1,ok2,ok3⟩:=hok it hit;obtain⟨S1,s,S2,eS,hnx⟩:=hst.next (ε.mp eit).1;clear 1 p2 H3 g3 k3 hp2;refine⟨p2,_,rfl,SqT.of k3,rfl,_,_,rfl,_,_,rfl,rfl,_,rfl,rfl,_,_,rfl,rfl,rfl,(by rw[jf];show(jt L2.spS (it.line (kN S))).length+2<=_;omega),fun wa hwa=>?_⟩;rw[show qk (jt spS (it.line (kN S))) (η " ")=_ from rsp];clear 1 wa H4 g4 k4 hwa;have g34:=g3.trans g4;refine⟨_,rfl,wa,it.line (kN S),rfl,⟨SqL.of k4,fun w hw=>by have:=(ok1 w hw).2;omega,by omega⟩,fun H5 g5=>⟨_,rfl,?_⟩⟩;have g35:=g34.trans g5;have kl5:=g35 _ _ kl;have hw5:=hw.same g35;have kw5:=g5 _ _ k4;have hsS:s∈S:=by rw[eS];exact Ψ _ (ρ ..)
  have hS1:∀t∈S1,t∈S:=fun t ht=>by rw[eS];exact jd _ ht
  have hlen:=hW.len;have hnd1:(S1.map (·.1)).Nodup/\s.1∉S1.map (·.1):=by
   have:=hW.nd;rw[eS,χ,vz]at this;exact⟨this.1,fun z=>this.2.2 _ z _ (ρ ..) rfl⟩
  have hl1:S1.length<5:=by rw[eS,θ,Ω]at hlen;omega
  rcases hnx with⟨ei,rfl,hst2⟩|⟨f1,n,kd,f2,ef,ei,rfl,hst2⟩
  ·rw[eit]at ei;cases ei;have hnm:=hW.nm s hsS;have hws:SqL K H5 wa [V.str (η "shape"),V.str s.1]:=SqL.of kw5;refine xF (by show(decide (η "shape" = η "shape")&&qB s.1)=true;rw[hnm];decide) ⟨_,rfl,_,rfl,_,rfl,wa,_,_,_,rfl,rfl,hws,rfl,tl,_,s.1,sa,T,rfl,kl5,hw5,(fun t ht=>?_),hnd1.2,by omega,fun H6 g6=>?_⟩
   ·obtain⟨j,hj⟩:=jb.mp ht;exact hW.good.ne j t (by rw[eS,ir (ε.mp hj).1];exact hj)
   have kl6:=g6 _ _ kl5;refine⟨_,rfl,.inl ⟨rfl,_,SqL.of kl6⟩,_,rfl,wa,_,_,_,rfl,rfl,g6.seq hws,rfl,cZ,fun el hel=>?_⟩;clear 1 el H7 g7 k7 hel;refine fun y dy hy hdy _=>⟨y,dy,el,s.1,[],[],sa,H7,rfl,jP,zZ hy hdy,hy,.inl (SqL.of k7),.nil,by decide,fun t ps' H8 g8 k8 st fo=>⟨rfl,?_⟩⟩;have g58:=(g6.trans g7).trans g8;have kl8:=g58 _ _ kl5;have hsl:=hw.1;refine⟨tl,_,_,rfl,rfl,kl8,(by rw[δ];exact li (show sa.length<=5 by omega) (by decide)),?_⟩;clear 0 tl H9 g9 k9;exact⟨_,_,_,sa++[y],_,rfl,(g.trans (But.of (g35.trans g58))).trans g9,by rw[χ];exact k9,((hw5.same g58).snoc (s:=(s.1,[])) ⟨dy,t,ps',k8,st,fo⟩).but g9 kl8,hst2⟩
  ·rw[eit]at ei;cases ei;obtain⟨sa0,z,rfl⟩:=aFy hw.1;have hfm:(n,kd)∈s.2:=by rw[ef];exact Ψ _ (ρ ..)
   have hnm:=hW.fnm s hsS _ hfm;have hi1:S[S1.length]?=some s:=by rw[eS,ie (ν _),mi];rfl
   have hfit:=(hW.good.fit _ _ hi1 _ hfm).1;have hns:NOk (kN S1) S1.length:=aCy fun t ht=>hW.nm t (hS1 t ht);have ew:kd.words (kN S)=kd.words (kN S1):=lR (fun j hj=>by rw[eS];exact aIm hj) hfit.below;have hws:SqL K H5 wa ((n::kd.words (kN S1)).map V.str):=by rw[←ew];exact SqL.of kw5
   obtain⟨pg,pb,p5⟩:=hW.pre (f1:=f1++[(n,kd)]) (f2:=f2) eS (by rw[ef,jg];rfl) (by simp);rw[θ,mh]at p5;have hfn:n∉f1.map (·.1):=fun z=>by
    have:=hW.fnd s hsS;rw[ef,χ,vz]at this;exact this.2.2 _ z _ (ρ ..) rfl
   refine vE (by rw[show aBb ((Itm.fd n kd).line (kN S))=false from aNh hnm];decide) ⟨_,rfl,_,rfl,_,rfl,tl,wa,z,_,sa0,S1,(s.1,f1),n,kd,rfl,kl5,hw5,hws,hnm,hfn,(by show f1.length<=100;omega),hfit,hns,hnd1.1,by omega,fun H6 g6=>?_⟩;refine⟨_,rfl,_,rfl,_,rfl,tl,wa,z,_,sa0,S1,(s.1,f1),n,kd,rfl,g6 _ _ kl5,hw5.same g6,g6.seq hws,hfit,hns,hnd1.1,by omega,by omega,h8,(by show f1.length<=50;omega),pg,pb,fun y H7 g7 so=>?_⟩;have g57:=g6.trans g7;have kl7:=g57 _ _ kl5;refine⟨_,rfl,_,rfl,tl,_,_,_,rfl,rfl,kl7,aIw _ _,?_⟩;rw[aJk];clear 0 tl H9 g9 k9;exact⟨_,_,_,sa0++[y],_,rfl,(g.trans (But.of (g35.trans g57))).trans g9,k9,((hw5.init.1.same g57).snoc so).but g9 kl7,hst2⟩
 ·obtain⟨o3,o4,o5,sa,T,rfl,g,kl,hw,hst⟩:=z;rw[zl]at hst;have eT:=hst.done;subst eT;have gH:jJ H H':=But.from (g1.trans g2) hq0 g;rcases ye T with rfl|⟨T0,s,rfl⟩
  ·exact absurd rfl hne
  ·rw[yf]at *;obtain⟨sa0,z,rfl⟩:=aFy hw.1;obtain⟨hw0,dx,t,ps,m1,m2,m3⟩:=hw.init;have hs:=hW.good.ne T0.length s (by rw[ie (ν _),mi];rfl);have hps:ps≠[]:=fun e=>hs (uv.mp (by rw[←m3.len,e];rfl));refine⟨_,rfl,_,rfl,tl,_,_,_,rfl,rfl,SqL.of kl,bH _ _,z,Ve,_,_,_,rfl,m1,Ue.cl,Ue.nd,rfl,true,.inr (.inl ⟨_,m2,by cases ps with|nil=>exact absurd rfl hps|cons _ _=>rfl⟩),jQ ⟨_,rfl,?_⟩⟩;exact fun y dy hy hdy _=>⟨y,dy,tl,_,H',rfl,jP,zZ hy hdy,hy,SqL.of kl,fun t H3 g3 k3 k4=>⟨rfl,q y dy t _ H3 (gH.trans g3) k3 k4 (hw.same g3)⟩⟩
theorem wQ{k r:Nat}(F:Fun K "_law_size" "_law_size" fQ f fd)(ao:j4 "_law_size" (uG K vSz r)):j0 ["_law_kind_here","_law_shapes_here"] (uG K vSz (r+1)):=by
 w_cond wL;obtain⟨a,sl,kd,S,rfl,hk,hv,hf,hlk,hlx,hg,q⟩:=h;refine⟨_,(jD (jX (kF qQ (jK jY (pv 0) jE) jO) (jC (jI (jK jY (pv 0) jE))) jL) (jD (jX (kF qQ (jK jY (pv 0) jE) jO) (jC (jI (jV zU (jK jY (pv 0) jE) (jF ao hr (jA (jK jY (pv 0) jE) (jA (pv 1) jB)))))) jL) (jD (jX (kF qQ (jK jY (pv 0) jE) jO) (jC (jI (jV qG jE (jG (zJ rfl) rfl M.max boot_max (jA (kQ ["_law_at"] ["_law_shapes_here"] [1] rfl (kU (jK jY (pv 0) jE)) rfl ⟨rfl,trivial⟩ ⟨⟨rfl,rfl,rfl,_,rfl⟩,trivial⟩ (fun _ _ _ _=>(qC rfl)) (fun _ _ _ _=>kP) (fun _ _ _ _=>(jF ao hr (jA (kW (jA jO (jA (pv 0) jB))) (jA (pv 1) jB))))) jB))))) jL) (jC (jI (jG (aAr rfl) rfl M.sum (show my "sum" = some (.builtin "sum") from by ac_rfl) (jA (kQ ["_law_name","_law_inner"] ["_law_shapes_here"] [1] rfl (kU (jK jY (jK jU (pv 1) (jK jY (pv 0) jE)) jE)) rfl ⟨rfl,trivial⟩ ⟨⟨rfl,rfl,rfl,_,rfl⟩,trivial⟩ (fun _ _ _ _=>(xV (K:=K) (n:=2) rfl rfl (jS (qC rfl) (jS (aM rfl) qK)))) (fun _ _ _ _=>kP) (fun _ _ _ _=>(jF ao hr (jA (pv 1) (jA (pv 2) jB))))) jB))))))),?_⟩;have back : 1<=r->∃r',r=r'+1:=fun h=>⟨r-1,by omega⟩;cases id hlk with
 | @num a w h1=>exact⟨_,rfl,a,_,_,_,rfl,rfl,h1,rfl,rfl,_,rfl,kZ ⟨_,rfl,a,_,_,_,rfl,rfl,h1,rfl,q _ (jJ.refl _)⟩⟩
 | @many a b n k h1 h2 =>
  have hv' : 1<=r:=hv;obtain⟨r,rfl⟩:=back hv';have hlv:k.lv=0:=by rcases hf.2.2 with⟨w,rfl,_⟩|⟨i,rfl,_⟩ <;> rfl
  refine⟨_,rfl,a,_,_,_,rfl,rfl,h1,rfl,rfl,_,rfl,jQ ⟨_,rfl,a,_,_,_,rfl,rfl,h1,rfl,rfl,_,rfl,kZ ⟨_,rfl,a,_,_,_,rfl,rfl,h1,rfl,_,rfl,a,_,_,_,rfl,rfl,h1,rfl,_,rfl,b,sl,k,S,rfl,hk.sub,(by omega),hf.sub,h2,hlx,hg,fun H' g=>?_⟩⟩⟩;refine⟨_,_,rfl,rfl,.inl ⟨by have:=hf.2.1;omega,by have:=hf.2.1;omega⟩,?_⟩;have q':=q H' g;rw[show vSz (Kd.many n k) (tabs S)=n*vSz k (tabs S) from rfl,Int.natCast_mul]at q';exact q'
 | @pick a l is h1 h2 =>
  have hs:=hf.1;have hs4:=hf.2.1;have hne:is≠[]:=fun z=>by rw[z]at hs;exact absurd hs (by decide)
  have hr3 : 3<=r:=by
   cases is with
   |nil=>exact absurd rfl hne
   |cons i _=>have:=hk i (ρ ..);omega
  obtain⟨r,rfl⟩:=back (by omega);have zl:(is.map fun n:Nat=>V.int n).length=is.length:=δ _;refine⟨_,rfl,a,_,_,_,rfl,rfl,h1,rfl,rfl,_,rfl,jQ ⟨_,rfl,a,_,_,_,rfl,rfl,h1,rfl,rfl,_,rfl,jQ ⟨_,rfl,a,_,_,_,rfl,rfl,h1,rfl,rfl,_,rfl,kZ ⟨_,rfl,a,_,_,_,rfl,rfl,h1,rfl,l,rfl,⟨_,h2⟩,vO (xs:=is.map fun n:Nat=>V.int n) (fun j ys H'=>jJ H H'/\ys=((is.take j).map fun i=>V.int (vSz (.nest i) (tabs S)))) ⟨jJ.refl _,rfl⟩ (fun j ys H' _ z=>⟨z.1.seq h2,by rw[z.2,δ,Θ];exact kg _ _⟩) (kI (by omega)) (fun j x ys H' hx z=>?_) (fun ys H' z p hp=>?_)⟩⟩⟩⟩
  ·obtain⟨g,rfl⟩:=z;obtain⟨i,hi,rfl⟩:=pF hx;have him:=ι hi;refine⟨_,rfl,xD,fun t ht=>?_⟩;clear 1 t H3 g3 k3 ht;exact⟨_,rfl,t,sl,.nest i,S,rfl,(by have:=hk i him;show 2*i+2<=r;omega),io _,hf.2.2.2 i him,.nest (SqT.of k3),hlx.same (g.trans g3),hg,fun H4 g4=>⟨⟨(g.trans g3).trans g4,(qO hi).symm⟩,_,rfl⟩⟩
  ·obtain⟨g,rfl⟩:=z;have g2:=vQ hp (.lst ((is.take (is.map fun n:Nat=>V.int n).length).map fun i=>V.int (vSz (.nest i) (tabs S))));have kp:upd H' p (.lst ((is.take (is.map fun n:Nat=>V.int n).length).map fun i=>V.int (vSz (.nest i) (tabs S)))) p=some (.lst (((is.map fun i=>vSz (.nest i) (tabs S)).map fun n:Nat=>(n:Int)).map V.int)):=by
    rw[jP,zl,jZ,jp,jp];rfl
   have q':=q _ (g.trans g2);refine⟨p,(is.map fun i=>vSz (.nest i) (tabs S)).map fun n:Nat=>(n:Int),rfl,SqL.of kp,(by simpa using hne),fun m h5 h6=>?_⟩;rw[aGv h5 h6];refine⟨_,_,rfl,rfl,?_⟩;rw[show vSz (Kd.pick is) (tabs S)=1+xA (is.map fun i=>vSz (.nest i) (tabs S)) from rfl,vh]at q';exact q'
 | @nest a i h1 =>
  have hi:i<S.length:=hf;have hr2 : 2*i+2<=r:=hk;obtain⟨r,rfl⟩:=back (by omega);obtain⟨as,s,l,ps,m1,m2,m3,m4,m5⟩:=hlx.at hi;have hS:S[i]?=some S[i]:=ζ hi;have hfit:=hg.fit i _ hS;have htab:=fU hS fun f hf=>(hfit f hf).1.below;have zl:(ps.map V.ref).length=S[i].2.length:=by rw[δ];exact m5.len
  refine⟨_,rfl,a,_,_,_,rfl,rfl,h1,rfl,rfl,_,rfl,jQ ⟨_,rfl,a,_,_,_,rfl,rfl,h1,rfl,rfl,_,rfl,jQ ⟨_,rfl,a,_,_,_,rfl,rfl,h1,rfl,rfl,_,rfl,jQ ⟨_,rfl,_,rfl,a,_,_,_,rfl,rfl,h1,rfl,sl,_,_,_,rfl,rfl,m1,aI m2,s,_,_,_,rfl,rfl,m3,rfl,l,rfl,⟨_,m4⟩,bV (xs:=ps.map V.ref) (fun j ys H'=>jJ H H'/\ys=((S[i].2.take j).map fun f=>V.int (vSz f.2 (tabs S)))) ⟨jJ.refl _,rfl⟩ (fun j ys H' _ z=>⟨z.1.seq m4,by rw[z.2,δ,Θ];exact kg _ _⟩) (kI (by have:=hg.few i _ hS;omega)) (fun j x ys H' os ho hx z=>?_) (fun ys H' z p hp=>?_)⟩⟩⟩⟩
  ·obtain⟨g,rfl⟩:=z;obtain⟨o1,o2,rfl⟩:=rN ho;obtain⟨u,hu,rfl⟩:=qJ hx;obtain⟨nm',kd',kk,hfs,ht,hko⟩:=m5.get hu;have hm:=hfit _ (ι hfs);exact⟨u,_,rfl,g.tp ht,rfl,_,_,rfl,_,_,rfl,rfl,_,rfl,_,rfl,kk,sl,kd',S,rfl,hm.1.rk.mono (by omega),(by have:=kd'.lv_le;omega),hm.1.mono (ql hi),hko.same g,hlx.same g,hg,fun H2 g2=>⟨⟨g.trans g2,(qO hfs).symm⟩,[_,_],rfl,rfl⟩⟩
  ·obtain⟨g,rfl⟩:=z;have g2:=vQ hp (.lst ((S[i].2.take (ps.map V.ref).length).map fun f=>V.int (vSz f.2 (tabs S))));have kp:upd H' p (.lst ((S[i].2.take (ps.map V.ref).length).map fun f=>V.int (vSz f.2 (tabs S)))) p=some (.lst (((S[i].2.map fun f=>vSz f.2 (tabs S)).map fun n:Nat=>(n:Int)).map V.int)):=by
    rw[jP,zl,jZ,jp,jp];rfl
   have q':=q _ (g.trans g2);refine⟨p,(S[i].2.map fun f=>vSz f.2 (tabs S)).map fun n:Nat=>(n:Int),rfl,SqL.of kp,?_⟩;rw[sumI];rw[show vSz (.nest i) (tabs S)=(S[i].2.map fun f=>vSz f.2 (tabs S)).sum from htab.1]at q';exact q'
theorem tX(F:Fun K "_law_depth" "_law_depth" cT f fd)(ba:j4 "_law_depth" (uG K vDp r)):j0 ["_law_kind_here","_law_shapes_here"] (uG K vDp (r+1)):=by
 w_cond uO;obtain⟨a,sl,kd,S,rfl,hk,hv,hf,hlk,hlx,hg,q⟩:=h;refine⟨_,(jD (jX (kF qQ (jK jY (pv 0) jE) jO) (jC (jI jE)) jL) (jD (jX (kF qQ (jK jY (pv 0) jE) jO) (jC (jI (jF ba hr (jA (jK jY (pv 0) jE) (jA (pv 1) jB))))) jL) (jD (jX (kF qQ (jK jY (pv 0) jE) jO) (jC (jI (jG (zJ rfl) rfl M.max boot_max (jA (kQ ["_law_at"] ["_law_shapes_here"] [1] rfl (kU (jK jY (pv 0) jE)) rfl ⟨rfl,trivial⟩ ⟨⟨rfl,rfl,rfl,_,rfl⟩,trivial⟩ (fun _ _ _ _=>(qC rfl)) (fun _ _ _ _=>kP) (fun _ _ _ _=>(jF ba hr (jA (kW (jA jO (jA (pv 0) jB))) (jA (pv 1) jB))))) jB)))) jL) (jC (jI (jV qG jE (jG (zJ rfl) rfl M.max boot_max (jA (kQ ["_law_name","_law_inner"] ["_law_shapes_here"] [1] rfl (kU (jK jY (jK jU (pv 1) (jK jY (pv 0) jE)) jE)) rfl ⟨rfl,trivial⟩ ⟨⟨rfl,rfl,rfl,_,rfl⟩,trivial⟩ (fun _ _ _ _=>(xV (K:=K) (n:=2) rfl rfl (jS (qC rfl) (jS (aM rfl) qK)))) (fun _ _ _ _=>kP) (fun _ _ _ _=>(jF ba hr (jA (pv 1) (jA (pv 2) jB))))) jB)))))))),?_⟩;have back : 1<=r->∃r',r=r'+1:=fun h=>⟨r-1,by omega⟩;cases id hlk with
 | @num a w h1=>exact⟨_,rfl,a,_,_,_,rfl,rfl,h1,rfl,rfl,_,rfl,kZ (q _ (jJ.refl _))⟩
 | @many a b n k h1 h2 =>
  have hv' : 1<=r:=hv;obtain⟨r,rfl⟩:=back hv';have hlv:k.lv=0:=by rcases hf.2.2 with⟨w,rfl,_⟩|⟨i,rfl,_⟩ <;> rfl
  refine⟨_,rfl,a,_,_,_,rfl,rfl,h1,rfl,rfl,_,rfl,jQ ⟨_,rfl,a,_,_,_,rfl,rfl,h1,rfl,rfl,_,rfl,kZ ⟨_,rfl,a,_,_,_,rfl,rfl,h1,rfl,_,rfl,b,sl,k,S,rfl,hk.sub,(by omega),hf.sub,h2,hlx,hg,fun H' g=>?_⟩⟩⟩;exact q H' g
 | @pick a l is h1 h2 =>
  have hs:=hf.1;have hs4:=hf.2.1;have hne:is≠[]:=fun z=>by rw[z]at hs;exact absurd hs (by decide)
  have hr3 : 3<=r:=by
   cases is with
   |nil=>exact absurd rfl hne
   |cons i _=>have:=hk i (ρ ..);omega
  obtain⟨r,rfl⟩:=back (by omega);have zl:(is.map fun n:Nat=>V.int n).length=is.length:=δ _;refine⟨_,rfl,a,_,_,_,rfl,rfl,h1,rfl,rfl,_,rfl,jQ ⟨_,rfl,a,_,_,_,rfl,rfl,h1,rfl,rfl,_,rfl,jQ ⟨_,rfl,a,_,_,_,rfl,rfl,h1,rfl,rfl,_,rfl,kZ ⟨_,rfl,a,_,_,_,rfl,rfl,h1,rfl,l,rfl,⟨_,h2⟩,vO (xs:=is.map fun n:Nat=>V.int n) (fun j ys H'=>jJ H H'/\ys=((is.take j).map fun i=>V.int (vDp (.nest i) (tabs S)))) ⟨jJ.refl _,rfl⟩ (fun j ys H' _ z=>⟨z.1.seq h2,by rw[z.2,δ,Θ];exact kg _ _⟩) (kI (by omega)) (fun j x ys H' hx z=>?_) (fun ys H' z p hp=>?_)⟩⟩⟩⟩
  ·obtain⟨g,rfl⟩:=z;obtain⟨i,hi,rfl⟩:=pF hx;have him:=ι hi;refine⟨_,rfl,xD,fun t ht=>?_⟩;clear 1 t H3 g3 k3 ht;exact⟨_,rfl,t,sl,.nest i,S,rfl,(by have:=hk i him;show 2*i+2<=r;omega),io _,hf.2.2.2 i him,.nest (SqT.of k3),hlx.same (g.trans g3),hg,fun H4 g4=>⟨⟨(g.trans g3).trans g4,(qO hi).symm⟩,_,rfl⟩⟩
  ·obtain⟨g,rfl⟩:=z;have g2:=vQ hp (.lst ((is.take (is.map fun n:Nat=>V.int n).length).map fun i=>V.int (vDp (.nest i) (tabs S))));have kp:upd H' p (.lst ((is.take (is.map fun n:Nat=>V.int n).length).map fun i=>V.int (vDp (.nest i) (tabs S)))) p=some (.lst (((is.map fun i=>vDp (.nest i) (tabs S)).map fun n:Nat=>(n:Int)).map V.int)):=by
    rw[jP,zl,jZ,jp,jp];rfl
   have q':=q _ (g.trans g2);refine⟨p,(is.map fun i=>vDp (.nest i) (tabs S)).map fun n:Nat=>(n:Int),rfl,SqL.of kp,(by simpa using hne),fun m h5 h6=>?_⟩;rw[aGv h5 h6];exact q'
 | @nest a i h1 =>
  have hi:i<S.length:=hf;have hr2 : 2*i+2<=r:=hk;obtain⟨r,rfl⟩:=back (by omega);obtain⟨as,s,l,ps,m1,m2,m3,m4,m5⟩:=hlx.at hi;have hS:S[i]?=some S[i]:=ζ hi;have hfit:=hg.fit i _ hS;have htab:=fU hS fun f hf=>(hfit f hf).1.below;have zl:(ps.map V.ref).length=S[i].2.length:=by rw[δ];exact m5.len
  refine⟨_,rfl,a,_,_,_,rfl,rfl,h1,rfl,rfl,_,rfl,jQ ⟨_,rfl,a,_,_,_,rfl,rfl,h1,rfl,rfl,_,rfl,jQ ⟨_,rfl,a,_,_,_,rfl,rfl,h1,rfl,rfl,_,rfl,jQ ⟨_,rfl,_,rfl,a,_,_,_,rfl,rfl,h1,rfl,sl,_,_,_,rfl,rfl,m1,aI m2,s,_,_,_,rfl,rfl,m3,rfl,l,rfl,⟨_,m4⟩,bV (xs:=ps.map V.ref) (fun j ys H'=>jJ H H'/\ys=((S[i].2.take j).map fun f=>V.int (vDp f.2 (tabs S)))) ⟨jJ.refl _,rfl⟩ (fun j ys H' _ z=>⟨z.1.seq m4,by rw[z.2,δ,Θ];exact kg _ _⟩) (kI (by have:=hg.few i _ hS;omega)) (fun j x ys H' os ho hx z=>?_) (fun ys H' z p hp=>?_)⟩⟩⟩⟩
  ·obtain⟨g,rfl⟩:=z;obtain⟨o1,o2,rfl⟩:=rN ho;obtain⟨u,hu,rfl⟩:=qJ hx;obtain⟨nm',kd',kk,hfs,ht,hko⟩:=m5.get hu;have hm:=hfit _ (ι hfs);exact⟨u,_,rfl,g.tp ht,rfl,_,_,rfl,_,_,rfl,rfl,_,rfl,_,rfl,kk,sl,kd',S,rfl,hm.1.rk.mono (by omega),(by have:=kd'.lv_le;omega),hm.1.mono (ql hi),hko.same g,hlx.same g,hg,fun H2 g2=>⟨⟨g.trans g2,(qO hfs).symm⟩,[_,_],rfl,rfl⟩⟩
  ·obtain⟨g,rfl⟩:=z;have g2:=vQ hp (.lst ((S[i].2.take (ps.map V.ref).length).map fun f=>V.int (vDp f.2 (tabs S))));have kp:upd H' p (.lst ((S[i].2.take (ps.map V.ref).length).map fun f=>V.int (vDp f.2 (tabs S)))) p=some (.lst (((S[i].2.map fun f=>vDp f.2 (tabs S)).map fun n:Nat=>(n:Int)).map V.int)):=by
    rw[jP,zl,jZ,jp,jp];rfl
   have q':=q _ (g.trans g2);refine⟨p,(S[i].2.map fun f=>vDp f.2 (tabs S)).map fun n:Nat=>(n:Int),rfl,SqL.of kp,(by simpa using hg.ne i _ hS),fun m h5 h6=>?_⟩;rw[aGv h5 h6];refine⟨_,_,rfl,rfl,?_⟩;rw[show vDp (.nest i) (tabs S)=1+xA (S[i].2.map fun f=>vDp f.2 (tabs S)) from htab.2.1,vh]at q';exact q'
theorem tM(F:Fun K "_law_units" "_law_units" dU f fd)(bu:j4 "_law_units" (spLU K r))(ao:j4 "_law_size" (uG K vSz (r+1)))(bx:j4 "_law_joined" spLJ):j0 ["_law_kind_here","_law_shapes_here","_law_path"] (spLU K (r+1)):=by
 w_cond vT;obtain⟨a,sl,p,kd,S,rfl,hp,hk,hv,hf,hlk,hlx,hg,q⟩:=h;refine⟨_,(jD (jX (kF qQ (jK jY (pv 0) jE) jO) (jC (jI (qE (jA (kW (jA (pv 2) (jA (jK jY (pv 0) jE) (jA jO jB)))) jB)))) jL) (jD (jX (kF qQ (jK jY (pv 0) jE) jO) (jC (jI (qE (jA (kW (jA (jF bx hr (jA (pv 2) (jA jO jB))) (jA jE (jA jO jB)))) (jA (kW (jA (pv 2) (jA (jV cQ (jF ao hr (jA (pv 0) (jA (pv 1) jB))) jE) (jA jO jB)))) jB))))) jL) (jD (jR 3 vT.nd (qE jB)) (jD (jX (kF qQ (jK jY (pv 0) jE) jO) (jC (vF jo rfl (vJ rfl M.range (jA (jK jY (pv 0) jE) jB)) (kS 4 vT.nd) (jC (jR 3 vT.nd (jV cI (pv 3) (jF bu hr (jA (jK jY (pv 0) jE) (jA (pv 1) (jA (jF bx hr (jA (pv 2) (jA (kY bR rfl M.str boot_str (jA (pv 4) jB)) jB))) jB))))))))) (jC (vF jo rfl (kU (jK jY (jK jU (pv 1) (jK jY (pv 0) jE)) jE)) (xQ rfl (jS (kS 5 vT.nd) (jS (kS 6 vT.nd) qK))) (jC (jR 3 vT.nd (jV cI (pv 3) (jF bu hr (jA (pv 6) (jA (pv 1) (jA (jF bx hr (jA (pv 2) (jA (pv 5) jB))) jB)))))))))) (jC (jI (pv 3))))))),?_⟩;have back : 1<=r->∃r',r=r'+1:=fun h=>⟨r-1,by omega⟩;have bd:=Kd.size_bd hg.sz (by decide) hf;have lens:((∃i,kd=.nest i)\/∃n q,kd=.many n q)->∀j,(((kd.parts S).take j).flatMap fun f=>un f.2 S (pj p f.1)).length<=6000:=fun hF j=>by
  have h1:(un kd S p).length<=_:=(hg.kd hf).2 p;rw[Kd.parts_un hg hf hF]at h1
  conv at h1=>lhs;rw[←kj j (kd.parts S)]
  rw[qf,θ]at h1;omega
 have pjl:∀y:Str,y.length<=6->(pj p y).length<=p.length+7:=fun y hy=>by
  have e1:(η ".").length=1:=rfl;unfold pj
  split
  ·omega
  ·rw[kq,kq];omega
 cases id hlk with
 | @num a w h1 =>
  refine⟨_,rfl,a,_,_,_,rfl,rfl,h1,rfl,rfl,_,rfl,kZ ⟨_,rfl,_,rfl,a,_,_,_,rfl,rfl,h1,rfl,lZ,fun t ht=>?_⟩⟩;generalize e1:upd H t _=H1;obtain⟨g1,k1⟩:=kR e1 ht;refine⟨iU,fun l hl=>?_⟩;clear 1 l H2 g2 k2 hl;exact q l H2 (g1.trans g2) (g1.free hl) ⟨[t],k2,.cons (g2.tp (SqT.of k1)) .nil⟩
 | @pick a l is h1 h2 =>
  refine⟨_,rfl,a,_,_,_,rfl,rfl,h1,rfl,rfl,_,rfl,jQ ⟨_,rfl,a,_,_,_,rfl,rfl,h1,rfl,rfl,_,rfl,kZ ⟨_,rfl,p,_,rfl,(by omega),(by decide),(by decide),lZ,fun t1 ht1=>?_⟩⟩⟩;generalize e1:upd H t1 _=H1;obtain⟨g1,k1⟩:=kR e1 ht1;refine⟨_,rfl,_,rfl,_,rfl,a,sl,.pick is,S,rfl,hk,hv,hf,hlk.same g1,hlx.same g1,hg,fun H2 g2=>⟨_,_,rfl,rfl,lZ,fun t2 ht2=>?_⟩⟩;clear 1 t2 H3 g3 k3 ht2;refine⟨xD,fun lf hl=>?_⟩;clear 1 lf H4 g4 k4 hl;have ez:((vSz (Kd.pick is) (tabs S):Nat):Int)-1=((xA (is.map fun i=>(tabs S).sz.getD i 0):Nat):Int):=by
   rw[show vSz (Kd.pick is) (tabs S)=1+xA (is.map fun i=>(tabs S).sz.getD i 0) from rfl];omega
  have k3':H3 t2=some (.tup [.str p,.int ((vSz (Kd.pick is) (tabs S):Nat)-1),.str (η "pick")]):=k3;rw[ez]at k3';exact q lf H4 (((g1.trans g2).trans g3).trans g4) (((g1.trans g2).trans g3).free hl) ⟨[t1,t2],k4,.cons (((g2.trans g3).trans g4).tp (SqT.of k1)) (.cons (g4.tp (SqT.of k3')) .nil)⟩
 | @many a b n k h1 h2 =>
  have hv' : 1<=r:=hv;obtain⟨r,rfl⟩:=back hv';have hn6:n<=6:=hf.2.1;have hlv:k.lv=0:=by rcases hf.2.2 with⟨w,rfl,_⟩|⟨i,rfl,_⟩ <;> rfl
  refine⟨_,rfl,a,_,_,_,rfl,rfl,h1,rfl,rfl,_,rfl,jQ ⟨_,rfl,a,_,_,_,rfl,rfl,h1,rfl,rfl,_,rfl,jQ ⟨cZ,fun l0 hl0=>?_⟩⟩⟩;generalize e1:upd H l0 _=H1;obtain⟨g1,k1⟩:=kR e1 hl0;refine⟨_,rfl,a,_,_,_,rfl,rfl,g1.tp h1,rfl,rfl,_,rfl,kZ ⟨_,rfl,a,_,_,_,rfl,rfl,g1.tp h1,rfl,n,rfl,by omega,by omega,bE (n:=n) (fun j σ H'=>∃(o4 o5 o6:Option V) (lf:Addr),σ = [some (.ref a),some (.ref sl),some (.str p),some (.ref lf),o4,o5,o6]/\jJ H H'/\H lf=none/\UL K H' lf ((((Kd.many n k).parts S).take j).flatMap fun f=>un f.2 S (pj p f.1))) ⟨_,_,_,l0,rfl,g1,hl0,[],k1,.nil⟩ (fun j σ H' hj z=>?_) (fun σ H' z=>?_)⟩⟩
  ·obtain⟨o4,o5,o6,lf,rfl,g,hlf,us,ku,ur⟩:=z;have hps:((Kd.many n k).parts S)[j]?=some (η (toString j),k):=by
    show((jk n).map _)[j]?=_;rw[ig,ul hj];rfl
   obtain⟨p1,p2,p3,p4⟩:=Kd.parts_ok hg hf hk (ι hps);refine⟨_,rfl,_,rfl,a,_,_,_,rfl,rfl,g.tp h1,rfl,_,rfl,_,rfl,_,rfl,_,rfl,Nat.lt_trans (bW (by omega)) (by decide),p,η (toString ((0:Int)+(j:Nat))),rfl,by omega,?_,?_,b,sl,pj p (η (toString ((0:Int)+(j:Nat)))),k,S,rfl,?_,p1,by omega,p2,h2.same g,hlx.same g,hg,fun l3 H3 g3 hl3 u3=>?_⟩
   ·rw[rh];exact ip p4 (by decide)
   ·rw[rh];exact p3
   ·rw[rh];have:=pjl (η (toString j)) p4;show(pj p (η (toString j))).length+_<=_;omega
   rw[rh]at u3;obtain⟨us3,k3,ur3⟩:=u3;have ku3:=g3 _ _ ku;have h6:=lens (.inr ⟨_,_,rfl⟩) (j+1);rw[dZ hps,θ,←ur.len,show(un k S (pj p (η (toString j)))).length=us3.length from ur3.len.symm]at h6;refine⟨lf,l3,_,_,rfl,rfl,ku3,k3,(by rw[jf,δ,δ];omega),fun l4 hl4=>?_⟩;clear 1 l4 H4 g4 k4 hl4;refine⟨_,_,_,l4,rfl,(g.trans g3).trans g4,(g.trans g3).free hl4,us++us3,by rw[χ];exact k4,?_⟩;rw[dZ hps];exact(ur.same (g3.trans g4)).app (ur3.same g4)
  ·obtain⟨o4,o5,o6,lf,rfl,g,hlf,u⟩:=z;refine⟨_,rfl,q lf H' g hlf ?_⟩;rw[Kd.parts_un hg hf (.inr ⟨_,_,rfl⟩)];rw[qd (by show((jk n).map _).length<=n;rw[δ,jw];exact ν _)]at u;exact u
 | @nest a i h1 =>
  have hi:i<S.length:=hf;have hr2 : 2*i+2<=r:=hk;obtain⟨r,rfl⟩:=back (by omega);obtain⟨as,s,l,ps,m1,m2,m3,m4,m5⟩:=hlx.at hi;have hS:S[i]?=some S[i]:=ζ hi;have ep:(Kd.nest i).parts S=S[i].2:=by show(S.getD i _).2=_;rw[Γ,hS];rfl
  refine⟨_,rfl,a,_,_,_,rfl,rfl,h1,rfl,rfl,_,rfl,jQ ⟨_,rfl,a,_,_,_,rfl,rfl,h1,rfl,rfl,_,rfl,jQ ⟨cZ,fun l0 hl0=>?_⟩⟩⟩;generalize e1:upd H l0 _=H1;obtain⟨g1,k1⟩:=kR e1 hl0;refine⟨_,rfl,a,_,_,_,rfl,rfl,g1.tp h1,rfl,rfl,_,rfl,jQ ⟨_,rfl,_,rfl,a,_,_,_,rfl,rfl,g1.tp h1,rfl,sl,_,_,_,rfl,rfl,g1.seq m1,aI m2,s,_,_,_,rfl,rfl,g1.tp m3,rfl,l,rfl,⟨_,g1.seq m4⟩,qU (xs:=ps.map V.ref) (fun j σ H'=>∃(o4 o5 o6:Option V) (lf:Addr),σ = [some (.ref a),some (.ref sl),some (.str p),some (.ref lf),o4,o5,o6]/\jJ H H'/\H lf=none/\UL K H' lf ((((Kd.nest i).parts S).take j).flatMap fun f=>un f.2 S (pj p f.1))) ⟨_,_,_,l0,rfl,g1,hl0,[],k1,.nil⟩ (fun j σ H' _ z=>?_) (fun j x σ H' hx z=>?_) (fun σ H' z=>?_)⟩⟩
  ·obtain⟨o4,o5,o6,lf,rfl,g,_⟩:=z;exact g.seq m4
  ·obtain⟨o4,o5,o6,lf,rfl,g,hlf,us,ku,ur⟩:=z;obtain⟨t,ht,rfl⟩:=qJ hx;obtain⟨nm',kd',kk,hfs,htt,hko⟩:=m5.get ht;have hps:((Kd.nest i).parts S)[j]?=some (nm',kd'):=by rw[ep];exact hfs
   obtain⟨p1,p2,p3,p4⟩:=Kd.parts_ok hg hf hk (ι hps);have p4':nm'.length<=6:=p4;have:=pjl nm' p4';refine⟨t,_,rfl,g.tp htt,rfl,_,_,rfl,_,_,rfl,rfl,_,rfl,_,rfl,_,rfl,_,rfl,_,rfl,p,nm',rfl,by omega,by omega,p3,kk,sl,pj p nm',kd',S,rfl,by omega,p1,(by have:=kd'.lv_le;omega),p2,hko.same g,hlx.same g,hg,fun l3 H3 g3 hl3 zq=>?_⟩;obtain⟨us3,k3,ur3⟩:=zq;have ku3:=g3 _ _ ku;have h6:=lens (.inl ⟨_,rfl⟩) (j+1);rw[dZ hps,θ,←ur.len,←ur3.len]at h6;refine⟨lf,l3,_,_,rfl,rfl,ku3,k3,(by rw[jf,δ,δ];omega),fun l4 hl4=>?_⟩;clear 1 l4 H4 g4 k4 hl4;refine⟨_,_,_,l4,rfl,(g.trans g3).trans g4,(g.trans g3).free hl4,us++us3,by rw[χ];exact k4,?_⟩;rw[dZ hps];exact(ur.same (g3.trans g4)).app (ur3.same g4)
  ·obtain⟨o4,o5,o6,lf,rfl,g,hlf,u⟩:=z;refine⟨_,rfl,q lf H' g hlf ?_⟩;rw[Kd.parts_un hg hf (.inl ⟨_,rfl⟩)];rw[qd (by rw[ep,δ,m5.len];exact ν _)]at u;exact u
theorem aBn{r:Nat}(F:Fun K "_law_fits" "_law_fits" fE f fd)(ao:j4 "_law_size" (uG K vSz (r+1)))(bu:j4 "_law_units" (spLU K (r+1)))(ba:j4 "_law_depth" (uG K vDp (r+1))):j0 ["_law_shapes_here"] (aKe K r):=by
 w_cond lS;obtain⟨sl,S,n,rfl,hn,hlx,hg,hr1,h8,q⟩:=h;refine⟨_,(jD (jR 1 lS.nd (kW (jA jO (jA (jV cQ (jG jW rfl M.len je (jA (pv 0) jB)) jE) jB)))) (jD (jX (PW.pt (yP (kF eU (jF ao hr (jA (pv 1) (jA (pv 0) jB))) jE) (yH (kF eU (jG jW rfl M.len je (jA (jF bu hr (jA (pv 1) (jA (pv 0) (jA jO jB)))) jB)) jE)))) (jC (jI aA)) jL) (jC (jI (qY eO (jF ba hr (jA (pv 1) (jA (pv 0) jB))) jE (vW _)))))),?_⟩;obtain⟨as,ha,hW⟩:=id hlx;have hal:((as.map V.ref).length:Int)-1=((n:Nat):Int):=by rw[δ,hW.len,hn];omega
 refine⟨_,rfl,sl,_,rfl,.inl ha,_,_,rfl,rfl,xD,fun t ht=>?_⟩;clear 1 t H1 g1 k0 ht;have k1:H1 t=some (.tup [.str (η "shape"),.int (((as.map V.ref).length:Int)-1)]):=k0;rw[hal]at k1;have hnS:(Kd.nest n).Fit S.length:=by show n<S.length;omega
 have lk:LK K H1 t (.nest n):=.nest (SqT.of k1);refine⟨_,rfl,_,rfl,t,sl,.nest n,S,rfl,hr1,io _,hnS,lk,hlx.same g1,hg,fun H2 g2=>⟨_,_,rfl,rfl,_,rfl,yU (fun c=>xF rfl (q false H2 (g1.trans g2) (fun z=>by cases z))) (fun c=>?_)⟩⟩;refine⟨_,rfl,_,rfl,t,sl,Str.empty,.nest n,S,rfl,(by show 0+8*r<=200;omega),hr1,io _,hnS,lk.same g2,hlx.same (g1.trans g2),hg,fun l H3 g3 hl ⟨us,ku,ur⟩=>⟨l,_,rfl,.inl (SqL.of ku),_,_,rfl,rfl,_,rfl,yU (fun c2=>q false H3 ((g1.trans g2).trans g3) (fun z=>by cases z)) (fun c2=>?_)⟩⟩;refine⟨_,rfl,_,rfl,t,sl,.nest n,S,rfl,hr1,io _,hnS,lk.same (g2.trans g3),hlx.same ((g1.trans g2).trans g3),hg,fun H4 g4=>⟨_,_,rfl,rfl,?_⟩⟩;refine q _ H4 (((g1.trans g2).trans g3).trans g4) fun c3=>?_;have c1':¬ (64:Int)<((vSz (Kd.nest n) (tabs S):Nat):Int):=fun z=>c (decide_eq_true z);have c2':¬ (40:Int)<(((us.map V.ref).length:Nat):Int):=fun z=>c2 (decide_eq_true z);have c3':((vDp (Kd.nest n) (tabs S):Nat):Int)<=4:=of_decide_eq_true c3;rw[δ,ur.len]at c2';exact⟨by show vSz (Kd.nest n) (tabs S)<=64;omega,by omega,by show vDp (Kd.nest n) (tabs S)<=4;omega⟩
theorem wE{k:Nat}(F:Fun K "_law_kind" "_law_kind" fM f fd)(aa:j4 "_law_take" cC):j0 ["_law_box_here","_law_known"] (aOd K):=by
 w_cond aB;obtain⟨p,n,xs,rfl,hn8,hs,hpx,hal,q⟩:=h;refine⟨_,(jD (jR 2 aB.nd (jF aa hr (jA (pv 0) (jA jE jB)))) (jD (jR 3 aB.nd (jV qG jE (jF aa hr (jA (pv 0) (jA jE jB))))) (jD (jX (PW.pt (yP (kF aDw (pv 2) jE) (yH (kF qQ (pv 1) jE)))) (jC (jI (jK jU (qE (jA (kW (jA jO (jA (pv 3) jB))) (jA (kW (jA jO (jA (jV qG jE (jF aa hr (jA (pv 0) (jA jE jB)))) (jA (kW (jA jO (jA (pv 3) jB))) jB)))) jB))) (kY lL rfl M.int boot_int (jA (qY qQ (pv 2) jE (vW _)) jB))))) jL) (jD (jR 4 aB.nd (jF aa hr (jA (pv 0) (jA (pv 1) jB)))) (jD (jX (kF aDw (pv 2) jE) (jC (jI (kW (jA jO (jA (pv 4) jB))))) jL) (jD (jX (kF qQ (pv 2) jE) (jC (jI (kW (jA jO (jA (jV qG jE (jF aa hr (jA (pv 0) (jA jE jB)))) (jA (kW (jA jO (jA (pv 4) jB))) jB)))))) jL) (jD (jX (kF qQ (pv 1) jE) (jC (jI (kW (jA jO (jA (pv 3) jB))))) jL) (jC (jI (kW (jA jO (jA (kQ ["_law_k"] ["_law_known","_law_at"] [1,4] rfl (vJ rfl M.range (jA (jG (sM rfl) rfl M.min boot_min (jA (pv 1) (jA (jV qG jE (jF aa hr (jA (pv 0) (jA jE jB)))) jB))) jB)) rfl ⟨rfl,⟨rfl,trivial⟩⟩ ⟨⟨rfl,rfl,rfl,_,rfl⟩,⟨⟨rfl,rfl,rfl,_,rfl⟩,trivial⟩⟩ (fun _ _ _ _=>(qC rfl)) (fun _ _ _ _=>kP) (fun _ _ _ _=>(jV xT (jV qG (pv 2) (pv 0)) (pv 1)))) jB)))))))))))),?_⟩;refine⟨_,rfl,p,8,rfl,by decide,by decide,hs,fun v1 H1 hv1 d1=>⟨_,rfl,p,4,rfl,by decide,by decide,d1.1,fun v2 H2 hv2 d2=>⟨_,_,rfl,rfl,?_⟩⟩⟩;have dd:=d1.trans d2;have al2:=Al.drawn hal dd;have ew:(1:Int)+(v2:Nat)=((1+v2:Nat):Int):=by omega
 have tup:∀{H0 H1:Hp}{t:Addr}{o:HO},Al xs H0->H0 t=none->upd H0 t o=H1->Al xs H1/\jJ H0 H1/\offs xs H1 t=some o:=fun al ht e=>by
  obtain⟨g,k⟩:=kR e ht;exact⟨al.same g,g,vC (al.new ht) k⟩
 dsimp only[zA];refine joinC (decide (v1<3\/n=0)) (H':=H2) ?_ (fun Q' hQ=>?_)
 ·by_cases hc:v1<3\/n=0
  ·refine xF (decide_eq_true hc) ⟨_,rfl,xD,fun t1 ht1=>?_⟩;generalize e3:upd H2 t1 _=H3;obtain⟨al3,g3,k3⟩:=tup al2 ht1 e3;refine⟨_,rfl,p,6,rfl,by decide,by decide,jJ.st3 g3 d2.1,fun v3 H4 hv3 d4=>⟨_,_,rfl,rfl,_,rfl,xD,fun t2 ht2=>?_⟩⟩;have al4:=Al.drawn al3 d4;have k34:=d4.offs hpx _ _ k3;generalize e5:upd H4 t2 _=H5;obtain⟨al5,g5,k5⟩:=tup al4 ht2 e5;refine⟨lZ,fun t3 ht3=>?_⟩;generalize e6:upd H5 t3 _=H6;obtain⟨al6,g6,k6⟩:=tup al5 ht3 e6;refine⟨xD,fun l hl=>?_⟩;clear 1 l H7 g7 k7 hl;have D7:Drawn p H H7:=(((dd.keep g3).trans d4).keep ((g5.trans g6).trans g7));have s57:jJ (offs xs H5) (offs xs H7):=qD (g6.trans g7);have s67:jJ (offs xs H6) (offs xs H7):=qD g7;have s47:jJ (offs xs H4) (offs xs H7):=qD ((g5.trans g6).trans g7);rw[ew]at k34 k5;have e3':(1:Int)+(v3:Nat)=((1+v3:Nat):Int):=by omega
   (try dsimp only at k6)
   rw[e3']at k6
   by_cases h2:v1=2
   ·refine⟨_,rfl,rfl,_,rfl,l,_,_,.ref t3,rfl,rfl,SqL.of k7,(by rw[if_pos (by rw[h2];decide)];rfl),q t3 (.many (1+v3) (.num (1+v2))) H7 D7 ⟨by omega,by omega,.inl ⟨1+v2,rfl,by omega,by omega⟩⟩ (.many (SqT.of (s67 _ _ k6)) (.num (SqT.of (s57 _ _ k5))))⟩
   ·refine⟨_,rfl,rfl,_,rfl,l,_,_,.ref t1,rfl,rfl,SqL.of k7,(by rw[if_neg (by simp;omega)];rfl),q t1 (.num (1+v2)) H7 D7 ⟨by omega,by omega⟩ (.num (SqT.of (s47 _ _ k34)))⟩
  ·have hv3 : 3<=v1:=by omega
   have hn0 : 0<n:=by omega
   refine vE (by rw[decide_eq_false hc];decide) ⟨_,rfl,_,rfl,p,n,rfl,by omega,by omega,dd.1,fun v3 H3 hv3' d3=>?_⟩;have d23:=dd.trans d3;have al3:=Al.drawn al2 d3;refine⟨_,rfl,_,_,rfl,rfl,_,rfl,yU (fun c=>?_) (fun c=>?_)⟩
   ·refine⟨_,rfl,xD,fun t ht=>?_⟩;generalize e4:upd H3 t _=H4;obtain⟨al4,g4,k4⟩:=tup al3 ht e4;exact q t (.nest v3) H4 (d23.keep g4) (by show v3<n;omega) (.nest (SqT.of k4))
   ·refine⟨_,rfl,rfl,_,rfl,yU (fun c=>?_) (fun c=>?_)⟩
    ·refine⟨_,rfl,p,6,rfl,by decide,by decide,d3.1,fun v4 H4 hv4 d4=>⟨_,_,rfl,rfl,_,rfl,xD,fun t2 ht2=>?_⟩⟩;have al4:=Al.drawn al3 d4;generalize e5:upd H4 t2 _=H5;obtain⟨al5,g5,k5⟩:=tup al4 ht2 e5;refine⟨lZ,fun t3 ht3=>?_⟩;generalize e6:upd H5 t3 _=H6;obtain⟨al6,g6,k6⟩:=tup al5 ht3 e6;have e4':(1:Int)+(v4:Nat)=((1+v4:Nat):Int):=by omega
     (try dsimp only at k6)
     rw[e4']at k6;exact q t3 (.many (1+v4) (.nest v3)) H6 ((d23.trans d4).keep (g5.trans g6)) ⟨by omega,by omega,.inr ⟨v3,rfl,by omega⟩⟩ (.many (SqT.of k6) (.nest (SqT.of (qD g6 _ _ k5))))
    ·refine⟨_,rfl,rfl,_,rfl,yU (fun c=>?_) (fun c=>?_)⟩
     ·refine⟨_,rfl,xD,fun t ht=>?_⟩;generalize e4:upd H3 t _=H4;obtain⟨al4,g4,k4⟩:=tup al3 ht e4;rw[ew]at k4;exact q t (.num (1+v2)) H4 (d23.keep g4) ⟨by omega,by omega⟩ (.num (SqT.of k4))
     ·have hn1:n≠1:=fun z=>c (by rw[z];decide);refine⟨_,rfl,_,rfl,p,3,rfl,by decide,by decide,d3.1,fun v4 H4 hv4 d4=>⟨_,_,rfl,rfl,_,_,rfl,?_⟩⟩;have al4:=Al.drawn al3 d4;obtain⟨m,hm,hm2,hm4,hmn⟩ : ∃m:Nat,(if (2:Int)+(v4:Nat)<(n:Nat) then (2:Int)+(v4:Nat) else (n:Nat))=(m:Nat)/\2<=m/\m<=4/\m<=n:=by
       by_cases z:(2:Int)+(v4:Nat)<(n:Nat)
       ·exact⟨2+v4,by rw[if_pos z];omega,by omega,by omega,by omega⟩
       ·exact⟨n,by rw[if_neg z],by omega,by omega,ν _⟩
      refine⟨_,rfl,(by rw[hm];omega),(by rw[hm];omega),?_⟩;rw[hm];refine yI (n:=m) (fun j ys H'=>H'=H4/\ys=((jk j).map fun k=>(v3+k) % n).map fun i:Nat=>V.int i) ⟨rfl,rfl⟩ (fun j ys H' _ z=>by rw[z.2,δ,δ,jw];exact ν _) (kI (by omega)) (fun j ys H' hj z=>?_) (fun ys H' z l hl=>?_)
      ·obtain⟨rfl,rfl⟩:=z;refine⟨_,rfl,_,rfl,_,_,rfl,rfl,_,rfl,_,_,rfl,rfl,(by show(0:Int)<(n:Nat);omega),⟨rfl,?_⟩,_,rfl⟩;rw[vg,χ,χ]
       congr 1
       show[V.int (((v3:Nat)+(0+(j:Nat))) % (n:Nat))]=[V.int (((v3+j) % n:Nat):Int)]
       congr 2
       rw[rh,←vh]
       first|exact(Int.natCast_emod _ _).symm|exact(Int.ofNat_emod _ _).symm|rfl
      ·obtain⟨rfl,rfl⟩:=z;generalize e5:upd H' l _=H5;obtain⟨al5,g5,k5⟩:=tup al4 hl e5;refine⟨xD,fun t ht=>?_⟩;generalize e6:upd H5 t _=H6;obtain⟨al6,g6,k6⟩:=tup al5 ht e6;refine q t (.pick ((jk m).map fun k=>(v3+k) % n)) H6 ((d23.trans d4).keep (g5.trans g6)) ⟨by rw[δ,jw];exact hm2,by rw[δ,jw];exact hm4,aGd hmn,fun i hi=>?_⟩ (.pick (SqT.of k6) (SqL.of (qD g6 _ _ k5)));obtain⟨k,_,rfl⟩:=iu.mp hi;exact Nat.mod_lt _ hn0
 ·refine⟨_,rfl,_,_,rfl,rfl,_,rfl,yU (fun c=>?_) (fun c=>?_)⟩
  ·have c':(v1:Int)<3:=of_decide_eq_true c;rw[decide_eq_true (show v1<3\/n=0 from .inl (by omega))]at hQ;exact hQ
  ·have c':¬ (v1:Int)<3:=fun z=>c (decide_eq_true z);refine⟨_,rfl,rfl,_,rfl,?_⟩;rw[show decide (V.int (n:Nat)=V.int 0)=decide (v1<3\/n=0) by
    by_cases z:n=0
    ·rw[decide_eq_true (show v1<3\/n=0 from .inr z),z];decide
    ·rw[decide_eq_false (show ¬ (v1<3\/n=0) by omega),decide_eq_false];intro e;injection e with e;omega]
   exact hQ
theorem lG(F:Fun K "_law_kind_text" "_law_kind_text" yQ f fd)(bg:j4 "_law_kind_text" (spKT K r)):j0 ["_law_kind_here","_law_shapes_here"] (spKT K (r+1)):=by
 w_cond iV;obtain⟨a,sl,kd,S,rfl,hlv,hf,hn,hlk,hlx,q⟩:=h;refine⟨_,(jD (jX (kF qQ (jK jY (pv 0) jE) jO) (jC (jI (jV vA jO (kY bR rfl M.str boot_str (jA (jK jY (pv 0) jE) jB))))) jL) (jD (jX (kF qQ (jK jY (pv 0) jE) jO) (jC (jI (jV vA (jV vA (jV vA jO (kY bR rfl M.str boot_str (jA (jK jY (pv 0) jE) jB))) jO) (jF bg hr (jA (jK jY (pv 0) jE) (jA (pv 1) jB)))))) jL) (jD (jX (kF qQ (jK jY (pv 0) jE) jO) (jC (jI (aD rj yg yh oZ jO (jA (jV cI (qE (jA jO jB)) (kQ ["_law_at"] ["_law_shapes_here"] [1] rfl (kU (jK jY (pv 0) jE)) rfl ⟨rfl,trivial⟩ ⟨⟨rfl,rfl,rfl,_,rfl⟩,trivial⟩ (fun _ _ _ _=>(qC rfl)) (fun _ _ _ _=>kP) (fun _ _ _ _=>(jK (aEm K rfl) (jK (wV K rfl) (pv 1) (pv 0)) jE)))) jB)))) jL) (jC (jI (jK jY (jK jU (pv 1) (jK jY (pv 0) jE)) jE)))))),?_⟩;have lg:∀i:Nat,i<=9->(((i:Nat):Int)).natAbs.log2<1920:=fun i hi=>Nat.lt_trans (bW (by omega)) (by decide);have jc:∀(x:Str) (ys:List Str),ys≠[]->jt L2.spS (x::ys)=x++L2.spS++jt L2.spS ys:=fun x ys h=>iL h;obtain⟨w6,w5⟩:=eI hn hf;cases id hlk with
 | @num a w h1 =>
  have hw:w<=4:=hf.2;have d2:=(dig (w:=w) (by omega)).2.1;refine⟨_,rfl,a,_,_,_,rfl,rfl,h1,rfl,rfl,_,rfl,kZ ⟨_,rfl,a,_,_,_,rfl,rfl,h1,rfl,_,rfl,lg w (by omega),_,_,rfl,rfl,(by show 4+(η (toString ((w:Nat):Int))).length<=ψ;rw[d2];decide),?_⟩⟩;have q':=q H (jJ.refl _);rw[show(Kd.num w).words (kN S)=[η "num",η (toString ((w:Nat):Int))] from rfl,jc _ _ (by simp)]at q';exact q'
 | @many a b n k h1 h2 =>
  have hn6:n<=6:=hf.2.1;have d2:=(dig (w:=n) (by omega)).2.1;have hlk0:k.lv=0:=by rcases hf.2.2 with⟨w,rfl,_⟩|⟨i,rfl,_⟩ <;> rfl
  have kl:(jt L2.spS (k.words (kN S))).length<=100:=by
   obtain⟨v6,v5⟩:=eI hn hf.sub;have h3:(jt L2.spS (k.words (kN S))).length<=_:=oE (c:=32) (m:=6) v6;omega
  refine⟨_,rfl,a,_,_,_,rfl,rfl,h1,rfl,rfl,_,rfl,jQ ⟨_,rfl,a,_,_,_,rfl,rfl,h1,rfl,rfl,_,rfl,kZ ⟨_,rfl,a,_,_,_,rfl,rfl,h1,rfl,_,rfl,lg n (by omega),_,_,rfl,rfl,(by show 4+(η (toString ((n:Nat):Int))).length<=ψ;rw[d2];decide),_,_,rfl,rfl,(by rw[jf,kq];show 4+(η (toString ((n:Nat):Int))).length+1<=_;omega),_,rfl,a,_,_,_,rfl,rfl,h1,rfl,_,rfl,b,sl,k,S,rfl,(by rw[hlk0];have : 1<r+1:=hlv;omega),hf.sub,hn,h2,hlx,fun H' g=>⟨_,_,rfl,rfl,(by rw[jf,kq,kq];show 4+(η (toString ((n:Nat):Int))).length+1+_<=_;omega),?_⟩⟩⟩⟩;have q':=q H' g;rw[show(Kd.many n k).words (kN S)=η "row" :: η (toString ((n:Nat):Int))::k.words (kN S) from rfl,jc _ _ (by simp),jc _ _ (Kd.words_ne _ _)]at q';rw[wj,wj];rw[wj,wj,←wj (η "row")]at q';exact q'
 | @pick a l is h1 h2 =>
  have hs4:=hf.2.1;have zl:(is.map fun n:Nat=>V.int n).length=is.length:=δ _;refine⟨_,rfl,a,_,_,_,rfl,rfl,h1,rfl,rfl,_,rfl,jQ ⟨_,rfl,a,_,_,_,rfl,rfl,h1,rfl,rfl,_,rfl,jQ ⟨_,rfl,a,_,_,_,rfl,rfl,h1,rfl,rfl,_,rfl,kZ ⟨rfl,iU,fun l1 hl1=>?_⟩⟩⟩⟩;clear 1 l1 H1 g1 k1 hl1;refine⟨_,rfl,a,_,_,_,rfl,rfl,g1.tp h1,rfl,l,rfl,⟨_,g1.seq h2⟩,vO (xs:=is.map fun n:Nat=>V.int n) (fun j ys H'=>H'=H1/\ys=((is.take j).map (kN S)).map V.str) ⟨rfl,rfl⟩ (fun j ys H' _ z=>⟨by rw[z.1];exact g1.seq h2,by rw[z.2,δ,δ,Θ];exact kg _ _⟩) (kI (by omega)) (fun j x ys H' hx z=>?_) (fun ys H' z p hp=>?_)⟩
  ·obtain⟨rfl,rfl⟩:=z;obtain⟨i,hi,rfl⟩:=pF hx;have hiS:=hf.2.2.2 i (ι hi);obtain⟨as,s,l',ps,m1,m2,m3,m4,m5⟩:=hlx.at hiS;refine⟨_,rfl,_,rfl,sl,_,_,_,rfl,rfl,g1.seq m1,aI m2,s,_,_,_,rfl,rfl,g1.tp m3,rfl,⟨rfl,?_⟩,_,rfl⟩;rw[qO hi,χ,vM (ζ hiS)];rfl
  ·obtain⟨rfl,rfl⟩:=z;rw[zl,jZ];clear 1 p H2 g2 k2 hp;refine⟨l1,p,_,_,rfl,rfl,g2 _ _ k1,k2,(by rw[jf,δ,δ];simp;omega),fun l3 hl3=>?_⟩;clear 1 l3 H3 g3 k3 hl3;refine⟨_,l3,η "pick" :: is.map (kN S),rfl,rfl,SqL.of k3,?_,q H3 ((g1.trans g2).trans g3)⟩;have hsum:((η "pick" :: is.map (kN S)).map (·.length)).sum<=(η "pick" :: is.map (kN S)).length*6:=iJ w6;have hl5:(η "pick" :: is.map (kN S)).length<=5:=w5;have h1l:(η " ").length=1:=rfl;rw[h1l];omega
 | @nest a i h1 =>
  obtain⟨as,s,l',ps,m1,m2,m3,m4,m5⟩:=hlx.at hf;have q':=q H (jJ.refl _);rw[show jt L2.spS ((Kd.nest i).words (kN S))=kN S i from rfl,vM (ζ hf)]at q';exact⟨_,rfl,a,_,_,_,rfl,rfl,h1,rfl,rfl,_,rfl,jQ ⟨_,rfl,a,_,_,_,rfl,rfl,h1,rfl,rfl,_,rfl,jQ ⟨_,rfl,a,_,_,_,rfl,rfl,h1,rfl,rfl,_,rfl,jQ ⟨_,rfl,_,rfl,a,_,_,_,rfl,rfl,h1,rfl,sl,_,_,_,rfl,rfl,m1,aI m2,s,_,_,_,rfl,rfl,m3,rfl,q'⟩⟩⟩⟩
theorem aBi(F:Fun K "_law_text" "_law_text" fZ f fd)(bg:j4 "_law_kind_text" (spKT K 2)):j0 ["_law_shapes_here"] (spTx K):=by
 w_cond xU;obtain⟨sl,S,rfl,hlx,hW,hne,q⟩:=h;refine⟨_,(jD (jR 1 xU.nd (qE jB)) (jD (vF jo rfl (kU (pv 0)) (xQ rfl (jS (kS 2 xU.nd) (jS (kS 3 xU.nd) qK))) (jD (qX (aD lh pe ph zI (pv 1) (jA (jV vA jO (pv 2)) jB))) (jC (vF jo rfl (kU (pv 3)) (xQ rfl (jS (kS 4 xU.nd) (jS (kS 5 xU.nd) qK))) (jC (qX (aD lh pe ph zI (pv 1) (jA (jV vA (jV vA (pv 4) jO) (jF bg hr (jA (pv 5) (jA (pv 0) jB)))) jB)))))))) (jC (jI (aD rj yg yh oZ jO (jA (pv 1) jB)))))),?_⟩;obtain⟨as,ha,hLW⟩:=id hlx;obtain⟨h30,hrow,_⟩:=aJi hW hne;have hn:=aCy hW.nm;have jc:∀(x:Str) (ys:List Str),ys≠[]->jt L2.spS (x::ys)=x++L2.spS++jt L2.spS ys:=fun x ys h=>iL h;refine⟨cZ,fun ll hll=>?_⟩;clear 1 ll H1 g1 k1 hll;have zl:(as.map V.ref).length=S.length:=by rw[δ];exact hLW.len
 have few:∀A:List Itm,(∃B,vB S=A++B)->A.length<=40:=fun A ⟨B,e⟩=>by rw[e,θ]at h30;omega
 refine⟨_,rfl,sl,rfl,⟨_,g1.seq ha⟩,qU (xs:=as.map V.ref) (fun i σ H'=>∃o2 o3 o4 o5,σ = [some (.ref sl),some (.ref ll),o2,o3,o4,o5]/\But ll H1 H'/\H' ll=some (.lst (((vB (S.take i)).map (pY S)).map V.str))) ⟨_,_,_,_,rfl,But.refl,k1⟩ (fun i σ H' _ z=>?_) (fun i x σ H' hx z=>?_) (fun σ H' z=>?_)⟩
 ·obtain⟨o2,o3,o4,o5,rfl,g,_⟩:=z;exact(But.from g1 hll g).seq ha
 ·obtain⟨o2,o3,o4,o5,rfl,g,kl⟩:=z;obtain⟨s,hs,rfl⟩:=qJ hx;obtain⟨sh,hS,l,ps,m1,m2,m3⟩:=hLW.get hs;have hsS:=ι hS;have hi:i<S.length:=(ε.mp hS).1;have gH:=But.from g1 hll g;have eS:vB S=vB (S.take i)++(gZ sh++vB (S.drop (i+1))):=by
   conv=>lhs;rw[(oQ hS).1]
   rw[zM];rfl
  have hnm:=hW.nm sh hsS;have hsl:=(vR hnm).2;have l1:=few (vB (S.take i)) ⟨_,eS⟩;refine⟨s,_,rfl,gH.tp m1,rfl,_,_,rfl,_,_,rfl,rfl,_,rfl,.inl ⟨rfl,_,SqL.of kl⟩,_,rfl,_,_,rfl,rfl,(by show 6+sh.1.length<=ψ;rw[jf];omega),ll,_,_,rfl,rfl,kl,(by rw[δ,δ];exact li l1 (by decide)),?_⟩;clear 0 ll H2 g2 k2;have gg2:=g.trans g2;have er:(η "shape " ++ sh.1:Str)=pY S (.sh sh.1):=by
   show _=jt L2.spS [η "shape",sh.1];rw[jc _ _ (by simp)];rfl
  have k2':H2 ll=some (.lst (((vB (S.take i)++(.sh sh.1::(sh.2.take 0).map fun f=>Itm.fd f.1 f.2)).map (pY S)).map V.str)):=by
   rw[k2,χ,χ];show some (HO.lst (_++[V.str (η "shape " ++ sh.1)]))=_;rw[er];rfl
  refine⟨_,rfl,l,rfl,⟨_,(But.from g1 hll gg2).seq m2⟩,qU (xs:=ps.map V.ref) (fun j σ H3=>∃o4 o5,σ = [some (.ref sl),some (.ref ll),some (.str sh.1),some (.ref l),o4,o5]/\But ll H1 H3/\H3 ll=some (.lst (((vB (S.take i)++(.sh sh.1::(sh.2.take j).map fun f=>Itm.fd f.1 f.2)).map (pY S)).map V.str))) ⟨_,_,rfl,gg2,k2'⟩ (fun j σ H3 _ z=>?_) (fun j x σ H3 hx z=>?_) (fun σ H3 z=>?_)⟩
  ·obtain⟨o4,o5,rfl,g3,_⟩:=z;exact(But.from g1 hll g3).seq m2
  ·obtain⟨o4,o5,rfl,g3,kl3⟩:=z;obtain⟨t,ht,rfl⟩:=qJ hx;obtain⟨nm',kd',kk,hfs,htt,hko⟩:=m3.get ht;have hfm:=ι hfs;have hfit:kd'.Fit S.length:=(hW.good.fit i sh hS _ hfm).1.mono (ql hi);have hfn:=(vR (hW.fnm sh hsS _ hfm)).2;have hfn':nm'.length<=6:=hfn;have gH3:=But.from g1 hll g3;have hit:Itm.fd nm' kd'∈vB S:=by
    rw[eS];refine Ψ _ (jd _ (ς _ ?_));exact iu.mpr ⟨_,hfm,rfl⟩
   have r100:(jt L2.spS (nm'::kd'.words (kN S))).length<=100:=(hrow _ hit).1;rw[jc _ _ (Kd.words_ne _ _),kq,kq]at r100;refine⟨t,_,rfl,gH3.tp htt,rfl,_,_,rfl,_,_,rfl,rfl,_,rfl,.inl ⟨rfl,_,SqL.of kl3⟩,_,rfl,_,_,rfl,rfl,(by show nm'.length+1<=ψ;rw[jf];omega),_,rfl,_,rfl,kk,sl,kd',S,rfl,(by have:=kd'.lv_le;omega),hfit,hn,hko.same gH3,hlx.same gH3,fun H4 g4=>⟨_,_,rfl,rfl,(by rw[jf,kq];show nm'.length+1+_<=_;have:L2.spS.length=1:=rfl;omega),?_⟩⟩;have kl4:=g4 _ _ kl3;have l2:(vB (S.take i)++(.sh sh.1::(sh.2.take j).map fun f=>Itm.fd f.1 f.2)).length<=40:=few _ ⟨((sh.2.drop j).map fun f=>Itm.fd f.1 f.2)++vB (S.drop (i+1)),by
    rw[eS];unfold gZ
    conv=>lhs;rw[←kj j sh.2]
    rw[χ];simp only[jg,uu]⟩
   refine⟨ll,_,_,rfl,rfl,kl4,(by rw[δ,δ];exact li l2 (by decide)),?_⟩;clear 0 ll H5 g5 k5;refine⟨_,_,rfl,(g3.trans (But.of g4)).trans g5,?_⟩;rw[k5,qO hfs,←uu,←jg,χ (l₂:=[Itm.fd nm' kd']),χ (l₂:=List.map (pY S) [Itm.fd nm' kd'])];have er2:(nm'++η " " ++ jt L2.spS (kd'.words (kN S)):Str)=pY S (.fd nm' kd'):=by
    show _=jt L2.spS (nm'::kd'.words (kN S));rw[jc _ _ (Kd.words_ne _ _)];rfl
   show some (HO.lst (_++[V.str (nm'++η " " ++ jt L2.spS (kd'.words (kN S)))]))=_;rw[er2];rfl
  ·obtain⟨o4,o5,rfl,g3,kl3⟩:=z;refine⟨_,_,_,_,rfl,g3,?_⟩;rw[kl3,δ,m3.len,jZ];have e6:S.take (i+1)=S.take i++[sh]:=by rw[iw,hS];rfl
   rw[e6,zM,show vB [sh]=gZ sh from qz ..];rfl
 ·obtain⟨o2,o3,o4,o5,rfl,g,kl⟩:=z;rw[zl,jZ]at kl;refine⟨rfl,_,rfl,_,ll,(vB S).map (pY S),rfl,rfl,SqL.of kl,?_,?_⟩
  ·have hsum:(((vB S).map (pY S)).map (·.length)).sum<=((vB S).map (pY S)).length*100:=iJ fun w hw=>by
    obtain⟨it,hit,rfl⟩:=iu.mp hw;exact(hrow it hit).1
   have h1l:(η "\n").length=1:=rfl;rw[δ]at hsum;rw[h1l,δ];omega
  ·have q':=q H' (But.from g1 hll g);rw[aKg]at q';exact q'
theorem uX(F:Fun K "_law_names" "_law_names" cX f fd)(aa:j4 "_law_take" cC):j0 ["_law_box_here"] (aOl K):=by
 w_cond yA;obtain⟨p,rfl,hs,q⟩:=h;refine⟨_,(PSx.h (zO (mM (jR 1 yA.nd (jF aa hr (jA (pv 0) (jA jE jB))))) (zO (mM (jR 2 yA.nd (jF aa hr (jA (pv 0) (jA jE jB))))) (zO (aEi (kF qQ (pv 1) jE) (zO (aHo (i:=3) yA.nd rfl (Or.inr rfl) (aMp (qP (vI jO) (qP (vI jO) (qP (vI jO) (qP (vI jO) (qP (vI jO) (qP (vI jO) (qP (vI jO) (qP (vI jO) (qP (vI jO) (qP (vI jO) (qP (vI jO) (qP (vI jO) aEb qL) qL) qL) qL) qL) qL) qL) qL) qL) qL) qL) qL))) (mI (gM (vI (kQ ["_law_k"] ["_law_words","_law_at"] [3,2] rfl (vJ rfl M.range (jA jE jB)) rfl ⟨rfl,⟨rfl,trivial⟩⟩ ⟨⟨rfl,rfl,rfl,_,rfl⟩,⟨⟨rfl,rfl,rfl,_,rfl⟩,trivial⟩⟩ (fun _ _ _ _=>(qC rfl)) (fun _ _ _ _=>kP) (fun _ _ _ _=>(jV vA (jK (wV K rfl) (pv 1) (jV xT (jV qG (pv 2) (pv 0)) jE)) jO))))))) jL) (zO (aEi (kF qQ (pv 1) jE) (zO (mM (jR 4 yA.nd (aD rj yg yh oZ jO (jA (kQ ["_law_k"] ["_law_box_here"] [0] rfl (vJ rfl M.range (jA (jF aa hr (jA (pv 0) (jA jE jB))) jB)) rfl ⟨rfl,trivial⟩ ⟨⟨rfl,rfl,rfl,_,rfl⟩,trivial⟩ (fun _ _ _ _=>(qC rfl)) (fun _ _ _ _=>kP) (fun _ _ _ _=>(jK aDf jO (jF aa hr (jA (pv 1) (jA jE jB)))))) jB)))) (mI (gM (vI (kQ ["_law_k"] ["_law_tail","_law_at"] [4,2] rfl (vJ rfl M.range (jA jE jB)) rfl ⟨rfl,⟨rfl,trivial⟩⟩ ⟨⟨rfl,rfl,rfl,_,rfl⟩,⟨⟨rfl,rfl,rfl,_,rfl⟩,trivial⟩⟩ (fun _ _ _ _=>(qC rfl)) (fun _ _ _ _=>kP) (fun _ _ _ _=>(jV vA (jV vA (jK aDf jO (jV xT (jV qG (pv 2) (pv 0)) jE)) (pv 1)) jO))))))) jL) (mI (gM (vI (jV cI (kQ ["_law_k"] ["_law_at"] [2] rfl (vJ rfl M.range (jA jE jB)) rfl ⟨rfl,trivial⟩ ⟨⟨rfl,rfl,rfl,_,rfl⟩,trivial⟩ (fun _ _ _ _=>(qC rfl)) (fun _ _ _ _=>kP) (fun _ _ _ _=>(xJ aNu jO yJ (yL (jV qG jE (jV xT (jV qG (pv 1) (pv 0)) jE)))))) (qE (jA jO (jA jO (jA jO (jA jO (jA jO (jA jO jB qL) qL) qL) qL) qL) qL))))))))))),?_⟩;refine⟨_,rfl,p,3,rfl,by decide,by decide,hs,fun v1 H1 hv1 d1=>⟨_,rfl,p,12,rfl,by decide,by decide,d1.1,fun v2 H2 hv2 d2=>?_⟩⟩;have dd:=d1.trans d2;have h12:v2<12:=by omega
 refine⟨_,rfl,rfl,_,rfl,yU (fun c=>?_) (fun c=>?_)⟩
 ·refine⟨(by show 12<=ψ;decide),fun l0 hl0=>?_⟩;clear 1 l0 H3 g3 k3 hl0;have k3':H3 l0=some (.lst (w0L.map V.str)):=k3;refine⟨12,rfl,by decide,by decide,yI (n:=12) (fun j ys H'=>H'=H3/\ys=((jk j).map fun k=>(w0L.getD ((v2+k) % 12) Str.empty)++η "q").map V.str) ⟨rfl,rfl⟩ (fun j ys H' _ z=>by rw[z.2,δ,δ,jw];exact ν _) (by decide) (fun j ys H' hj z=>?_) (fun ys H' z l hl=>?_)⟩
  ·obtain⟨rfl,rfl⟩:=z;have hlt:(v2+j) % 12<w0L.length:=Nat.mod_lt _ (by decide);have hw:w0L[(v2+j) % 12]?=some (w0L.getD ((v2+j) % 12) Str.empty):=by rw[Γ,ζ hlt];rfl
   have hlen:∀i:Fin 12,(w0L.getD i.val Str.empty).length<=5:=by ac_rfl
   have hl5:=hlen ⟨(v2+j) % 12,hlt⟩;refine⟨_,rfl,_,rfl,_,rfl,_,_,rfl,rfl,_,_,rfl,rfl,(by show(0:Int)<12;decide),l0,_,_,_,rfl,rfl,SqL.of k3',(by rw[show(((v2:Nat):Int)+((0:Int)+(j:Nat))) % 12=(((v2+j) % 12:Nat):Int) from modc (n:=12)];exact oP hw),_,_,rfl,rfl,(by rw[jf];have:(η "q").length=1:=rfl;have h5:(w0L.getD ((v2+j) % 12) Str.empty).length<=5:=hl5;omega),⟨rfl,?_⟩,_,rfl⟩;rw[vg,χ,χ];rfl
  ·obtain⟨rfl,rfl⟩:=z;clear 1 l H4 g4 k4 hl;exact q l (nm0 v2) H4 (dd.keep (g3.trans g4)) (dd.free (g3.free hl)) k4 (aRc h12) (nm0_c h12)
 ·refine⟨_,rfl,rfl,_,rfl,yU (fun c=>?_) (fun c=>?_)⟩
  ·refine⟨rfl,_,rfl,p,5,rfl,by decide,by decide,d2.1,fun v3 H3 hv3 d3=>⟨v3,rfl,by omega,by omega,yI (n:=v3) (fun j ys H'=>Drawn p H3 H'/\∃cs:List Nat,ys=cs.map (fun c=>V.str ⟨#[c]⟩)/\cs.length=j/\∀c∈cs,97<=c/\c<=122) ⟨Drawn.refl d3.1,[],rfl,rfl,fun c hc=>by cases hc⟩ (fun j ys H' _ z=>?_) (kI (by omega)) (fun j ys H' hj z=>?_) (fun ys H' z l hl=>?_)⟩⟩
   ·obtain⟨_,cs,rfl,hcl,_⟩:=z;rw[δ];omega
   ·obtain⟨d4,cs,rfl,hcl,hcs⟩:=z;refine⟨_,rfl,p,13,rfl,by decide,by decide,d4.1,fun v5 H5 hv5 d5=>?_⟩;have hz:∀i:Fin 13,∃c,(η "abdeilmnorstu").cps.toList[i.val]?=some c/\97<=c/\c<=122:=fun i=>by
     have:∀i:Fin 13,97<=(η "abdeilmnorstu").cps.toList.getD i.val 0/\(η "abdeilmnorstu").cps.toList.getD i.val 0<=122:=by ac_rfl
     have hl13:i.val<(η "abdeilmnorstu").cps.toList.length:=Δ i.isLt (by decide);have e:(η "abdeilmnorstu").cps.toList[i.val]?=some ((η "abdeilmnorstu").cps.toList.getD i.val 0):=by rw[Γ,ζ hl13];rfl
     exact⟨_,e,this i⟩
    obtain⟨c',hc1,hc2⟩:=hz ⟨v5,by omega⟩;refine⟨_,_,c',rfl,rfl,by decide,qR hc1,⟨d4.trans d5,cs++[c'],by rw[χ];rfl,by rw[θ,hcl];rfl,fun x hx=>?_⟩,_,rfl⟩;rcases ji.mp hx with hx|hx
    ·exact hcs x hx
    ·rw[ο.mp hx];exact hc2
   ·obtain⟨d4,cs,rfl,hcl,hcs⟩:=z;clear 1 l H5 g5 k5 hl;have hcl4:cs.length<=4:=by omega
    have dd5:=(dd.trans (d3.trans d4)).keep g5;have k5':H5 l=some (.lst ((cs.map fun c=>(⟨#[c]⟩ : Str)).map V.str)):=by rw[k5,jp];rfl
    refine⟨_,l,cs.map fun c=>⟨#[c]⟩,rfl,rfl,SqL.of k5',?_,?_⟩
    ·rw[jp,δ];have:(cs.map ((fun x:Str=>x.length)∘fun c=>(⟨#[c]⟩ : Str))).sum<=cs.length*1:=iJ fun c hc=>ν _;have h0:(η "").length=0:=rfl;rw[h0];omega
    ·have tc:=aBl cs;generalize jt (η "") (cs.map fun c=>(⟨#[c]⟩ : Str))=tl at tc;have htl:tl.length=cs.length:=by rw[←tc];exact(mz).symm
     refine⟨12,rfl,by decide,by decide,yI (n:=12) (fun j ys H'=>H'=H5/\ys=((jk j).map fun k=>(⟨#[c1 v2 k]⟩ : Str)++tl++η "x").map V.str) ⟨rfl,rfl⟩ (fun j ys H' _ z=>by rw[z.2,δ,δ,jw];exact ν _) (by decide) (fun j ys H' hj z=>?_) (fun ys H' z l hl=>?_)⟩
     ·obtain⟨rfl,rfl⟩:=z;have hlt:(v2+j) % 12<c1L.cps.toList.length:=Δ (Nat.mod_lt _ (by decide)) (by decide);have hw:c1L.cps.toList[(v2+j) % 12]?=some (c1 v2 j):=by unfold c1;rw[Γ,ζ hlt];rfl
      refine⟨_,rfl,_,rfl,_,_,rfl,rfl,_,_,rfl,rfl,(by show(0:Int)<12;decide),_,_,c1 v2 j,rfl,rfl,by decide,(by rw[show(((v2:Nat):Int)+((0:Int)+(j:Nat))) % 12=(((v2+j) % 12:Nat):Int) from modc (n:=12)];exact qR hw),_,rfl,_,_,rfl,rfl,(by show 1+tl.length<=ψ;rw[jf];omega),_,_,rfl,rfl,(by rw[jf,kq];show 1+tl.length+1<=_;omega),⟨rfl,?_⟩,_,rfl⟩;rw[vg,χ,χ];rfl
     ·obtain⟨rfl,rfl⟩:=z;clear 1 l H6 g6 k6 hl;exact q l (nm1 tl v2) H6 (dd5.keep g6) (dd5.free hl) k6 (aRh h12 (by omega) (by rw[tc];exact hcs)) nm1_c
  ·refine⟨6,rfl,by decide,by decide,yI (n:=6) (fun j ys H'=>H'=H2/\ys=((jk j).map fun k=>Txt.slice (η "zyxwvu") none (some (1+(((v2+k) % 6:Nat):Int)))).map V.str) ⟨rfl,rfl⟩ (fun j ys H' _ z=>by rw[z.2,δ,δ,jw];exact ν _) (by decide) (fun j ys H' hj z=>?_) (fun ys H' z l hl=>?_)⟩
   ·obtain⟨rfl,rfl⟩:=z;refine⟨_,rfl,_,rfl,_,_,rfl,rfl,_,_,rfl,rfl,(by show(0:Int)<6;decide),_,_,rfl,rfl,_,rfl,_,rfl,by decide,⟨rfl,?_⟩,_,rfl⟩;rw[vg,χ,χ,show(((v2:Nat):Int)+((0:Int)+(j:Nat))) % 6=(((v2+j) % 6:Nat):Int) from modc (n:=6)];rfl
   ·obtain⟨rfl,rfl⟩:=z;clear 1 l H3 g3 k3 hl;refine⟨(by show 6<=ψ;decide),fun l2 hl2=>?_⟩;clear 1 l2 H4 g4 k4 hl2;refine⟨l,l2,_,_,rfl,rfl,g4 _ _ k3,k4,(by rw[δ,δ,jw];show 6+6<=ψ;decide),fun l3 hl3=>?_⟩;clear 1 l3 H5 g5 k5 hl3;refine q l3 (nm2 v2) H5 (dd.keep ((g3.trans g4).trans g5)) (dd.free ((g3.trans g4).free hl3)) ?_ (aQs h12) (nm2_c h12);rw[k5];unfold nm2;rw[χ];rfl
theorem pP(F:Fun K "_law_shapes" "_law_shapes" bP f fd)(eh:j4 "_law_names" (aOl K))(aa:j4 "_law_take" cC)(fq:j4 "_law_kind" (aOd K))(ft:j4 "_law_fits" (aKe K r)):j0 ["_law_box_here","_law_most"] (spSh K r):=by
 w_cond qS;obtain⟨p,rfl,hs,hr12,h8,q⟩:=h;refine⟨_,(jD (jR 2 qS.nd (jF eh hr (jA (pv 0) jB))) (jD (jR 3 qS.nd (jF aa hr (jA (pv 0) (jA jE jB)))) (jD (jR 4 qS.nd (qE jB)) (jD (vF jo rfl (vJ rfl M.range (jA (jV qG jE (jF aa hr (jA (pv 0) (jA (pv 1) jB)))) jB)) (kS 5 qS.nd) (jD (jR 6 qS.nd (qE jB)) (jD (vF jo rfl (vJ rfl M.range (jA (jV qG jE (jF aa hr (jA (pv 0) (jA jE jB)))) jB)) (kS 7 qS.nd) (jD (jR 8 qS.nd (kW (jA (jK jU (pv 2) (jV xT (jV qG (jV qG (pv 3) (jV zU (pv 7) jE)) (pv 5)) jE)) (jA (jF fq hr (jA (pv 0) (jA (pv 5) jB))) jB)))) (jC (jX (kK (jF ft hr (jA (jV cI (pv 4) (qE (jA (kW (jA (jK jU (pv 2) (pv 5)) (jA (jV cI (pv 6) (qE (jA (pv 8) jB))) jB))) jB))) jB))) (jC (qX (aD lh pe ph zI (pv 6) (jA (pv 8) jB)))) jL)))) (jD (jX (kF (aIu hr.units) (pv 6) (qE jB)) (jC (jR 6 qS.nd (qE (jA (kW (jA (jK jU (pv 2) (pv 3)) (jA (kW (jA jO (jA (jV qG jE (jF aa hr (jA (pv 0) (jA jE jB)))) jB))) jB))) jB)))) jL) (jC (qX (aD lh pe ph zI (pv 4) (jA (kW (jA (jK jU (pv 2) (pv 5)) (jA (pv 6) jB))) jB)))))))) (jC (jI (pv 4))))))),?_⟩;refine⟨_,rfl,p,rfl,hs,fun nl ns H1 d1 hnl knl ⟨hn12,hnd,hnb⟩ hnc=>⟨_,rfl,p,12,rfl,by decide,by decide,d1.1,fun v2 H2 hv2 d2=>⟨cZ,fun sl hsl=>?_⟩⟩⟩;have nnp:nl≠p:=aFe hs hnl;have knl2:=d2.2 nl _ nnp knl;clear 1 sl H3 g3 k3 hsl;have nsp:sl≠p:=aFe d2.1 hsl;have nns:nl≠sl:=jN knl2 hsl;have hslH:H sl=none:=(d1.trans d2).free hsl;have nsAt:∀i,i<12->ns[i]?=some (ns.getD i Str.empty):=fun i hi=>by rw[Γ,ζ (by omega)];rfl
 have nsB:∀i,i<12->qB (ns.getD i Str.empty)=true:=fun i hi=>hnb _ (ι (nsAt i hi));have nsI:∀i j,i<12->j<12->ns.getD i Str.empty=ns.getD j Str.empty->i=j:=fun i j hi hj e=>by
  have hp:=qi.mp hnd;have ei:=ε.mp (nsAt i hi);have ej:=ε.mp (nsAt j hj);obtain⟨ai,bi⟩:=ei;obtain⟨aj,bj⟩:=ej;rcases Nat.lt_trichotomy i j with hl|hl|hl
  ·exact absurd (by rw[bi,bj];exact e) (hp i j ai aj hl)
  ·exact hl
  ·exact absurd (by rw[bi,bj];exact e.symm) (hp j i aj ai hl)
 refine⟨_,rfl,_,rfl,p,4,rfl,by decide,by decide,jJ.st3 g3 d2.1,fun v3 H4 hv3 d4=>⟨_,_,rfl,rfl,_,rfl,(by omega),(by omega),?_⟩⟩;have D4:Drawn p H H4:=((d1.trans d2).keep g3).trans d4;have knl4:=d4.2 nl _ nnp (g3 _ _ knl2);have ksl4:=d4.2 sl _ nsp k3;rw[show((1:Int)+(v3:Nat)).toNat=1+v3 by omega];refine bE (n:=1+v3) (fun i σ H'=>∃(o5 o6 o7 o8:Option V) (as:List Addr) (S:List Shp),σ = [some (.ref p),some (.int 4),some (.ref nl),some (.int v2),some (.ref sl),o5,o6,o7,o8]/\St3 H' p/\(∀b o,b≠p->b≠sl->H4 b=some o->H' b=some o)/\H' sl=some (.lst (as.map V.ref))/\LW K (offs [p,sl] H') as S/\S.length=i/\S.map (·.1)=ns.take i/\Wel S/\Cln S) ⟨_,_,_,_,[],[],rfl,d4.1,fun _ _ _ _ e=>e,ksl4,.nil,rfl,rfl,Wel.nil,fun s hs=>by cases hs⟩ (fun i σ H' hi z=>?_) (fun σ H' z=>?_)
 ·obtain⟨o5,o6,o7,o8,as,S,rfl,st,fr,ksl,hLW,hSl,hSn,hWS,hCl⟩:=z;rw[rh];have hi5:i<5:=by omega
  have knl':=fr nl _ nnp nns knl4;refine⟨cZ,fun fl hfl=>?_⟩;clear 1 fl H5 g5 k5 hfl;have nfp:fl≠p:=aFe st hfl;have nfs:fl≠sl:=lm (jN ksl hfl);have nfn:fl≠nl:=lm (jN knl' hfl);refine⟨_,rfl,p,6,rfl,by decide,by decide,jJ.st3 g5 st,fun v4 H6 hv4 d6=>⟨_,_,rfl,rfl,_,rfl,(by omega),(by omega),?_⟩⟩;have kfl6:=d6.2 fl _ nfp k5;have knl6:=d6.2 nl _ nnp (g5 _ _ knl');have ksl6:=d6.2 sl _ nsp (g5 _ _ ksl);have hsame6:jJ (offs [p,sl] H') (offs [p,sl,fl] H6):=fun b o e=>by
   have hb:b∉[p,sl]:=fun z=>by unfold offs at e;rw[if_pos z]at e;cases e
   have e':H' b=some o:=kO _ _ e;have hbf:b≠fl:=jN e' hfl;have hbp:b≠p:=fun z=>hb (by rw[z];simp);refine vC (fun z=>?_) (d6.2 b o hbp (g5 _ _ e'));simp only[π,jv,or_false]at z hb;rcases z with z|z|z
   ·exact hb (.inl z)
   ·exact hb (.inr z)
   ·exact hbf z
  have hLW6:=hLW.same hsame6;rw[show((1:Int)+(v4:Nat)).toNat=1+v4 by omega];have nmi:=nsB i (by omega);have nmN:ns.getD i Str.empty∉S.map (·.1):=fun z=>by
   rw[hSn]at z;obtain⟨j,hj⟩:=jb.mp z;have hji:j<i:=by have:=(ε.mp hj).1;rw[Θ]at this;omega
   rw[oy hji,nsAt j (by omega)]at hj;have:=nsI j i (by omega) (by omega) (kf hj);omega
  refine bE (n:=1+v4) (fun j σ H7=>∃(o7 o8:Option V) (ps:List Addr) (fs:List (Str×Kd)),σ = [some (.ref p),some (.int 4),some (.ref nl),some (.int v2),some (.ref sl),some (.int i),some (.ref fl),o7,o8]/\St3 H7 p/\(∀b o,b≠p->b≠fl->H6 b=some o->H7 b=some o)/\H7 fl=some (.lst (ps.map V.ref))/\LF K (offs [p,sl,fl] H7) ps fs/\fs.length<=j/\(∀g∈fs,(g.2.Fit S.length/\qB g.1=true)/\∃m,m<j/\g.1=ns.getD ((v2+m*5+i) % 12) Str.empty)/\(fs.map (·.1)).Nodup/\(fs≠[]->aAe (S++[(ns.getD i Str.empty,fs)]) S.length)) ⟨_,_,[],[],rfl,d6.1,fun _ _ _ _ e=>e,kfl6,.nil,ν _,(fun g hg=>by cases hg),xt,fun z=>absurd rfl z⟩ (fun j σ H7 hj z=>?_) (fun σ H7 z=>?_)
  ·obtain⟨o7,o8,ps,fs,rfl,st7,fr7,kfl7,hLF,hfl7,hfs,hfn,hsm⟩:=z;rw[rh];have knl7:=fr7 nl _ nnp (lm nfn) knl6;have ksl7:=fr7 sl _ nsp (lm nfs) ksl6;have em:(((v2:Nat):Int)+((j:Nat):Int)*5+((i:Nat):Int)) % 12=(((v2+j*5+i) % 12:Nat):Int):=by omega
   have hm12:(v2+j*5+i) % 12<12:=Nat.mod_lt _ (by decide);have al7:Al [p,sl,fl] H7:=fun b hb=>by
    simp only[π,jv,or_false]at hb;rcases hb with rfl|rfl|rfl
    ·exact aAq st7
    ·exact⟨_,ksl7⟩
    ·exact⟨_,kfl7⟩
   refine⟨_,rfl,_,rfl,_,rfl,_,_,rfl,rfl,.inl ⟨by omega,by omega⟩,_,_,rfl,rfl,_,rfl,_,_,rfl,rfl,_,_,rfl,rfl,(by show(0:Int)<12;decide),nl,_,_,_,rfl,rfl,SqL.of knl7,(by rw[em];exact oP (nsAt _ hm12)),_,rfl,_,rfl,p,i,[p,sl,fl],rfl,by omega,st7,by simp,al7,fun a kd H8 d8 hfit lk=>?_⟩;rw[←hSl]at hfit;have al8:=Al.drawn al7 d8;refine⟨xD,fun t ht=>?_⟩;clear 1 t H9 g9 k9 ht;have al9:=al8.same g9;have kt:offs [p,sl,fl] H9 t=_:=vC (al8.new ht) k9;have s79:jJ (offs [p,sl,fl] H7) (offs [p,sl,fl] H9):=(d8.offs (by simp)).trans (qD g9);have knl9:=g9 _ _ (d8.2 nl _ nnp knl7);have ksl9:=g9 _ _ (d8.2 sl _ nsp ksl7);have kfl9:=g9 _ _ (d8.2 fl _ nfp kfl7);have lk9:=lk.same (qD g9);have hLF9:=(hLF.same s79).snoc (SqT.of kt) lk9;have s69:jJ (offs [p,sl,fl] H6) (offs [p,sl,fl] H9):=xX fun b o hb e=>by
    simp only[π,jv,or_false,not_or]at hb;exact g9 _ _ (d8.2 b o hb.1 (fr7 b o hb.1 hb.2.2 e))
   have hLW9:=hLW6.same s69;have hpl:ps.length=fs.length:=hLF.len;have hal:=hLW.len;refine⟨_,rfl,_,rfl,_,rfl,nl,_,_,_,rfl,rfl,SqL.of knl9,oP (nsAt i (by omega)),_,rfl,_,rfl,iU,fun u1 hu1=>?_⟩;clear 1 u1 HA gA kA hu1;refine⟨fl,u1,_,_,rfl,rfl,gA _ _ kfl9,kA,(by rw[jf,δ];simp;omega),fun u2 hu2=>?_⟩;clear 1 u2 HB gB kB hu2;refine⟨xD,fun u3 hu3=>?_⟩;clear 1 u3 HC gC kC hu3;refine⟨iU,fun u4 hu4=>?_⟩;clear 1 u4 HD gD kD hu4;have g9D:=((gA.trans gB).trans gC).trans gD;refine⟨sl,u4,_,_,rfl,rfl,g9D _ _ ksl9,kD,(by rw[jf,δ];simp;omega),fun u5 hu5=>?_⟩;clear 1 u5 HE gE kE hu5;have g9E:=g9D.trans gE;have sE:jJ (offs [p,sl,fl] H9) HE:=kO.trans g9E;have kB':HB u2=some (.lst ((ps++[t]).map V.ref)):=by rw[kB,χ];rfl
   have lsE:LS K HE u3 (ns.getD i Str.empty,fs++[(ns.getD ((v2+j*5+i) % 12) Str.empty,kd)]):=⟨u2,ps++[t],(gD.trans gE).tp (SqT.of kC),SqL.of ((gC.trans (gD.trans gE)) _ _ kB'),hLF9.same sE⟩;have lxE:LX K HE u5 (S++[(ns.getD i Str.empty,fs++[(ns.getD ((v2+j*5+i) % 12) Str.empty,kd)])]):=⟨as++[u3],SqL.of (by rw[kE,χ];rfl),(hLW9.same sE).snoc lsE⟩;have hfs':∀f∈fs,f.2.Fit S.length/\qB f.1=true:=fun f hf=>(hfs f hf).1;have hnew:=nsB _ hm12;have hgd:=aHk (nm:=ns.getD i Str.empty) hWS hsm (by omega) hfs' (f:=(ns.getD ((v2+j*5+i) % 12) Str.empty,kd)) hfit hnew;refine⟨u5,_,S.length,rfl,(by rw[θ];rfl),lxE,hgd,(by omega),h8,fun b HF gF hb=>⟨_,rfl,?_⟩⟩;have g9F:=g9E.trans gF;have kflF:=g9F _ _ kfl9;have frF:∀b o,b≠p->b≠fl->H6 b=some o->HF b=some o:=fun b o h1 h2 e=>g9F _ _ (g9 _ _ (d8.2 b o h1 (fr7 b o h1 h2 e)));have stF:St3 HF p:=jJ.st3 (g9.trans g9F) d8.1;cases b with
   |false =>
    refine jQ ⟨_,_,ps,fs,rfl,stF,frF,kflF,(hLF.same s79).same (qD g9F),by omega,fun g hg=>?_,hfn,hsm⟩;obtain⟨a1,m,hm,e⟩:=hfs g hg;exact⟨a1,m,by omega,e⟩
   |true =>
    refine xF rfl ⟨_,rfl,.inl ⟨rfl,_,SqL.of kflF⟩,_,rfl,fl,_,_,rfl,rfl,kflF,(by rw[δ];exact li (show ps.length<=6 by omega) (by decide)),?_⟩;clear 0 fl HG gG kG;have sFG:jJ (offs [p,sl,fl] HF) (offs [p,sl,fl] HG):=xX fun b o hb e=>by
     simp only[π,jv,or_false,not_or]at hb;exact gG b o hb.2.2 e
    have hnin:ns.getD ((v2+j*5+i) % 12) Str.empty∉fs.map (·.1):=fun z=>by
     obtain⟨g,hg,eg⟩:=iu.mp z;obtain⟨_,m,hm,e⟩:=hfs g hg;rw[e]at eg;have:=nsI _ _ (Nat.mod_lt _ (by decide)) hm12 eg;omega
    obtain⟨x3,y3,z3,est⟩:=stF;refine⟨_,_,ps++[t],fs++[(ns.getD ((v2+j*5+i) % 12) Str.empty,kd)],rfl,⟨x3,y3,z3,gG p _ (lm nfp) est⟩,fun b o h1 h2 e=>gG b o h2 (frF b o h1 h2 e),by rw[kG,χ];rfl,(hLF9.same (qD g9F)).same sFG,by rw[θ,mh];omega,fun g hg=>?_,?_,fun _=>hb rfl⟩
    ·rcases ji.mp hg with hg|hg
     ·obtain⟨a1,m,hm,e⟩:=hfs g hg;exact⟨a1,m,by omega,e⟩
     ·rw[ο.mp hg];exact⟨⟨hfit,hnew⟩,j,by omega,rfl⟩
    ·rw[χ,vz];refine⟨hfn,uw _ _,fun a ha b hb e=>hnin ?_⟩;rw[←show b=ns.getD ((v2+j*5+i) % 12) Str.empty from ο.mp hb,←e];exact ha
  ·obtain⟨o7,o8,ps,fs,rfl,st7,fr7,kfl7,hLF,hfl7,hfs,hfn,hsm⟩:=z;have knl7:=fr7 nl _ nnp (lm nfn) knl6;have ksl7:=fr7 sl _ nsp (lm nfs) ksl6;have s67:jJ (offs [p,sl,fl] H6) (offs [p,sl,fl] H7):=xX fun b o hb e=>by
    simp only[π,jv,or_false,not_or]at hb;exact fr7 b o hb.1 hb.2.2 e
   have sub:jJ (offs [p,sl,fl] H7) (offs [p,sl] H7):=oS fun b hb=>by
    simp only[π,jv,or_false]at hb ⊢;rcases hb with hb|hb
    ·exact .inl hb
    ·exact .inr (.inl hb)
   have hLW7:=(hLW6.same s67).same sub;have fr47:∀b o,b≠p->b≠sl->H' b=some o->H7 b=some o:=fun b o h1 h2 e=>fr7 b o h1 (jN e hfl) (d6.2 b o h1 (g5 _ _ e))
   (try dsimp only)
   refine aOi (fun σ' H8=>∃(o7 o8:Option V) (fl':Addr) (ps':List Addr) (fs':List (Str×Kd)),σ'=[some (.ref p),some (.int 4),some (.ref nl),some (.int v2),some (.ref sl),some (.int i),some (.ref fl'),o7,o8]/\St3 H8 p/\(∀b o,b≠p->b≠sl->H' b=some o->H8 b=some o)/\H8 sl=some (.lst (as.map V.ref))/\SqL K (offs [p,sl] H8) fl' (ps'.map V.ref)/\LF K (offs [p,sl] H8) ps' fs'/\LW K (offs [p,sl] H8) as S/\Wel (S++[(ns.getD i Str.empty,fs')])/\∀f∈fs',f.1∉bdN) (fun σ' H8 z=>?_) (fun nx hnx=>?_)
   ·obtain⟨o7,o8,fl',ps',fs',rfl,st8,fr8,ksl8,kfl8,hLF8,hLW8,hW8,hc8⟩:=z;have knl8:=fr8 nl _ nnp nns knl';refine⟨_,rfl,.inl ⟨rfl,_,SqL.of ksl8⟩,_,rfl,_,rfl,nl,_,_,_,rfl,rfl,SqL.of knl8,oP (nsAt i (by omega)),_,rfl,xD,fun t ht=>?_⟩;clear 1 t H9 g9 k9 ht;have al8:Al [p,sl] H8:=fun b hb=>by
     simp only[π,jv,or_false]at hb;rcases hb with rfl|rfl
     ·exact aAq st8
     ·exact⟨_,ksl8⟩
    have kt:offs [p,sl] H9 t=_:=vC (al8.new ht) k9;have s89:jJ (offs [p,sl] H8) (offs [p,sl] H9):=qD g9;have hls:LS K (offs [p,sl] H9) t (ns.getD i Str.empty,fs'):=⟨fl',ps',SqT.of kt,s89.seq kfl8,hLF8.same s89⟩;have ksl9:=g9 _ _ ksl8;refine⟨sl,_,_,rfl,rfl,ksl9,(by rw[δ,hLW.len];exact li (show S.length<=5 by omega) (by decide)),?_⟩;clear 0 sl HA gA kA;have s9A:jJ (offs [p,sl] H9) (offs [p,sl] HA):=xX fun b o hb e=>by
     simp only[π,jv,or_false,not_or]at hb;exact gA b o hb.2 e
    obtain⟨x3,y3,z3,est⟩:=jJ.st3 g9 st8;refine⟨_,_,_,_,as++[t],_,rfl,⟨x3,y3,z3,gA p _ (lm nsp) est⟩,fun b o h1 h2 e=>gA b o h2 (g9 _ _ (fr8 b o h1 h2 (fr b o h1 h2 e))),by rw[kA,χ];rfl,((hLW8.same s89).snoc hls).same s9A,by rw[θ,hSl];rfl,?_,hW8,hCl.snoc (hnc _ (ι (nsAt i (by omega)))) hc8⟩;rw[χ,hSn,iw,nsAt i (by omega)];rfl
   ·refine⟨_,rfl,cZ,fun e he=>?_⟩;clear 1 e H8 g8 k8 he;have st8:=jJ.st3 g8 st7;refine⟨fl,e,_,rfl,rfl,SqL.of (g8 _ _ kfl7),SqL.of k8,_,rfl,yU (fun c=>?_) (fun c=>?_)⟩
    ·refine⟨_,rfl,_,rfl,nl,_,_,_,rfl,rfl,SqL.of (g8 _ _ knl7),oP (nsAt v2 (by omega)),_,rfl,p,4,rfl,by decide,by decide,st8,fun v5 H9 hv5 d9=>⟨_,_,rfl,rfl,xD,fun t1 ht1=>?_⟩⟩;have al9:Al [p,sl] H9:=fun b hb=>by
      simp only[π,jv,or_false]at hb;rcases hb with rfl|rfl
      ·exact aAq d9.1
      ·exact⟨_,d9.2 _ _ nsp (g8 _ _ ksl7)⟩
     clear 1 t1 HA gA kA ht1;refine⟨xD,fun t2 ht2=>?_⟩;clear 1 t2 HB gB kB ht2;refine⟨iU,fun l1 hl1=>?_⟩;clear 1 l1 HC gC kC hl1;have alA:=al9.same gA;have alB:=alA.same gB;have k1:offs [p,sl] HA t1=_:=vC (al9.new ht1) kA;have k2:offs [p,sl] HB t2=_:=vC (alA.new ht2) kB;have k3:offs [p,sl] HC l1=_:=vC (alB.new hl1) kC
     (try dsimp only at k1)
     rw[show(1:Int)+(v5:Nat)=((1+v5:Nat):Int) by omega]at k1;have sAC:jJ (offs [p,sl] HA) (offs [p,sl] HC):=qD (gB.trans gC);have sBC:jJ (offs [p,sl] HB) (offs [p,sl] HC):=qD gC;have s7C:jJ (offs [p,sl] H7) (offs [p,sl] HC):=(qD g8).trans ((d9.offs (by simp)).trans (qD ((gA.trans gB).trans gC)));have g9C:=(gA.trans gB).trans gC;have hs4:S.length<=3:=by omega
     refine hnx _ _ ⟨_,_,l1,[t2],[(ns.getD v2 Str.empty,Kd.num (1+v5))],rfl,jJ.st3 g9C d9.1,fun b o h1 h2 e=>g9C _ _ (d9.2 b o h1 (g8 _ _ (fr47 b o h1 h2 e))),g9C _ _ (d9.2 _ _ nsp (g8 _ _ ksl7)),SqL.of k3,.cons (SqT.of (sBC _ _ k2)) (.num (SqT.of (sAC _ _ k1))) .nil,hLW7.same s7C,hWS.snoc nmi nmN hs4 (by simp) (by show 1<=6;decide) (fun f hf=>?_) (uw _ _) (aIj (by omega)),fun f hf=>by rw[ο.mp hf];exact hnc _ (ι (nsAt v2 (by omega)))⟩;rw[ο.mp hf];exact⟨⟨by omega,by omega⟩,nsB v2 (by omega)⟩
    ·have hps:ps≠[]:=fun z=>c (by rw[z];rfl);have hfsne:fs≠[]:=fun z=>hps (uv.mp (by rw[hLF.len,z];rfl));have hflo:offs [p,sl] H8 fl=_:=vC (by simp only[π,jv,or_false,not_or];exact⟨nfp,nfs⟩) (g8 _ _ kfl7);exact hnx _ _ ⟨_,_,fl,ps,fs,rfl,st8,fun b o h1 h2 e=>g8 _ _ (fr47 b o h1 h2 e),g8 _ _ ksl7,SqL.of hflo,(hLF.same sub).same (qD g8),hLW7.same (qD g8),hWS.snoc nmi nmN (by omega) hfsne (by omega) (fun f hf=>(hfs f hf).1) hfn (hsm hfsne),fun f hf=>by obtain⟨_,m,_,e⟩:=hfs f hf;rw[e];exact hnc _ (ι (nsAt _ (Nat.mod_lt _ (by decide))))⟩
 ·obtain⟨o5,o6,o7,o8,as,S,rfl,st,fr,ksl,hLW,hSl,hSn,hWS,hCl⟩:=z;have fD:Drawn p H H':=⟨st,fun b o h e=>by
   have hb:b≠sl:=jN e hslH;exact fr b o h hb (D4.2 b o h e)⟩
  exact⟨_,rfl,q sl S H' fD hslH ⟨as,SqL.of (vC (by simpa using nsp) ksl),hLW.same (oS fun b hb=>by simp only[π,jv,or_false]at hb ⊢;exact .inl hb)⟩ hWS (fun z=>by rw[z]at hSl;simp at hSl;omega) hCl⟩
theorem aBo{k:Nat}(F:Fun K "bound_of" "bound_of" fL f fd):j0 ["width"] spBd:=by
 w_cond aBt;obtain⟨w,rfl,hw,q⟩:=h;refine⟨_,(jC (jI (jV aIs jE (jV zU jE (pv 0))))),?_⟩;have e:∀w:Fin 5,(1:Int)*2 ^ (8*((w.val:Nat):Int)).toNat=((256 ^ w.val:Nat):Int):=by decide
 have e':=e ⟨w,by omega⟩;refine⟨_,rfl,_,_,rfl,rfl,.inl ⟨by omega,by omega⟩,_,_,rfl,rfl,⟨by omega,by omega,by omega⟩,?_⟩;dsimp only at e' ⊢;rw[e'];exact q
theorem aDb(F:Fun K "is_word" "is_word" iT f fd)(ck:j4 "bound_of" spBd)(bz:j4 "is_between" spIB):j0 ["thing","width"] spWd:=by
 w_cond aCr;obtain⟨w,v,rfl,hw,hv,q⟩:=h;refine⟨_,(jC (jI (jF bz hr (jA (pv 0) (jA jE (jA (jV cQ (jF ck hr (jA (pv 1) jB)) jE) jB)))))),?_⟩;refine⟨_,rfl,_,rfl,w,rfl,hw,_,_,rfl,rfl,v,0,_,rfl,(by omega),?_,q⟩;have:(v:Int)<((256 ^ w:Nat):Int):=by exact_mod_cast hv
 show(v:Int)<=((256 ^ w:Nat):Int)-1;omega
theorem lU(F:Fun K "is_number_of" "is_number_of" zW f fd)(bz:j4 "is_between" spIB):j0 ["pick","thing"] (aOf (j7 0) K):=by
 w_cond mF;obtain⟨a,j,is,sa,rfl,ho,hj,q⟩:=h;refine⟨_,(jC (jI (jF bz hr (jA (pv 1) (jA jE (jA (jV cQ (jG jW rfl M.len je (jA (qF (pv 0) rfl) jB)) jE) jB)))))),?_⟩;cases ho with
 |pick h1 h2 h3 h4 =>
  refine⟨_,rfl,_,rfl,a,Vd,_,_,_,rfl,h1,Ud.cl,Ud.nd,rfl,_,_,rfl,.inr h2,_,_,rfl,rfl,j,0,_,rfl,(by omega),?_,q⟩;rw[δ,h3];show(j:Int)<=(is.length:Int)-1;omega
theorem aBq(F:Fun K "_law_word" "_law_word" fF f fd)(aa:j4 "_law_take" cC):j0 ["_law_box_here","_law_width"] aOk:=by
 w_cond lK;obtain⟨p,w,rfl,h1,h4,hs,q⟩:=h;refine⟨_,(PSx.h (zO (mM (jR 2 lK.nd (jV cQ (jV aIs jE (jV zU jE (pv 1))) jE))) (mI (gM (aIq (qP (vI jE) (qP (vI (pv 2)) (qP (vI jE) (qP (vI (jV xT jE (jV qG (pv 2) jE))) (qP (vI (jF aa hr (jA (pv 0) (jA (jV qG (pv 2) jE) jB)))) (qP (vI (jF aa hr (jA (pv 0) (jA (jV qG (pv 2) jE) jB)))) aEb aFa) aFa) aQd) qL) aMs) qL) (vI (jF aa hr (jA (pv 0) (jA jE jB)))) (fun _ _=>rfl)))))),?_⟩;have e:∀w:Fin 5,(1:Int)*2 ^ (8*((w.val:Nat):Int)).toNat=((256 ^ w.val:Nat):Int)/\256 ^ w.val<=4294967296/\(1<=w.val->256<=256 ^ w.val):=by decide
 obtain⟨e',b1,b2⟩:=e ⟨w,by omega⟩;have b2':=b2 h1;dsimp only at e' b1 b2';generalize 256 ^ w=M at *;refine⟨_,rfl,_,_,rfl,rfl,.inl ⟨by omega,by omega⟩,_,_,rfl,rfl,⟨by omega,by omega,by omega⟩,_,_,rfl,rfl,?_⟩
 (try dsimp only)
 rw[e'];have eM:(M:Int)-1+1=M:=by omega
 refine⟨_,rfl,_,rfl,_,_,rfl,rfl,_,_,rfl,rfl,(by rw[eM];omega),_,rfl,_,rfl,_,_,rfl,rfl,p,_,rfl,(by rw[eM];omega),(by rw[eM];omega),hs,fun v1 H1 hv1 d1=>⟨_,rfl,_,rfl,_,_,rfl,rfl,p,_,rfl,(by rw[eM];omega),(by rw[eM];omega),d1.1,fun v2 H2 hv2 d2=>⟨(by show 6<=ψ;decide),fun ml hml=>?_⟩⟩⟩;clear 1 ml H3 g3 k3 hml;have nm:ml≠p:=aFe d2.1 hml;refine⟨_,rfl,p,6,rfl,by decide,by decide,jJ.st3 g3 d2.1,fun v3 H4 hv3 d4=>?_⟩;have k4:=d4.2 ml _ nm k3;have D4:Drawn p H H4:=((d1.trans d2).keep g3).trans d4;have m256:∃n:Nat,(256:Int) % (M-1+1)=n/\n<M:=⟨256 % M,by rw[eM];exact(Int.natCast_emod 256 M).symm,Nat.mod_lt _ (by omega)⟩;obtain⟨n3,e3',l3⟩:=m256;obtain⟨n,hat,hn⟩ : ∃n:Nat,atI [V.int 0,V.int ((M:Int)-1),V.int 1,V.int (256 % ((M:Int)-1+1)),V.int v1,V.int v2] (v3:Int)=some (.int n)/\n<M:=by
  rw[e3',show(M:Int)-1=((M-1:Nat):Int) by omega]
  match v3,hv3 with
  |0,_=>exact⟨0,rfl,by omega⟩
  |1,_=>exact⟨M-1,rfl,by omega⟩
  |2,_=>exact⟨1,rfl,by omega⟩
  |3,_=>exact⟨n3,rfl,l3⟩
  |4,_=>exact⟨v1,rfl,by omega⟩
  |5,_=>exact⟨v2,rfl,by omega⟩
  |n+6,h=>exact absurd h (by omega)
 exact⟨ml,_,_,_,rfl,rfl,SqL.of k4,hat,q n H4 hn D4⟩
theorem uH{k r:Nat}(F:Fun K "_law_drawn" "_law_drawn" dS f fd)(fu:j4 "_law_word" aOk)(aa:j4 "_law_take" cC)(bb:j4 "_law_drawn" (spDr K r)):j0 ["_law_box_here","_law_kind_here","_law_shapes_here"] (spDr K (r+1)):=by
 w_cond xY;obtain⟨p,a,sl,kd,S,r0,ys,er,rfl,hs,hpy,al,hk,hf,hlkO,hlxO,hW,q⟩:=h;cases er;refine⟨_,(jD (jX (kF qQ (jK jY (pv 1) jE) jO) (jC (jI (jF fu hr (jA (pv 0) (jA (jK jY (pv 1) jE) jB))))) jL) (jD (jX (kF qQ (jK jY (pv 1) jE) jO) (jC (jI (kQ ["_law_k"] ["_law_box_here","_law_shapes_here","_law_kind_here"] [0,2,1] rfl (vJ rfl M.range (jA (jK jY (pv 1) jE) jB)) rfl ⟨rfl,⟨rfl,⟨rfl,trivial⟩⟩⟩ ⟨⟨rfl,rfl,rfl,_,rfl⟩,⟨⟨rfl,rfl,rfl,_,rfl⟩,⟨⟨rfl,rfl,rfl,_,rfl⟩,trivial⟩⟩⟩ (fun _ _ _ _=>(qC rfl)) (fun _ _ _ _=>kP) (fun _ _ _ _=>(jF bb hr (jA (pv 1) (jA (jK (aEm K rfl) (pv 3) jE) (jA (pv 2) jB)))))))) jL) (jD (jX (kF qQ (jK jY (pv 1) jE) jO) (jD (jR 3 xY.nd (jF aa hr (jA (pv 0) (jA (jG jW rfl M.len je (jA (jK jY (pv 1) jE) jB)) jB)))) (jC (jI (kW (jA (pv 3) (jA (jF bb hr (jA (pv 0) (jA (kW (jA jO (jA (jK jU (jK jY (pv 1) jE) (pv 3)) jB))) (jA (pv 2) jB)))) jB)))))) jL) (jD (jR 4 xY.nd oT) (jD (vF jo rfl (kU (jK jY (jK jU (pv 2) (jK jY (pv 1) jE)) jE)) (xQ rfl (jS (kS 5 xY.nd) (jS (kS 6 xY.nd) qK))) (jC (gK hr.units1 (pv 4) (pv 5) (jF bb hr (jA (pv 0) (jA (pv 6) (jA (pv 2) jB)))) rfl))) (jC (jI (pv 4)))))))),?_⟩;cases id hlkO with
 | @num a w h1O =>
  have h1:=kO.tp h1O;refine⟨_,rfl,a,_,_,_,rfl,rfl,h1,rfl,rfl,_,rfl,kZ ⟨_,rfl,_,rfl,a,_,_,_,rfl,rfl,h1,rfl,p,w,rfl,hf.1,hf.2,hs,fun v H1 hv d1=>q (.int v) (.int v) H1 d1 (.int v) ?_ (fun b eb=>by cases eb)⟩⟩;cases r <;> exact⟨v,rfl,hv⟩
 | @pick a ll is h1O h2O =>
  have h1:=kO.tp h1O;have h2:=kO.seq h2O;cases r with
  |zero=>exact(qa _ (hk _ (ju (show 0<is.length by have:=hf.1;omega)))).elim
  |succ r =>
  have hlen:=hf.2.1;have hlen2:=hf.1;refine⟨_,rfl,a,_,_,_,rfl,rfl,h1,rfl,rfl,_,rfl,jQ ⟨_,rfl,a,_,_,_,rfl,rfl,h1,rfl,rfl,_,rfl,jQ ⟨_,rfl,a,_,_,_,rfl,rfl,h1,rfl,rfl,_,rfl,kZ ⟨_,rfl,_,rfl,a,_,_,_,rfl,rfl,h1,rfl,ll,_,rfl,.inl h2,?_⟩⟩⟩⟩;rw[δ];refine⟨p,is.length,rfl,by omega,by omega,hs,fun j H1 hj d1=>?_⟩;have hjl:j<is.length:=by exact_mod_cast hj
  obtain⟨i',hi'⟩ : ∃s,is[j]?=some s:=⟨_,ζ hjl⟩;have hil:i'<S.length:=hf.2.2.2 i' (ι hi');have hki:=hk i' (ι hi');have s1:jJ (offs ys H) (offs ys H1):=d1.offs hpy;have al1:=Al.drawn al d1;refine⟨_,rfl,_,rfl,_,rfl,a,_,_,_,rfl,rfl,kO.tp (s1.tp h1O),rfl,_,rfl,ll,_,_,_,rfl,rfl,kO.seq (s1.seq h2O),aPz hi',xD,fun tk htk=>?_⟩;clear 1 tk H2 g2 k2 htk;have s2:=s1.trans (qD (xs:=ys) g2);refine⟨_,rfl,p,tk,sl,.nest i',S,r,ys,rfl,rfl,jJ.st3 g2 d1.1,hpy,al1.same g2,(by show 2*i'+2<=r;omega),hil,.nest (SqT.of (vC (al1.new htk) k2)),hlxO.same s2,hW,fun v d H3 d3 hdt hcn hfr=>⟨xD,fun t ht=>?_⟩⟩;clear 1 t H4 g4 k4 ht;have D3:Drawn p H H3:=(d1.keep g2).trans d3;exact q (.ref t) (.tuple [.int j,d]) H4 (D3.keep g4) (.tup (SqT.of (vC ((Al.drawn al D3).new ht) k4)) (.cons (.int _) (.cons (hdt.same (qD g4)) .nil))) ⟨j,i',d,hi',rfl,hcn⟩ (fun b eb=>by cases eb;exact D3.free ht)
 | @many a b n k h1O h2O =>
  have h1:=kO.tp h1O;cases r with
  |zero=>exact(nQ (.inr ⟨_,_,rfl⟩) hk).elim
  |succ r =>
  have hpd:(Kd.many n k).Pd:=.inr ⟨_,_,rfl⟩;have hn6:n<=6:=hf.2.1;have pl:((Kd.many n k).parts S).length=n:=by show((jk n).map _).length=n;rw[δ,jw]
  refine⟨_,rfl,a,_,_,_,rfl,rfl,h1,rfl,rfl,_,rfl,jQ ⟨_,rfl,a,_,_,_,rfl,rfl,h1,rfl,rfl,_,rfl,kZ ⟨_,rfl,a,_,_,_,rfl,rfl,h1,rfl,n,rfl,by omega,by omega,aAy (n:=n) (fun j zs H'=>Drawn p H H'/\∃es,Dts true K (offs ys H') zs es/\zF (Can S r) (((Kd.many n k).parts S).take j) es) ⟨⟨hs,fun _ _ _ z=>z⟩,[],.nil,jm⟩ (fun j zs H' hj z=>?_) (kI (by omega)) (fun j zs H' hj z=>?_) (fun zs H' z l hl hns=>?_)⟩⟩⟩
  ·obtain⟨_,es,hdt,hcl⟩:=z;rw[hdt.length,←hcl.len,Θ];omega
  ·obtain⟨D,es,hdt,hcl⟩:=z;have hps:((Kd.many n k).parts S)[j]?=some (η (toString j),k):=by
    show((jk n).map _)[j]?=_;rw[ig,ul hj];rfl
   obtain⟨p1,p2,_⟩:=Kd.parts_ok hW.good hf hk (ι hps);have sO:jJ (offs ys H) (offs ys H'):=D.offs hpy;refine⟨_,rfl,_,rfl,a,_,_,_,rfl,rfl,kO.tp (sO.tp h1O),rfl,_,rfl,p,b,sl,k,S,r,ys,rfl,rfl,D.1,hpy,Al.drawn al D,p1,p2,h2O.same sO,hlxO.same sO,hW,fun v d H3 d3 hdv hcn hfr=>⟨⟨D.trans d3,es++[d],(hdt.same (d3.offs hpy)).snoc hdv,?_⟩,_,rfl⟩⟩;rw[iw,hps];exact hcl.app ⟨hcn,jm⟩
  ·obtain⟨D,es,hdt,hcl⟩:=z;clear 1 l H3 g3 k3 hl;rw[qd (by rw[pl];exact ν _)]at hcl;exact q (.ref l) (.list es) H3 (D.keep g3) (.lst (SqL.of (vC ((Al.drawn al D).new hl) k3)) (fun _=>hns) (hdt.same (qD g3))) ⟨es,rfl,hcl⟩ (fun b eb=>by cases eb;exact D.free hl)
 | @nest a i h1O =>
  have h1:=kO.tp h1O;cases r with
  |zero=>exact(nQ (.inl ⟨_,rfl⟩) hk).elim
  |succ r =>
  have hi:i<S.length:=hf;have hS:S[i]?=some S[i]:=ζ hi;have ep:=xC hS;obtain⟨as,s,lf,ps,m1,m2,m3,m4,m5⟩:=hlxO.at hi;have few:=hW.good.few i _ hS;refine⟨_,rfl,a,_,_,_,rfl,rfl,h1,rfl,rfl,_,rfl,jQ ⟨_,rfl,a,_,_,_,rfl,rfl,h1,rfl,rfl,_,rfl,jQ ⟨_,rfl,a,_,_,_,rfl,rfl,h1,rfl,rfl,_,rfl,jQ (fun l0 hl0=>?_)⟩⟩⟩;clear 1 l0 H1 g1 k1 hl0;have n0y:l0∉ys:=al.new hl0;have n0p:l0≠p:=fun z=>n0y (z ▸ hpy);have alB:∀{H':Hp}{o0:HO},aGt p l0 H1 H'->H' l0=some o0->St3 H' p->Al (l0::ys) H':=fun {H' o0} g k0 st b hb=>by
   rcases π.mp hb with rfl|hb
   ·exact⟨_,k0⟩
   ·by_cases hbl:b=p
    ·exact hbl ▸ aAq st
    ·obtain⟨o,ho'⟩:=al b hb;exact⟨o,g b o hbl (fun z=>n0y (z ▸ hb)) (g1 _ _ ho')⟩
  refine⟨_,rfl,_,rfl,a,_,_,_,rfl,rfl,g1.tp h1,rfl,sl,_,_,_,rfl,rfl,g1.seq (kO.seq m1),aI m2,s,_,_,_,rfl,rfl,g1.tp (kO.tp m3),rfl,lf,rfl,⟨_,g1.seq (kO.seq m4)⟩,qU (xs:=ps.map V.ref) (fun j σ H'=>∃(o3 o5 o6:Option V) (es:List PyData) (zs:List V),σ = [some (.ref p),some (.ref a),some (.ref sl),o3,some (.ref l0),o5,o6]/\aGt p l0 H1 H'/\St3 H' p/\H' l0=some (.dK (kz ((((Kd.nest i).parts S).map (·.1)).take j) zs))/\zs.length=j/\Dts true K (offs (l0::ys) H') zs es/\zF (Can S r) (((Kd.nest i).parts S).take j) es) ⟨_,_,_,[],[],rfl,fun _ _ _ _ z=>z,jJ.st3 g1 hs,k1,rfl,.nil,jm⟩ (fun j σ H' _ z=>?_) (fun j x' σ H' hx z=>?_) (fun σ H' z=>?_)⟩
  ·obtain⟨o3,o5,o6,es,zs,rfl,g,_⟩:=z;exact kO.seq ((aGt.offs g1 hl0 hpy g).seq m4)
  ·obtain⟨o3,o5,o6,es,zs,rfl,g,st,k0,hzj,hdt,hcl⟩:=z;obtain⟨t0,ht0,rfl⟩:=qJ hx;obtain⟨nm',kd',kk,hfs,htt,hko⟩:=m5.get ht0;have hps:((Kd.nest i).parts S)[j]?=some (nm',kd'):=by rw[ep];exact hfs
   obtain⟨p1,p2,_⟩:=Kd.parts_ok hW.good hf hk (ι hps);have sO:=aGt.offs g1 hl0 hpy g;have hjl:j<((Kd.nest i).parts S).length:=(ε.mp hps).1;have hkl:((((Kd.nest i).parts S).map (·.1)).take j).length=zs.length:=by rw[Θ,δ,hzj];omega
   have nk:(((Kd.nest i).parts S).map (·.1))[j]?=some nm':=by rw[ig,hps];rfl
   refine⟨t0,_,rfl,kO.tp (sO.tp htt),rfl,_,_,rfl,_,_,rfl,rfl,_,rfl,_,rfl,_,rfl,p,kk,sl,kd',S,r,l0::ys,rfl,rfl,st,ς _ hpy,alB g k0 st,p1,p2,hko.same sO,hlxO.same sO,hW,fun v d H3 d3 hdv hcn hfr=>?_⟩;have k3:=d3.2 l0 _ n0p k0;refine⟨_,rfl,_,rfl,l0,_,rfl,.inl ⟨_,.inr nm',k3,rfl,(by rw[xS hkl,hkl,hzj];rw[ep]at hjl;exact Δ hjl (ip few (by decide))),rfl⟩,?_⟩;rw[aCj (v:=v) (hW.pnd hf i rfl) hzj nk];clear 0 l0 H4 g4 k4;have s34:jJ (offs (l0::ys) H3) (offs (l0::ys) H4):=xX fun b o hb e=>g4 b o (fun z=>hb (by rw[z];simp)) e;obtain⟨x3,y3,z3,est⟩:=d3.1;refine⟨o3,some (.str nm'),some (.ref kk),es++[d],zs++[v],rfl,fun b o h1 h2 e=>g4 b o h2 (d3.2 b o h1 (g b o h1 h2 e)),⟨x3,y3,z3,g4 p _ (lm n0p) est⟩,k4,by rw[θ,hzj];rfl,((hdt.same (d3.offs (ς _ hpy))).snoc hdv).same s34,?_⟩;rw[iw,hps];exact hcl.app ⟨hcn,jm⟩
  ·obtain⟨o3,o5,o6,es,zs,rfl,g,st,k0,hzj,hdt,hcl⟩:=z;have en:(ps.map V.ref).length=((Kd.nest i).parts S).length:=by rw[ep,δ,m5.len]
   rw[en,jZ]at hcl;rw[en,←δ (·.1),jZ]at k0;have D:Drawn p H H':=⟨st,fun b o h e=>g b o h (jN e hl0) (g1 _ _ e)⟩;exact⟨_,rfl,q (.ref l0) (.dict (eJ ((Kd.nest i).parts S) es)) H' D (aQc (vC n0y k0) (by rw[hzj,en]) (hdt.same aMi)) ⟨es,rfl,hcl⟩ (fun b eb=>by cases eb;exact hl0)⟩
theorem wU{k:Nat}(F:Fun K "is_whole" "is_whole" fX f fd):j0 ["thing"] spW1:=by
 w_cond wJ;obtain⟨v,rfl,q⟩:=h;refine⟨_,(jC (jI (vZ (jG kJ rfl M.isinstance ii (jA (pv 0) (jA (kT (v:=.ty "int") rfl M.int boot_int rfl) jB))) (xZ (aRw (jG kJ rfl M.isinstance ii (jA (pv 0) (jA (kT (v:=.ty "bool") rfl M.bool boot_bool rfl) jB)))))))),?_⟩;exact⟨_,rfl,.int v,_,"int",rfl,by decide,.inl rfl,_,rfl,xF rfl ⟨_,rfl,.int v,_,"int",rfl,by decide,.inl rfl,_,rfl,q⟩⟩
theorem pO(F:Fun K "is_between" "is_between" bX f fd)(cm:j4 "is_whole" spW1):j0 ["thing","low","high"] spIB:=by
 w_cond rE;obtain⟨v,lo,hi,rfl,h1,h2,q⟩:=h;refine⟨_,(jC (jI (vZ (jF cm hr (jA (pv 0) jB)) (xZ (aAv eO eO (pv 1) (pv 0) (pv 2)))))),?_⟩;refine⟨_,rfl,v,rfl,_,rfl,xF rfl ⟨_,rfl,_,rfl,_,_,rfl,rfl,_,rfl,xF (decide_eq_true h1) ⟨_,rfl,_,_,rfl,rfl,?_⟩⟩⟩;exact(congrArg (fun b=>Q (V.bl b) H) (decide_eq_true h2)).mpr q
theorem lQ(F:Fun K "may_have" "may_have" fG f fd)(KS:KdS K (j7 0))(gj:j4 "is_word" spWd)(dv:j4 "has_fields" (cO (j7 0) K r Kd.isNest))(eo:j4 "has_count" (cO (j7 0) K r Kd.isMany))(fc:j4 "is_choice" (cO (j7 0) K r Kd.isPick)):j0 ["kind","thing"] (cO (j7 0) K r aIn):=by
 w_cond aAm;obtain⟨a,x,kd,sa,S,d,e,rfl,hF,hk,hf,ho,hw,hW,hd,hc,q⟩:=h;refine⟨_,(jD (jX (kK (jG (xP (K:=K) rfl) rfl M.isinstance ii (jA (pv 0) (jA (qM (v:=.ref Va) rfl Ua.m rfl) jB)))) (jC (jI (jF gj hr (jA (pv 1) (jA (qF (pv 0) rfl) jB))))) jL) (jD (jX (kK (jG (xP (K:=K) rfl) rfl M.isinstance ii (jA (pv 0) (jA (qM (v:=.ref Vb) rfl Ub.m rfl) jB)))) (jC (jI (jF dv hr (jA (pv 0) (jA (pv 1) jB))))) jL) (jD (jX (kK (jG (xP (K:=K) rfl) rfl M.isinstance ii (jA (pv 0) (jA (qM (v:=.ref Vc) rfl Uc.m rfl) jB)))) (jC (jI (jF eo hr (jA (pv 0) (jA (pv 1) jB))))) jL) (jC (jI (jF fc hr (jA (pv 0) (jA (pv 1) jB)))))))),?_⟩;cases kd with
 |num w =>
  obtain⟨v,rfl,rfl,hv⟩ : ∃v:Nat,d=.int v/\e=.int v/\v<256 ^ w:=by cases r <;> exact hc
  cases hd;refine⟨_,rfl,.ref a,Va,_,_,rfl,KS.ty ho,KS.kit _ (.num 0),_,rfl,xF rfl ?_⟩;cases ho with
  |num h1=>exact⟨_,rfl,_,rfl,a,Va,_,_,_,rfl,h1,Ua.cl,Ua.nd,rfl,w,v,rfl,hf.2,hv,q H (jJ.refl _)⟩
 |nest i=>exact⟨_,rfl,.ref a,Va,_,_,rfl,KS.ty ho,KS.kit _ (.num 0),_,rfl,vE υ ⟨_,rfl,.ref a,Vb,_,_,rfl,KS.ty ho,KS.kit _ (.nest 0),_,rfl,xF rfl ⟨_,rfl,_,rfl,a,x,_,sa,S,d,e,rfl,rfl,hk,hf,ho,hw,hW,hd,hc,q⟩⟩⟩
 |many n k=>exact⟨_,rfl,.ref a,Va,_,_,rfl,KS.ty ho,KS.kit _ (.num 0),_,rfl,vE υ ⟨_,rfl,.ref a,Vb,_,_,rfl,KS.ty ho,KS.kit _ (.nest 0),_,rfl,vE υ ⟨_,rfl,.ref a,Vc,_,_,rfl,KS.ty ho,KS.kit _ (.many 0 (.num 0)),_,rfl,xF rfl ⟨_,rfl,_,rfl,a,x,_,sa,S,d,e,rfl,rfl,hk,hf,ho,hw,hW,hd,hc,q⟩⟩⟩⟩
 |pick is=>exact⟨_,rfl,.ref a,Va,_,_,rfl,KS.ty ho,KS.kit _ (.num 0),_,rfl,vE υ ⟨_,rfl,.ref a,Vb,_,_,rfl,KS.ty ho,KS.kit _ (.nest 0),_,rfl,vE υ ⟨_,rfl,.ref a,Vc,_,_,rfl,KS.ty ho,KS.kit _ (.many 0 (.num 0)),_,rfl,vE υ ⟨_,rfl,_,rfl,a,x,_,sa,S,d,e,rfl,rfl,hk,hf,ho,hw,hW,hd,hc,q⟩⟩⟩⟩
theorem pQ(F:Fun K "has_fields" "has_fields" bY f fd)(bh:j4 "may_have" (cO (j7 0) K r aIn)):j0 ["kind","thing"] (cO (j7 0) K (r+1) Kd.isNest):=by
 w_cond eQ;obtain⟨a,x,kd,sa,S,d,e,rfl,hF,hk,hf,ho,hw,hW,hd,hc,q⟩:=h;refine⟨_,(jD (jR 2 eQ.nd (qF (qF (pv 0) rfl) rfl)) (jD (jX (PW.pt (yP (vH (kK (jG kJ rfl M.isinstance ii (jA (pv 1) (jA (kT (v:=.ty "dict") rfl M.dict boot_dict rfl) jB))))) (yH (kF eR (jG aGl rfl M.len je (jA (pv 1) jB)) (jG jW rfl M.len je (jA (pv 2) jB)))))) (jC (jI aA)) jL) (jD (jX (vH (kK (jG (bC rfl) rfl M.all boot_all (jA (kQ ["name","inner"] ["thing"] [1] rfl (dN (pv 2)) rfl ⟨rfl,trivial⟩ ⟨⟨rfl,rfl,rfl,_,rfl⟩,trivial⟩ (fun _ _ _ _=>(xV (K:=K) (n:=2) rfl rfl (jS (qC rfl) (jS (aM rfl) qK)))) (fun _ _ _ _=>kP) (fun _ _ _ _=>(aRk (aQe hr.units1 (pv 0) (pv 2))))) jB)))) (jC (jI aA)) jL) (jC (jI (jG (bC rfl) rfl M.all boot_all (jA (kQ ["name","inner"] ["thing"] [1] rfl (dN (pv 2)) rfl ⟨rfl,trivial⟩ ⟨⟨rfl,rfl,rfl,_,rfl⟩,trivial⟩ (fun _ _ _ _=>(xV (K:=K) (n:=2) rfl rfl (jS (qC rfl) (jS (aM rfl) qK)))) (fun _ _ _ _=>kP) (fun _ _ _ _=>(jF bh hr (jA (pv 1) (jA (yB hr.units1 (pv 2) (pv 0) (fun _ _=>rfl)) jB))))) jB))))))),?_⟩;cases id ho with
 | @nest a dx s i e0 h1 =>
  obtain⟨sh,hs,so⟩:=hw.at e0;obtain⟨dx2,t,ps,k1,k2,k3⟩:=id so;have pn:=xC hs;have hm:=ι hs;have zl:(ps.map V.ref).length=sh.2.length:=by rw[δ];exact k3.len
  have few:=hW.good.few i sh hs;have h6:(ps.map V.ref).length<ψ:=kI (by omega);obtain⟨ds,es,ks,es',rfl,rfl,l,p0,hR⟩:=hc;have D:=wX (vU hW.fnd i) l p0 hR;have hkl:=D.p.length_eq;rw[δ,pn]at hkl;obtain⟨ad,xs,rfl,hdk,l2,dts⟩:=aFp hd l;have hy:∀(j:Nat) (f:Str×Kd),sh.2[j]?=some f->∃v d e,aS (kz ks xs) (.inr f.1)=some v/\Dt false K H v e/\Rec S r f.2 d e:=fun j f hf'=>by
   obtain⟨v,d,e,_,z2,z3,z4⟩:=aFw (vU hW.fnd i) D l2 dts (i:=j) (f:=f) (by rw[pn];exact hf');exact⟨v,d,e,z2,z3,z4⟩
  refine⟨_,rfl,a,Vb,_,_,_,rfl,h1,Ub.cl,Ub.nd,rfl,s,Ve,_,_,_,rfl,k1,Ue.cl,Ue.nd,rfl,?_⟩;refine⟨_,rfl,.ref ad,_,"dict",rfl,by decide,.inr ⟨rfl,ad,_,rfl,hdk⟩,_,rfl,jQ ⟨_,rfl,ad,_,rfl,hdk,_,rfl,t,_,rfl,.inr k2,rfl,_,rfl,?_⟩⟩;have hll:(kz ks xs).length=sh.2.length:=by rw[xS l2];exact hkl
  refine vE (by rw[zl];simp;omega) ⟨_,rfl,t,rfl,⟨_,k2⟩,zK (xs:=ps.map V.ref) (fun j ys H'=>H'=H/\ys=((sh.2.take j).map fun f=>(aS (kz ks xs) (.inr f.1)).isSome).map V.bl) ⟨rfl,rfl⟩ (fun j ys H' _ z=>⟨by rw[z.1];exact k2,by rw[z.2,δ,δ,Θ];exact kg _ _⟩) h6 (fun j x ys H' os ho' hx z=>?_) (fun ys H' z p hp=>?_)⟩
  ·obtain⟨rfl,rfl⟩:=z;obtain⟨o1,o2,rfl⟩:=rN ho';obtain⟨u,hu,rfl⟩:=qJ hx;obtain⟨nm,kd,k,hf2,ht,_⟩:=k3.get hu;refine⟨u,_,rfl,ht,rfl,_,_,rfl,_,_,rfl,rfl,_,rfl,_,rfl,ad,_,rfl,yR.k (k:=.inr nm) hdk,⟨rfl,?_⟩,[_,_],rfl,rfl⟩;rw[qO hf2,χ];rfl
  ·obtain⟨rfl,rfl⟩:=z;clear 1 p H1 g1 kp hp;rw[zl,jZ]at kp;refine⟨p,_,rfl,SqL.of kp,_,rfl,?_⟩;rw[dW (fun f hf=>by obtain⟨j,hj⟩:=jb.mp hf;obtain⟨v,d,e,hv,_⟩:=hy j f hj;rw[hv];rfl)];refine jQ ⟨_,rfl,t,rfl,⟨_,g1.tp k2⟩,zK (xs:=ps.map V.ref) (fun j ys H2=>jJ H1 H2/\ys=((sh.2.take j).map fun _=>true).map V.bl) ⟨jJ.refl _,rfl⟩ (fun j ys H2 _ z=>⟨z.1.tp (g1.tp k2),by rw[z.2,δ,δ,Θ];exact kg _ _⟩) h6 (fun j x ys H2 os ho' hx z=>?_) (fun ys H2 z p2 hp2=>?_)⟩
   ·obtain⟨g2,rfl⟩:=z;obtain⟨o1,o2,rfl⟩:=rN ho';obtain⟨u,hu,rfl⟩:=qJ hx;obtain⟨nm,kd,k,hf2,ht,hko⟩:=k3.get hu;obtain⟨v,d,e,hv,hdt,hcn⟩:=hy j _ hf2;have g12:=g1.trans g2;have hko':=hko.more (sa.drop i);rw[kj]at hko';obtain⟨p1,p2,_⟩:=Kd.parts_ok hW.good hf hk (f:=(nm,kd)) (by rw[pn];exact ι hf2);refine⟨u,_,rfl,g12.tp ht,rfl,_,_,rfl,_,_,rfl,rfl,_,rfl,_,rfl,_,rfl,ad,v,rfl,(by rw[←hv];exact yR.k (k:=.inr nm) (g12 _ _ hdk)),k,v,kd,sa,S,d,e,rfl,rfl,p1,p2,hko'.same g12,hw.same g12,hW,hdt.same g12,hcn,fun H3 g3=>⟨⟨g2.trans g3,?_⟩,[_,_],rfl,rfl⟩⟩;rw[qO hf2,χ];rfl
   ·obtain⟨g2,rfl⟩:=z;clear 1 p2 H3 g3 kp3 hp2;rw[zl,jZ]at kp3;refine⟨p2,_,rfl,SqL.of kp3,?_⟩;rw[dW (fun f hf=>rfl)];exact q H3 ((g1.trans g2).trans g3)
 |_=>cases hF
theorem wA(F:Fun K "has_count" "has_count" cY f fd)(bh:j4 "may_have" (cO (j7 0) K r aIn)):j0 ["kind","thing"] (cO (j7 0) K (r+1) Kd.isMany):=by
 w_cond tN;obtain⟨a,x,kd,sa,S,d,e,rfl,hF,hk,hf,ho,hw,hW,hd,hc,q⟩:=h;refine⟨_,(jD (jX (PW.pt (yP (vH (kK (jG kJ rfl M.isinstance ii (jA (pv 1) (jA (kT (v:=.ty "list") rfl M.list qh rfl) jB))))) (yH (kF eR (jG jW rfl M.len je (jA (pv 1) jB)) (qF (pv 0) rfl))))) (jC (jI aA)) jL) (jC (jI (jG (bC rfl) rfl M.all boot_all (jA (kQ ["item"] ["kind"] [0] rfl (kU (pv 1)) rfl ⟨rfl,trivial⟩ ⟨⟨rfl,rfl,rfl,_,rfl⟩,trivial⟩ (fun _ _ _ _=>(qC rfl)) (fun _ _ _ _=>kP) (fun _ _ _ _=>(jF bh hr (jA (mV (K:=K) rfl (pv 1) rfl) (jA (pv 0) jB))))) jB))))),?_⟩;cases id ho with
 | @many a dx b' n k h1 h2 =>
  obtain⟨ds,es,rfl,rfl,hR⟩:=hc;have hl:n=es.length:=by have:=hR.len.2;rw[←this];show _=((jk n).map _).length;rw[δ,jw]
  cases hd with
  | @lst ad xs _ hx hz dts =>
   have lx:=dts.length;have hn:n<=6:=hf.2.1;refine⟨_,rfl,.ref ad,_,"list",rfl,by decide,.inl (.inl ⟨rfl,_,hx⟩),_,rfl,jQ ⟨_,rfl,ad,xs,rfl,.inl hx,_,rfl,a,Vc,_,_,_,rfl,h1,Uc.cl,Uc.nd,rfl,rfl,_,rfl,vE (by rw[lx,←hl];simp) ⟨_,rfl,ad,rfl,⟨_,hx⟩,vO (xs:=xs) (fun j ys H'=>jJ H H'/\ys=((es.take j).map fun _=>true).map V.bl) ⟨jJ.refl _,rfl⟩ (fun j ys H' _ z=>⟨z.1.seq hx,by rw[z.2,δ,δ,Θ];exact kg _ _⟩) (kI (by omega)) (fun j v ys H' hv z=>?_) (fun ys H' z p hp=>?_)⟩⟩⟩
   ·obtain⟨g,rfl⟩:=z;have hj:j<es.length:=by rw[←lx];exact(ε.mp hv).1
    have hpj:((Kd.many n k).parts S)[j]?=some (η (toString j),k):=by
     show((jk n).map _)[j]?=_;rw[ig,ul (by omega)];rfl
    obtain⟨d1,e1,hd1,he1,hR1⟩:=hR.get hpj;obtain⟨v',hv',hdt⟩:=dts.get he1;rw[hv]at hv';cases hv';obtain⟨p1,p2,_⟩:=Kd.parts_ok hW.good hf hk (ι hpj);refine⟨_,rfl,a,Vc,_,_,_,rfl,g _ _ h1,Uc.cl,Uc.nd,rfl,_,rfl,b',v,k,sa,S,d1,e1,rfl,rfl,p1,p2,h2.same g,hw.same g,hW,hdt.same g,hR1,fun H3 g3=>⟨⟨g.trans g3,?_⟩,_,rfl⟩⟩;rw[qO he1,χ];rfl
   ·obtain⟨g,rfl⟩:=z;clear 1 p H3 g3 kp3 hp;rw[lx,jZ]at kp3;refine⟨p,_,rfl,SqL.of kp3,?_⟩;rw[dW (fun f hf=>rfl)];exact q H3 (g.trans g3)
 |_=>cases hF
theorem uE(F:Fun K "is_choice" "is_choice" dI f fd)(dg:j4 "is_number_of" (aOf (j7 0) K))(bc:j4 "is_record" (uP (j7 0) K r)):j0 ["kind","thing"] (cO (j7 0) K (r+1) Kd.isPick):=by
 w_cond tL;obtain⟨a,x,kd,sa,S,d,e,rfl,hF,hk,hf,ho,hw,hW,hd,hc,q⟩:=h;refine⟨_,(jD (jX (PW.pt (yP (vH (kK (jG kJ rfl M.isinstance ii (jA (pv 1) (jA (kT (v:=.ty "tuple") rfl M.tuple qw rfl) jB))))) (yH (kF eR (jG jW rfl M.len je (jA (pv 1) jB)) jE)))) (jC (jI aA)) jL) (jC (jI (vZ (jF dg hr (jA (pv 0) (jA (jK jY (pv 1) jE) jB))) (xZ (jF bc hr (jA (jK jY (qF (pv 0) rfl) (jK jY (pv 1) jE)) (jA (jK jY (pv 1) jE) jB)))))))),?_⟩;cases id ho with
 | @pick a dx t is ss h1 h2 h3 h4 =>
  obtain⟨j,i,a0,b0,hi,rfl,rfl,hce⟩ : ∃(j i:Nat) (a b:PyData),is[j]?=some i/\d=.tuple [.int j,a]/\e=.tuple [.int j,b]/\Rec S r (.nest i) a b:=hc;cases hd with
  | @tup ad xs _ hx dts =>
   cases dts with
   |cons hd0 dts =>
    cases dts with
    | @cons x1 _ _ _ hd1 dts =>
     cases dts;cases hd0;have hj:j<is.length:=(ε.mp hi).1;have hsj:ss[j]?=some ss[j]:=ζ (by omega);have hsa:=h4 j i _ hi hsj;refine⟨_,rfl,.ref ad,_,"tuple",rfl,by decide,.inl (.inr ⟨rfl,_,hx⟩),_,rfl,jQ ⟨_,rfl,ad,_,rfl,.inr hx,rfl,_,rfl,vE (by simp) ⟨_,rfl,_,rfl,ad,_,_,_,rfl,rfl,hx,rfl,a,j,is,sa,rfl,ho,hj,_,rfl,xF rfl ?_⟩⟩⟩;refine⟨_,rfl,a,Vd,_,_,_,rfl,h1,Ud.cl,Ud.nd,rfl,_,rfl,ad,_,_,_,rfl,rfl,hx,rfl,t,_,_,_,rfl,rfl,h2,?_,_,rfl,ad,_,_,_,rfl,rfl,hx,rfl,ss[j],x1,i,sa,S,a0,b0,rfl,hsa,?_,hw,hW,hd1,hce,q⟩
     ·exact aI hsj
     ·have:=hk i (ι hi);omega
 |_=>cases hF
theorem iA(F:Fun K "is_record" "is_record" dJ f fd)(ac:j5 cIv (oY Vb "shape"))(bh:j4 "may_have" (cO (j7 0) K r aIn)):j0 ["shape","thing"] (uP (j7 0) K r):=by
 w_cond tQ;obtain⟨s,x,i,sa,S,d,e,rfl,e0,hi,hw,hW,hd,hc,q⟩:=h;refine⟨_,(jC (jI (jF bh hr (jA (xW Ub ac hr0 rfl qT (jA (pv 0) jB)) (jA (pv 1) jB))))),?_⟩;have hil:i<S.length:=by rw[←hw.1];exact(ε.mp e0).1
 refine⟨_,rfl,fun y dx hy hdx _=>⟨y,dx,.ref s,H,rfl,jP,zZ hy hdx,hy,fun H1 g1 k1=>⟨rfl,_,rfl,y,x,.nest i,sa,S,d,e,rfl,rfl,hi,hil,.nest e0 k1,hw.same g1,hW,hd.same g1,hc,fun H2 g2=>q H2 (g1.trans g2)⟩⟩⟩
theorem pS(F:Fun K "flat_under" "flat_under" bS f fd)(KS:KdS K (j7 0))(af:j4 "joined" dE)(ac:j5 cIv (oY Vb "shape"))(am:∀C sp,aCn (j7 0) K C sp->yN P w K mg base CX0 k "parted" C sp)(bo:j4 "flat_under" (aEr (j7 0) K r)):j0 ["kind","path","value"] (aEr (j7 0) K (r+1)):=by
 w_cond vN;obtain⟨a,p,x,kd,sa,S,d,e,r0,er,rfl,hp,hsp,hk,hf,ho,hw,hW,hd,hc,q⟩:=h;cases er;refine⟨_,(jD (jX (kK (jG (xP (K:=K) rfl) rfl M.isinstance ii (jA (pv 0) (jA (qM (v:=.ref Va) rfl Ua.m rfl) jB)))) (jC (jI (qE (jA (kW (jA (pv 1) (jA (pv 2) jB))) jB)))) jL) (jD (jX (kK (jG (xP (K:=K) rfl) rfl M.isinstance ii (jA (pv 0) (jA (qM (v:=.ref Vd) rfl Ud.m rfl) jB)))) (jD (cF (pv 2) (xQ rfl (jS (kS 3 vN.nd) (jS (kS 4 vN.nd) qK)))) (jD (jR 5 vN.nd (jK jY (qF (pv 0) rfl) (pv 3))) (jC (jI (jV cI (qE (jA (kW (jA (jF af hr (jA (pv 1) (jA jO jB))) (jA (pv 3) jB))) jB)) (jF bo hr (jA (xW Ub ac hr0 rfl qT (jA (pv 5) jB)) (jA (jF af hr (jA (pv 1) (jA (qF (pv 5) rfl) jB))) (jA (pv 4) jB))))))))) jL) (jD (jR 6 vN.nd (qE jB)) (jD (vF jo rfl (kU (xI (pv 0) am hr qT)) (xQ rfl (jS (kS 7 vN.nd) (jS (kS 8 vN.nd) qK))) (jC (qX (aD lh PySem.F.slot_list_extend PySem.F.type_list_extend sT (pv 6) (jA (jF bo hr (jA (pv 8) (jA (jF af hr (jA (pv 1) (jA (pv 7) jB))) (jA (aCi (jK jU (pv 2) (pv 7)) (yB hr.units1 (pv 2) (pv 7) (fun _ _=>rfl))) jB)))) jB))))) (jC (jI (pv 6))))))),?_⟩;have bd:∀{r:Nat}{kd':Kd}{d':PyData}{p':Str},Sml p'->kd'.Rk r->kd'.Fit S.length->Can S r kd' d'->(flv S r kd' p' d').length<=6000:=fun h1 h2 h3 h4=>by
  have:=(aKa hW.good hW.nms h3 h2 h4 _ h1).1;have:=Kd.size_bd hW.good.sz (by decide) h3;omega
 rcases Kd.three kd with hpd|⟨w,rfl⟩|⟨is,rfl⟩
 ·obtain⟨n1,n2⟩:=Kd.Pd.sam hpd;refine⟨_,rfl,.ref a,Va,_,_,rfl,KS.ty ho,KS.kit _ (.num 0),_,rfl,vE (by rw[n1];decide) ⟨_,rfl,.ref a,Vd,_,_,rfl,KS.ty ho,KS.kit _ (.pick []),_,rfl,vE (by rw[n2];decide) ⟨cZ,fun l hl=>?_⟩⟩⟩;cases r with
  |zero=>rcases hpd with⟨_,rfl⟩|⟨_,_,rfl⟩ <;> exact hc.elim
  |succ r =>
  have hcn:=dY hc;obtain⟨ds,evd,ed,cl⟩:=aJq hpd hcn;have hb0:=bd hsp hk hf hcn;rw[ed]at hb0 q;rw[aDh hpd p cl.len]at hb0 q;have lens:∀j,(flL (flv S r) ((kd.parts S).take j) p (ds.take j)).length<=6000:=fun j=>by
   have e1:flL (flv S r) (kd.parts S) p ds=flL (flv S r) ((kd.parts S).take j++(kd.parts S).drop j) p (ds.take j++ds.drop j):=by rw[kj,kj]
   rw[e1,uA p (by rw[Θ,Θ,cl.len]),θ]at hb0;omega
  generalize e1:upd H l _=H1;obtain⟨g1,k1⟩:=kR e1 hl;refine⟨_,rfl,oK (pH (by simp)) hpd hf (ho.same g1) (hw.same g1) hW.good fun l2 H2 g2 hl2 zq=>?_⟩;obtain⟨tt,k2,zl,pr⟩:=zq;have kl2:=g2 _ _ k1;have n2:l2≠l:=lm (jN k1 hl2);refine⟨l2,rfl,⟨_,SqL.of k2⟩,qU (xs:=tt.map V.ref) (fun j σ H'=>∃o3 o4 o5 o7 o8,σ = [some (.ref a),some (.str p),some x,o3,o4,o5,some (.ref l),o7,o8]/\But l H2 H'/\RL K H' l (flL (flv S r) ((kd.parts S).take j) p (ds.take j))) ⟨_,_,_,_,_,rfl,But.refl,[],kl2,.nil⟩ (fun j σ H' _ z=>?_) (fun j x' σ H' hx z=>?_) (fun σ H' z=>?_)⟩
  ·obtain⟨o3,o4,o5,o7,o8,rfl,g,_⟩:=z;exact SqL.of (g _ _ n2 k2)
  ·obtain⟨o3,o4,o5,o7,o8,rfl,g,us,ku,ur⟩:=z;obtain⟨t,ht,rfl⟩:=qJ hx;obtain⟨y,kd',kk,hps,hq,hko⟩:=pr _ _ ht;have gH:jJ H H':=But.from (g1.trans g2) hl g;obtain⟨p1,p2,p3,p4⟩:=Kd.parts_ok hW.good hf hk (ι hps);have p4':y.length<=6:=p4;have hsy:=iG hW.nms hf (ι hps);have hyl:=bU (p:=p) p4';refine⟨t,_,rfl,g.tup kl2 hq,rfl,_,_,rfl,_,_,rfl,rfl,_,rfl,.inl ⟨rfl,_,SqL.of ku⟩,_,rfl,_,rfl,_,rfl,p,_,y,rfl,aBy hf hps,(by omega),(by omega),_,rfl,_,rfl,itm9 hpd hW.fnd hc (hd.same gH) hps fun v d1 e1 hdj hdv hcd=>?_⟩;rw[evd]at hdj;refine⟨kk,pj p y,v,kd',sa,S,d1,e1,r,rfl,rfl,(by omega),hsp.pj hsy,p1,p2,hko.but g kl2,hw.same gH,hW,hdv,hcd,fun l3 H3 g3 hl3 zq=>?_⟩;obtain⟨us3,k3,ur3⟩:=zq;have ku3:=g3 _ _ ku;have h6:=lens (j+1);rw[aBd cl.len hps hdj,θ,←ur.len,←ur3.len]at h6;refine⟨l,l3,_,_,rfl,rfl,ku3,k3,(by rw[jf,δ,δ];omega),?_⟩;clear 0 l H4 g4 k4;refine⟨_,_,_,_,_,rfl,(g.trans (But.of g3)).trans g4,us++us3,by rw[χ];exact k4,?_⟩;rw[aBd cl.len hps hdj];exact((ur.same g3).but g4 ku3).app (ur3.but g4 ku3)
  ·obtain⟨o3,o4,o5,o7,o8,rfl,g,u⟩:=z;rw[δ,zl,jZ,cl.len,jZ]at u;exact⟨_,rfl,q l H' (But.from (g1.trans g2) hl g) hl u⟩
 ·obtain⟨v,rfl,rfl,hv⟩ : ∃v:Nat,d=.int v/\e=.int v/\v<256 ^ w:=by cases r <;> exact hc
  cases hd;have e9:flv S r (.num w) p (.int v)=[(p,(v:Int))]:=by cases r <;> rfl
  rw[e9]at q;refine⟨_,rfl,.ref a,Va,_,_,rfl,KS.ty ho,KS.kit _ (.num 0),_,rfl,xF rfl ⟨_,rfl,_,rfl,xD,fun t ht=>?_⟩⟩;generalize e1:upd H t _=H1;obtain⟨g1,k1⟩:=kR e1 ht;refine⟨iU,fun l hl=>?_⟩;clear 1 l H2 g2 k2 hl;exact q l H2 (g1.trans g2) (g1.free hl) ⟨[t],k2,.cons (g2.tp (SqT.of k1)) .nil⟩
 ·cases r with
  |zero=>exact hc.elim
  |succ r =>
  obtain⟨j,i,a0,b0,hi,rfl,rfl,hce⟩ : ∃(j i:Nat) (a b:PyData),is[j]?=some i/\d=.tuple [.int j,a]/\e=.tuple [.int j,b]/\Rec S r (.nest i) a b:=hc;have eg:is.getD ((j:Int).toNat) 0=i:=by rw[oe,Γ,hi];rfl
  have ef:flv S (r+1) (.pick is) p (.tuple [.int j,a0])=(pj p dB,(j:Int))::flv S r (.nest i) (pj p (kN S i)) a0:=by
   show _::flv S r (.nest (is.getD ((j:Int).toNat) 0)) (pj p (kN S (is.getD ((j:Int).toNat) 0))) a0=_;rw[eg]
  rw[ef]at q;cases hd with
  | @tup ad xs _ hx dts =>
   cases dts with
   |cons hd0 dts =>
    cases dts with
    | @cons x1 _ _ _ hd1 dts =>
     cases dts;cases hd0;cases id ho with
     | @pick a dx t is ss h1 h2 h3 h4 =>
      have hjs:j<ss.length:=by have:=(ε.mp hi).1;omega
      obtain⟨sj,hsj⟩ : ∃s,ss[j]?=some s:=⟨_,ζ hjs⟩;have hsa:=h4 j i _ hi hsj;obtain⟨sh,hs,dx2,t2,ps,k1,_⟩:=hw.at hsa;have hil:i<S.length:=(ε.mp hs).1;obtain⟨n6,nsm⟩:=hW.nms.nm i hil;have hki:=hk i (ι hi);have enm:kN S i=sh.1:=vM hs;have hyl:=bU (p:=p) n6;have htl:=bU (p:=p) (x:=dB) (by decide);have hb1:=bd (p':=pj p (kN S i)) (hsp.pj nsm) (show(Kd.nest i).Rk r by show 2*i+2<=r;omega) hil (dY hce);refine⟨_,rfl,.ref a,Va,_,_,rfl,KS.ty ho,KS.kit _ (.num 0),_,rfl,vE υ ⟨_,rfl,.ref a,Vd,_,_,rfl,KS.ty ho,KS.kit _ (.pick []),_,rfl,xF rfl ⟨_,rfl,ad,_,rfl,hx,rfl,_,_,rfl,_,_,rfl,rfl,?_⟩⟩⟩;refine⟨_,rfl,a,Vd,_,_,_,rfl,h1,Ud.cl,Ud.nd,rfl,_,rfl,t,_,_,_,rfl,rfl,h2,aI hsj,?_⟩;refine⟨_,rfl,p,.str dB,dB,rfl,rfl,(by omega),(by decide),_,rfl,xD,fun t1 ht1=>?_⟩;generalize e1:upd H t1 _=H1;obtain⟨g1,kt1⟩:=kR e1 ht1;refine⟨iU,fun l1 hl1=>?_⟩;clear 1 l1 H2 g2 kl1 hl1;have g12:=g1.trans g2;refine⟨_,rfl,fun y dy hy hdy _=>⟨y,dy,.ref sj,H2,rfl,jP,zZ hy hdy,hy,fun H3 g3 k3=>⟨rfl,?_⟩⟩⟩;have g13:=g12.trans g3;refine⟨_,rfl,_,rfl,sj,Ve,_,_,_,rfl,g13 _ _ k1,Ue.cl,Ue.nd,rfl,p,.str sh.1,sh.1,rfl,rfl,(by omega),(by rw[←enm];omega),_,rfl,?_⟩;rw[←enm];refine⟨y,pj p (kN S i),x1,.nest i,sa,S,a0,b0,r,rfl,rfl,(by omega),hsp.pj nsm,(by show 2*i+2<=r;omega),hil,.nest hsa k3,hw.same g13,hW,hd1.same g13,hce,fun l3 H4 g4 hl3 zq=>?_⟩;obtain⟨us,ku,ur⟩:=zq;have hul:=ur.len;refine⟨l1,l3,_,_,rfl,rfl,(g3.trans g4) _ _ kl1,ku,(by rw[jf,δ,hul];simp;omega),fun l5 hl5=>?_⟩;clear 1 l5 H5 g5 k5 hl5;exact q l5 H5 ((g13.trans g4).trans g5) ((g13.trans g4).free hl5) ⟨t1::us,k5,.cons ((((g2.trans g3).trans g4).trans g5).tp (SqT.of kt1)) (ur.same g5)⟩
theorem aLs(F:Fun K "flat" "flat" aBx f fd)(bc:j4 "is_record" (uP (j7 0) K r))(bo:j4 "flat_under" (aEr (j7 0) K (r+1)))(ac:j5 cIv (oY Vb "shape")):j0 ["shape","record"] (aOn (j7 0) K r):=by
 w_cond aNm;obtain⟨s,x,i,sa,S,d,e,rfl,e0,hi,h8,hw,hW,hd,hc,q⟩:=h;refine⟨_,(jD (jX (vH (kK (jF bc hr (jA (pv 0) (jA (pv 1) jB))))) (jC vL) jL) (jC (jI (jF bo hr (jA (xW Ub ac hr0 rfl qT (jA (pv 0) jB)) (jA jO (jA (pv 1) jB))))))),?_⟩;have hil:i<S.length:=by rw[←hw.1];exact(ε.mp e0).1
 refine⟨_,rfl,_,rfl,s,x,i,sa,S,d,e,rfl,e0,hi,hw,hW,hd,hc,fun H1 g1=>⟨_,rfl,jQ ⟨_,rfl,fun y dx hy hdx _=>⟨y,dx,.ref s,H1,rfl,jP,zZ hy hdx,hy,fun H2 g2 k2=>⟨rfl,_,rfl,?_⟩⟩⟩⟩⟩;have g12:=g1.trans g2;exact⟨y,Str.empty,x,.nest i,sa,S,d,e,r,rfl,rfl,(by show 0+8*(r+1)<=200;omega),rfl,hi,hil,.nest e0 k2,hw.same g12,hW,hd.same g12,hc,fun l H3 g3 hl u=>q l H3 (g12.trans g3) (g12.free hl) u⟩
theorem aHj(F:Fun K "is_row" "is_row" nU f fd)(cm:j4 "is_whole" spW1):j0 ["thing"] (aJd K):=by
 w_cond aGy;obtain⟨t,p,v,rfl,ht,q⟩:=h;refine⟨_,(jC (jI (vZ (jG kJ rfl M.isinstance ii (jA (pv 0) (jA (kT (v:=.ty "tuple") rfl M.tuple qw rfl) jB))) (vZ (qY qQ (jG jW rfl M.len je (jA (pv 0) jB)) jE (vW _)) (vZ (jG kJ rfl M.isinstance ii (jA (jK jY (pv 0) jE) (jA (kT (v:=.ty "str") rfl M.str boot_str rfl) jB))) (xZ (jF cm hr (jA (jK jY (pv 0) jE) jB)))))))),?_⟩;exact⟨_,rfl,.ref t,_,"tuple",rfl,by decide,.inl (.inr ⟨rfl,_,ht⟩),_,rfl,kZ ⟨_,rfl,t,_,rfl,.inr ht,rfl,_,rfl,xF rfl ⟨_,rfl,t,_,_,_,rfl,rfl,ht,rfl,.str p,_,"str",rfl,by decide,.inl rfl,_,rfl,kZ ⟨_,rfl,t,_,_,_,rfl,rfl,ht,rfl,v,rfl,q⟩⟩⟩⟩
theorem oR{k:Nat}(F:Fun K "number_from" "number_from" aX f fd):j0 ["path","bound","rows","at"] (aKs K):=by
 w_cond nS;obtain⟨p,b,rl,i,ds,v,rfl,hr',hn,q⟩:=h;refine⟨_,(jD (jX (PW.pt (yP (kF op_ge (pv 3) (jG jW rfl M.len je (jA (pv 2) jB))) (yP (kF eR (jK jY (jK jU (pv 2) (pv 3)) jE) (pv 0)) (yH (vH (oH eO aDw jE (jK jY (jK jU (pv 2) (pv 3)) jE) (pv 1))))))) (jC vL) jL) (jC (jI (jK jY (jK jU (pv 2) (pv 3)) jE)))),?_⟩;have hi:i<ds.length:=by
  by_cases hi:i<ds.length
  ·exact hi
  ·rw[xy (by omega)]at hn;cases hn
 obtain⟨xs,t,p0,v0,hx,lx,hxi,ht,ed⟩:=hr'.row hi;obtain⟨z1,z2,r,z3⟩:=aFi hn;rw[ed]at z3;injection z3 with z3 _;injection z3 with z3;injection z3 with z3 z4;injection z3 with z3;injection z4 with z4 _;injection z4 with z4;subst z3 z4;exact⟨_,rfl,_,rfl,rl,xs,rfl,.inl hx,_,_,rfl,rfl,_,rfl,vE (by rw[lx];simp;omega) ⟨_,rfl,_,rfl,rl,xs,i,_,rfl,rfl,hx,qR hxi,t,_,_,_,rfl,rfl,ht,rfl,_,rfl,rfl,_,rfl,vE (by simp) ⟨_,rfl,_,rfl,rl,xs,i,_,rfl,rfl,hx,qR hxi,t,_,_,_,rfl,rfl,ht,rfl,_,_,rfl,rfl,_,rfl,xF (by simpa using z1) ⟨_,rfl,_,_,rfl,rfl,_,rfl,vE (by simpa using z2) ⟨_,rfl,_,rfl,rl,xs,i,_,rfl,rfl,hx,qR hxi,t,_,_,_,rfl,rfl,ht,rfl,q⟩⟩⟩⟩⟩
theorem wD(F:Fun K "gathered" "gathered" fN f fd)(KS:KdS K (j7 0))(am:∀C sp,aCn (j7 0) K C sp->yN P w K mg base CX0 k "parted" C sp):j0 ["kind","values"] (aHs (j7 0) K):=by
 w_cond wI;obtain⟨a,vl,kd,sa,S,xs,ds,fs,rfl,hpd,hf,ho,hw,hW,hv,htr,nvl,hl,q⟩:=h;refine⟨_,(jD (jX (kK (jG (xP (K:=K) rfl) rfl M.isinstance ii (jA (pv 0) (jA (qM (v:=.ref Vc) rfl Uc.m rfl) jB)))) (jC (jI (pv 1))) jL) (jC (jI (oU ["name","inner","value"] [] [] rfl (aNd rfl M.zip (jA (xI (pv 0) am hr qT) (jA (pv 1) jB))) rfl trivial trivial (fun _ _ _ _=>(xV (K:=K) (n:=2) rfl rfl (jS (xV (K:=K) (n:=2) rfl rfl (jS (qC rfl) (jS (aM rfl) qK))) (jS (mU (i:=2) (show List.Nodup (["name","inner","value"]:List Str) from by ac_rfl) rfl (Or.inl rfl)) qK)))) (fun _ _ _ _=>kP) (fun _ _ _ _=>(pv 0)) (fun _ _ _ _=>(pv 2)))))),?_⟩;rcases id hpd with⟨i,rfl⟩|⟨n,k,rfl⟩
 ·refine⟨_,rfl,.ref a,Vc,_,_,rfl,KS.ty ho,KS.kit _ (.many 0 (.num 0)),_,rfl,vE υ ?_⟩;refine⟨false,false,_,rfl,oK (pH (by simp)) hpd hf ho hw hW.good fun l2 H2 g2 hl2 zq=>?_⟩;obtain⟨tt,k2,zl,pr⟩:=zq;have kv2:=g2 _ _ hv;have lx:xs.length=ds.length:=htr.len;have zx:xs.length=(tt.map V.ref).length:=by rw[δ,lx,zl,hl]
  have e0:(((Kd.nest i).parts S).map (·.1)).length=xs.length:=by rw[δ,lx,hl]
  refine⟨_,rfl,l2,vl,_,_,rfl,SqL.of k2,SqL.of kv2,aCf (fun D j zs H'=>jJ H2 H'/\H2 D=none/\H' D=some (.dK zs)/\zs=kz ((((Kd.nest i).parts S).map (·.1)).take j) (xs.take j)) zx (fun D hD=>⟨(jJ.refl H2).putn hD,hD,jP,rfl⟩) (fun D j zs H' _ z=>⟨z.1.seq (SqL.of k2),z.1.seq (SqL.of kv2)⟩) (fun D j x y zs H' p os ho' hx hy z hp=>?_) (fun D zs H' z=>?_)⟩
  ·obtain⟨g,hD,kD,rfl⟩:=z;obtain⟨t,ht,rfl⟩:=qJ hx;obtain⟨y',kd',kk,hps,hq,hko⟩:=pr _ _ ht;obtain⟨o1,o2,o3,rfl⟩:=len3 ho';clear 1 p H3 g3 k3 hp;have nk:(((Kd.nest i).parts S).map (·.1))[j]?=some y':=by rw[ig,hps];rfl
   refine⟨p,_,rfl,SqT.of k3,rfl,_,_,rfl,t,_,rfl,(g.trans g3).tp hq,rfl,?_⟩;refine⟨_,_,rfl,_,_,rfl,rfl,_,_,rfl,rfl,_,rfl,_,rfl,.inr y',rfl,g3 _ _ kD,?_,⟨(g.trans g3).putn hD,hD,jP,aPm (hW.pnd hf i rfl) e0 nk hy⟩,[_,_,_],rfl,rfl⟩;have h6:=(xE hW.good hpd hf).2;rw[xS (by rw[Θ,Θ,e0]),Θ,δ];exact li (ip (yl _ _) h6) (by decide)
  ·obtain⟨g,hD,kD,rfl⟩:=z;rw[←zx,jZ,←e0,jZ]at kD;have hD0:=g2.free hD;refine q (.ref D) D H' (g2.trans g) ?_ (.inr hD0);show Tr true K H' (.ref D) (.dict (eJ ((Kd.nest i).parts S) ds)) (D::fs);rw[yM];exact .dct kD e0 (htr.same (g2.trans g)) (htr.mu.not hD0)
 ·exact⟨_,rfl,.ref a,Vc,_,_,rfl,KS.ty ho,KS.kit _ (.many 0 (.num 0)),_,rfl,xF rfl ⟨_,rfl,q _ vl H (jJ.refl _) (.lst hv htr nvl) (.inl rfl)⟩⟩
theorem aAo(F:Fun K "blank_of" "blank_of" fY f fd)(KS:KdS K (j7 0))(am:∀C sp,aCn (j7 0) K C sp->yN P w K mg base CX0 k "parted" C sp)(cp:j4 "gathered" (aHs (j7 0) K))(ci:j4 "blank" (aEu (j7 0) K r))(cq:j4 "blank_of" (aEv (j7 0) K r)):j0 ["kind"] (aEv (j7 0) K (r+1)):=by
 w_cond aBg;obtain⟨a,kd,sa,S,r0,er,rfl,hk,hf,ho,hw,hW,q⟩:=h;cases er;refine⟨_,(jD (jX (kK (jG (xP (K:=K) rfl) rfl M.isinstance ii (jA (pv 0) (jA (qM (v:=.ref Va) rfl Ua.m rfl) jB)))) (jC (jI jE)) jL) (jD (jX (kK (jG (xP (K:=K) rfl) rfl M.isinstance ii (jA (pv 0) (jA (qM (v:=.ref Vd) rfl Ud.m rfl) jB)))) (jC (jI (kW (jA jE (jA (jF ci hr (jA (jK jY (qF (pv 0) rfl) jE) jB)) jB))))) jL) (jC (jI (jF cp hr (jA (pv 0) (jA (kQ ["step","inner"] [] [] rfl (kU (xI (pv 0) am hr qT)) rfl trivial trivial (fun _ _ _ _=>(xV (K:=K) (n:=2) rfl rfl (jS (qC rfl) (jS (aM rfl) qK)))) (fun _ _ _ _=>kP) (fun _ _ _ _=>(jF cq hr (jA (pv 1) jB)))) jB))))))),?_⟩;rcases Kd.three kd with hpd|⟨w,rfl⟩|⟨is,rfl⟩
 ·obtain⟨n1,n2⟩:=Kd.Pd.sam hpd;cases r with
  |zero=>exact(nQ hpd hk).elim
  |succ r =>
  rw[aNw hpd]at q;refine⟨_,rfl,.ref a,Va,_,_,rfl,KS.ty ho,KS.kit _ (.num 0),_,rfl,vE (by rw[n1];decide) ⟨_,rfl,.ref a,Vd,_,_,rfl,KS.ty ho,KS.kit _ (.pick []),_,rfl,vE (by rw[n2];decide) ⟨_,rfl,_,rfl,oK (pH (by simp)) hpd hf ho hw hW.good fun l2 H2 g2 hl2 zq=>?_⟩⟩⟩;obtain⟨tt,k2,zl,pr⟩:=zq;have few:=(xE hW.good hpd hf).2;refine⟨l2,rfl,⟨_,SqL.of k2⟩,bV (xs:=tt.map V.ref) (fun j ys H'=>jJ H2 H'/\∃fs,Trs true K H' ys (((kd.parts S).take j).map fun f=>blD S r f.2) fs/\New H2 fs) ⟨jJ.refl _,[],.nil,fun b hb=>by cases hb⟩ (fun j ys H' _ z=>⟨z.1.seq (SqL.of k2),?_⟩) (kI (by rw[δ];omega)) (fun j x ys H' os ho' hx z=>?_) (fun ys H' z p hp=>?_)⟩
  ·obtain⟨_,fs,h1,_⟩:=z;rw[h1.len,δ];exact wq _ _
  ·obtain⟨g,fs,htr,hnew⟩:=z;obtain⟨o1,o2,rfl⟩:=rN ho';obtain⟨t,ht,rfl⟩:=qJ hx;obtain⟨y,kd',kk,hps,hq,hko⟩:=pr _ _ ht;obtain⟨p1,p2,_⟩:=Kd.parts_ok hW.good hf hk (ι hps);refine⟨t,_,rfl,g.tp hq,rfl,_,_,rfl,_,_,rfl,rfl,_,rfl,kk,kd',sa,S,r,rfl,rfl,p1,p2,hko.same g,hw.same (g2.trans g),hW,fun v gs H3 g3 hn3 h3=>⟨⟨g.trans g3,fs++gs,?_,hnew.app (hn3.back g)⟩,[_,_],rfl,rfl⟩⟩;rw[qO hps];exact Trs.snoc h3 (htr.same g3) (hn3.dis htr.mu)
  ·obtain⟨g,fs,htr,hnew⟩:=z;rw[δ,zl,jZ]at htr;clear 1 p H3 g3 k3 hp;have g13:=(g2.trans g).trans g3;exact⟨a,p,kd,sa,S,ys,_,fs,rfl,hpd,hf,ho.same g13,hw.same g13,hW,k3,htr.same g3,htr.mu.not hp,(by rw[δ]),fun v b H4 g4 h4 hb=>q v (b::fs) H4 (g13.trans g4) (New.cons (hb.elim (fun z=>by rw[z];exact(g2.trans g).free hp) fun z=>g13.free z) (hnew.back g2)) h4⟩
 ·have e:blD S r (.num w)=.int (0:Nat):=by cases r <;> rfl
  rw[e]at q;exact⟨_,rfl,.ref a,Va,_,_,rfl,KS.ty ho,KS.kit _ (.num 0),_,rfl,xF rfl (q (.int (0:Nat)) [] H (jJ.refl _) (fun b hb=>by cases hb) (.int _))⟩
 ·cases r with
  |zero=>exact(qa _ (hk _ (ju (show 0<is.length by have:=hf.1;omega)))).elim
  |succ r =>
  have h0 : 0<is.length:=by have:=hf.1;omega
  have hi:is[0]?=some is[0]:=ζ h0;have eg:is.getD 0 0=is[0]:=by rw[Γ,hi];rfl
  have eb:blD S (r+1) (.pick is)=.tuple [.int (0:Nat),blD S r (.nest is[0])]:=by
   show PyData.tuple [.int (0:Nat),blD S r (.nest (is.getD 0 0))]=_;rw[eg]
  rw[eb]at q;have hki:=hk _ (ι hi);cases id ho with
  | @pick a dx t is ss h1 h2 h3 h4 =>
   obtain⟨sj,hsj⟩ : ∃s,ss[0]?=some s:=⟨_,ζ (by omega)⟩;have hsa:=h4 0 _ _ hi hsj;refine⟨_,rfl,.ref a,Va,_,_,rfl,KS.ty ho,KS.kit _ (.num 0),_,rfl,vE υ ⟨_,rfl,.ref a,Vd,_,_,rfl,KS.ty ho,KS.kit _ (.pick []),_,rfl,xF rfl ⟨_,rfl,a,Vd,_,_,_,rfl,h1,Ud.cl,Ud.nd,rfl,t,_,_,_,rfl,rfl,h2,aI (i:=0) hsj,sj,is[0],sa,S,r,rfl,rfl,hsa,(by omega),hw,hW,fun v fs H3 g3 hn3 h3=>⟨xD,fun t5 ht5=>?_⟩⟩⟩⟩;clear 1 t5 H5 g5 k5 ht5;exact q (.ref t5) fs H5 (g3.trans g5) hn3 (.tup (SqT.of k5) (h3.same g5))
theorem aKp{r:Nat}(F:Fun K "blank" "blank" uC f fd)(ac:j5 cIv (oY Vb "shape"))(cq:j4 "blank_of" (aEv (j7 0) K (r+1))):j0 ["shape"] (aEu (j7 0) K (r+1)):=by
 w_cond aIv;obtain⟨s,i,sa,S,r0,er,rfl,e0,hi,hw,hW,q⟩:=h;cases er;refine⟨_,(jC (jI (jF cq hr (jA (xW Ub ac hr0 rfl qT (jA (pv 0) jB)) jB)))),?_⟩;have hil:i<S.length:=by rw[←hw.1];exact(ε.mp e0).1
 exact⟨_,rfl,fun y dx hy hdx _=>⟨y,dx,.ref s,H,rfl,jP,zZ hy hdx,hy,fun H1 g1 k1=>⟨rfl,y,.nest i,sa,S,r,rfl,rfl,hi,hil,.nest e0 k1,hw.same g1,hW,fun v fs H2 g2 hn h2=>q v fs H2 (g1.trans g2) (hn.back g1) h2⟩⟩⟩
theorem aHp(F:Fun K "copied" "copied" pA f fd)(aq:j4 "copied" (aFd K r)):j0 ["record"] (aFd K (r+1)):=by
 w_cond aHc;obtain⟨x,e,fs,r0,er,rfl,ht,hx,q⟩:=h;cases er;refine⟨_,(jD (jX (kK (jG kJ rfl M.isinstance ii (jA (pv 0) (jA (kT (v:=.ty "dict") rfl M.dict boot_dict rfl) jB)))) (jC (jI (aEa (oU ["name"] ["record"] [0] rfl (aMa (pv 0)) rfl ⟨rfl,trivial⟩ ⟨⟨rfl,rfl,rfl,_,rfl⟩,trivial⟩ (fun _ _ _ _=>(qC rfl)) (fun _ _ _ _=>kP) (fun _ _ _ _=>(pv 0)) (fun _ _ _ _=>(jF aq hr (jA (yB hr.units1 (pv 1) (pv 0) (fun _ _=>rfl)) jB))))))) jL) (jD (jX (kK (jG kJ rfl M.isinstance ii (jA (pv 0) (jA (kT (v:=.ty "list") rfl M.list qh rfl) jB)))) (jC (jI (kQ ["item"] [] [] rfl (kU (pv 0)) rfl trivial trivial (fun _ _ _ _=>(qC rfl)) (fun _ _ _ _=>kP) (fun _ _ _ _=>(jF aq hr (jA (pv 0) jB)))))) jL) (jD (jX (kK (jG kJ rfl M.isinstance ii (jA (pv 0) (jA (kT (v:=.ty "tuple") rfl M.tuple qw rfl) jB)))) (jC (jI (kY yK rfl M.tuple qw (jA (kQ ["item"] [] [] rfl (dN (pv 0)) rfl trivial trivial (fun _ _ _ _=>(qC rfl)) (fun _ _ _ _=>kP) (fun _ _ _ _=>(jF aq hr (jA (pv 0) jB)))) jB)))) jL) (jC (jI (pv 0)))))),?_⟩;cases hx with
 |int i=>exact⟨_,rfl,.int i,_,"int",rfl,by decide,.inl rfl,_,rfl,jQ ⟨_,rfl,.int i,_,"int",rfl,by decide,.inl rfl,_,rfl,jQ ⟨_,rfl,.int i,_,"int",rfl,by decide,.inl rfl,_,rfl,jQ ⟨_,rfl,q _ [] H (jJ.refl _) (fun b hb=>by cases hb) (.int i)⟩⟩⟩⟩
 | @lst a xs ds fs h t n =>
  cases r with
  |zero=>exact ht.elim
  |succ r =>
  obtain⟨_,few,hts⟩:=ht;have lx:=t.len;refine⟨_,rfl,.ref a,_,"list",rfl,by decide,.inl (.inl ⟨rfl,_,SqL.of h⟩),_,rfl,jQ ⟨_,rfl,.ref a,_,"list",rfl,by decide,.inl (.inl ⟨rfl,_,SqL.of h⟩),_,rfl,kZ ⟨_,rfl,a,rfl,⟨_,SqL.of h⟩,vO (xs:=xs) (fun j ys H'=>jJ H H'/\∃gs,Trs true K H' ys (ds.take j) gs/\New H gs) ⟨jJ.refl _,[],.nil,fun b hb=>by cases hb⟩ (fun j ys H' _ z=>⟨SqL.of (z.1 _ _ h),?_⟩) (kI (by omega)) (fun j x ys H' hx z=>?_) (fun ys H' z p hp=>?_)⟩⟩⟩
  ·obtain⟨_,gs,h1,_⟩:=z;rw[h1.len];exact wq _ _
  ·obtain⟨g,gs,htr,hnew⟩:=z;obtain⟨d,g1,hd,hxd,_⟩:=t.at hx;refine⟨_,rfl,x,d,g1,r,rfl,rfl,hts d (ι hd),hxd.same g,fun v g3 H3 s3 hn3 h3=>⟨⟨g.trans s3,gs++g3,?_,hnew.app (hn3.back g)⟩,_,rfl⟩⟩;rw[iw,hd];exact Trs.snoc h3 (htr.same s3) (hn3.dis htr.mu)
  ·obtain⟨g,gs,htr,hnew⟩:=z;rw[lx,jZ]at htr;clear 1 p H3 g3 k3 hp;exact q (.ref p) (p::gs) H3 (g.trans g3) (New.cons (g.free hp) hnew) (.lst k3 (htr.same g3) (htr.mu.not hp))
 | @tup a i x1 d fs h t =>
  cases r with
  |zero=>exact ht.elim
  |succ r =>
  have ht':Tre r d:=ht.1;refine⟨_,rfl,.ref a,_,"tuple",rfl,by decide,.inl (.inr ⟨rfl,_,h⟩),_,rfl,jQ ⟨_,rfl,.ref a,_,"tuple",rfl,by decide,.inl (.inr ⟨rfl,_,h⟩),_,rfl,jQ ⟨_,rfl,.ref a,_,"tuple",rfl,by decide,.inl (.inr ⟨rfl,_,h⟩),_,rfl,kZ ⟨_,rfl,a,rfl,⟨_,h⟩,nE (xs:=[.int i,x1]) (fun j ys H'=>jJ H H'/\∃gs,Trs true K H' ys ([.int i,d].take j) gs/\New H gs) ⟨jJ.refl _,[],.nil,fun b hb=>by cases hb⟩ (fun j ys H' _ z=>⟨z.1.tp h,?_⟩) (by show 2<ψ;decide) (fun j x ys H' hx z=>?_) (fun ys H' z p hp=>?_)⟩⟩⟩⟩
  ·obtain⟨_,gs,h1,_⟩:=z;rw[h1.len];exact wq _ _
  ·obtain⟨g,gs,htr,hnew⟩:=z;obtain⟨d1,g1,hd,hx1,hr1⟩ : ∃d1 g1,[.int i,d][j]?=some d1/\Tr false K H x d1 g1/\Tre r d1:=by
    match j,hx with
    |0,hx=>cases hx;exact⟨_,[],rfl,.int i,uU⟩
    |1,hx=>cases hx;exact⟨_,_,rfl,t,ht'⟩
    |j+2,hx=>cases hx
   refine⟨_,rfl,x,d1,g1,r,rfl,rfl,hr1,hx1.same g,fun v g3 H3 s3 hn3 h3=>⟨⟨g.trans s3,gs++g3,?_,hnew.app (hn3.back g)⟩,_,rfl⟩⟩;rw[iw,hd];exact Trs.snoc h3 (htr.same s3) (hn3.dis htr.mu)
  ·obtain⟨g,gs,htr,hnew⟩:=z;clear 1 p H3 g3 k3 hp;refine⟨p,ys,rfl,.inl ⟨SqL.of k3,fun t5 ht5=>?_⟩⟩;clear 1 t5 H5 g5 k5 ht5;cases htr with
   |cons q1 htr=>cases htr with
    |cons q2 htr=>cases htr with
     |nil =>
      cases q1;rw[List.nil_append,jy]at hnew;exact q (.ref t5) _ H5 ((g.trans g3).trans g5) hnew (.tup (SqT.of k5) (q2.same (g3.trans g5)))
 | @dct a ks xs ds fs h l t n =>
  cases r with
  |zero=>exact ht.elim
  |succ r =>
  obtain⟨ks',ds',ek,l',nd,few,hts⟩:=ht;have lx:=t.len;obtain⟨rfl,rfl⟩:=zG (l.trans lx) l' ek;refine⟨_,rfl,.ref a,_,"dict",rfl,by decide,.inr ⟨rfl,a,_,rfl,h⟩,_,rfl,kZ ⟨_,rfl,a,_,rfl,h,fun o=>?_⟩⟩;generalize e1:upd H a _=H1;obtain⟨b1,k1⟩:=vD e1;have kl:(kz ks xs).length=ks.length:=xS l;refine aCe (fun D j ys H'=>∃(vs:List V) (gs:List Addr),ys=kz (ks.take j) vs/\vs.length=j/\jJ H1 H'/\H1 D=none/\H' D=some (.dK ys)/\Trs true K H' vs (ds.take j) gs/\New H1 gs/\D∉gs) (fun D hD=>⟨[],[],rfl,rfl,(jJ.refl H1).putn hD,hD,jP,.nil,(fun b hb=>by cases hb),fun hb=>by cases hb⟩) (fun D j ys H' _ z=>?_) (fun D j kv ys H' hkv z=>?_) (fun D ys H' z=>?_)
  ·obtain⟨vs,gs,_,_,g,_⟩:=z;exact g _ _ k1
  ·obtain⟨vs,gs,rfl,hvl,g,hD,kD,htr,hnew,nD⟩:=z;obtain⟨key,x⟩:=kv;obtain⟨hx,y,hy,rfl⟩:=L2.zip_get hkv;obtain⟨d,g1,hd,hxd,hsub⟩:=t.at hx;have na:a∉g1:=fun z=>n (hsub a z);have hx1:Tr false K H1 x d g1:=by rw[←e1];exact hxd.put na (.inr ⟨_,h⟩)
   have hj:j<ks.length:=(ε.mp hy).1;refine⟨_,rfl,_,rfl,_,rfl,a,x,rfl,.inl ⟨_,.inr y,.inr ⟨o,g _ _ k1⟩,rfl,(gO nd l hy hx).symm⟩,x,d,g1,r,rfl,rfl,hts d (ι hd),hx1.same g,fun v g3 H3 s3 hn3 h3=>?_⟩;have kD3:=s3 _ _ kD;have nD3:D∉g3:=fun z=>by have:=hn3 D z;rw[kD]at this;cases this
   refine⟨.inr y,rfl,kD3,?_,⟨vs++[v],gs++g3,aCj nd hvl hy,(by rw[θ,hvl];rfl),(g.trans s3).putn hD,hD,jP,?_,hnew.app (hn3.back g),fun z=>(ji.mp z).elim nD nD3⟩,_,rfl⟩
   ·rw[xS (by rw[Θ,hvl];omega),Θ];exact li (ip (yl _ _) few) (by decide)
   ·rw[iw,hd];exact(Trs.snoc h3 (htr.same s3) (hn3.dis htr.mu)).put (fun z=>(ji.mp z).elim nD nD3) (.inr ⟨_,kD3⟩)
  ·obtain⟨vs,gs,rfl,hvl,g,hD,kD,htr,hnew,nD⟩:=z;rw[kl,jZ]at kD;rw[kl,show ks.length=ds.length from l.trans lx,jZ]at htr;refine .inr ⟨a,o,_,g _ _ k1,(fun o' u' z=>by have z':H a=some (.frz o' u'):=z;rw[h]at z';cases z'),?_⟩;have naD:D≠a:=fun z=>by rw[z,k1]at hD;cases hD
   have nag:a∉gs:=fun z=>by have:=hnew a z;rw[k1]at this;cases this
   clear 0 a H5 b5 k5;have hH:jJ H H5:=fun b u e=>by
    by_cases z:b=a
    ·subst z;rw[h]at e;cases e;exact k5
    ·exact b5 _ _ z (g _ _ (b1 _ _ z e))
   have htr5:Trs true K H5 vs ds gs:=htr.frN (H:=H') (H':=H5) (ms:=[a]) (fun b u nb e=>b5 _ _ (fun z=>nb (by rw[z];exact ο.mpr rfl)) e) (fun b hb=>by rw[ο.mp hb];have:=g _ _ k1;exact⟨(fun _ z=>by rw[this]at z;cases z),(fun _ _ z=>by rw[this]at z;cases z)⟩) fun b hb z=>nag (by rw[←ο.mp z];exact hb);refine q (.ref D) (D::gs) H5 hH (New.cons ?_ fun b hb=>?_) (.dct (b5 _ _ naD kD) (by rw[hvl];exact kl.symm) htr5 nD)
   ·exact b1.none k1 hD
   ·exact b1.none k1 (hnew b hb)
theorem pV(F:Fun K "value_from" "value_from" bK f fd)(KS:KdS K (j7 0))(cr:j4 "number_from" (aKs K))(ck:j4 "bound_of" spBd)(af:j4 "joined" dE)(ac:j5 cIv (oY Vb "shape"))(am:∀C sp,aCn (j7 0) K C sp->yN P w K mg base CX0 k "parted" C sp)(cp:j4 "gathered" (aHs (j7 0) K))(bp:j4 "value_from" (aEc (j7 0) K r)):j0 ["kind","path","rows","at"] (aEc (j7 0) K (r+1)):=by
 w_cond qH;obtain⟨a,p,rl,i,kd,sa,S,ds,r0,d,m,er,rfl,hp,hk,hf,ho,hw,hW,hrw,hrd0,q⟩:=h;cases er;refine⟨_,(jD (jX (kK (jG (xP (K:=K) rfl) rfl M.isinstance ii (jA (pv 0) (jA (qM (v:=.ref Va) rfl Ua.m rfl) jB)))) (jC (jI (kW (jA (jF cr hr (jA (pv 1) (jA (jF ck hr (jA (qF (pv 0) rfl) jB)) (jA (pv 2) (jA (pv 3) jB))))) (jA (jV qG (pv 3) jE) jB))))) jL) (jD (jX (kK (jG (xP (K:=K) rfl) rfl M.isinstance ii (jA (pv 0) (jA (qM (v:=.ref Vd) rfl Ud.m rfl) jB)))) (jD (jR 4 qH.nd (jF cr hr (jA (jF af hr (jA (pv 1) (jA jO jB))) (jA (jG jW rfl M.len je (jA (qF (pv 0) rfl) jB)) (jA (pv 2) (jA (pv 3) jB)))))) (jD (jR 5 qH.nd (jK jY (qF (pv 0) rfl) (pv 4))) (jD (cF (jF bp hr (jA (xW Ub ac hr0 rfl qT (jA (pv 5) jB)) (jA (jF af hr (jA (pv 1) (jA (qF (pv 5) rfl) jB))) (jA (pv 2) (jA (jV qG (pv 3) jE) jB))))) (xQ rfl (jS (kS 6 qH.nd) (jS (kS 7 qH.nd) qK)))) (jC (jI (kW (jA (kW (jA (pv 4) (jA (pv 6) jB))) (jA (pv 7) jB)))))))) jL) (jD (jR 8 qH.nd (qE jB)) (jD (jR 7 qH.nd (pv 3)) (jD (vF jo rfl (kU (xI (pv 0) am hr qT)) (xQ rfl (jS (kS 9 qH.nd) (jS (kS 10 qH.nd) qK))) (jD (cF (jF bp hr (jA (pv 10) (jA (jF af hr (jA (pv 1) (jA (pv 9) jB))) (jA (pv 2) (jA (pv 7) jB))))) (xQ rfl (jS (kS 11 qH.nd) (jS (kS 7 qH.nd) qK)))) (jC (qX (aD lh pe ph zI (pv 8) (jA (pv 11) jB)))))) (jC (jI (kW (jA (jF cp hr (jA (pv 0) (jA (pv 8) jB))) (jA (pv 7) jB)))))))))),?_⟩;rcases Kd.three kd with hpd|⟨w,rfl⟩|⟨is,rfl⟩
 ·obtain⟨n1,n2⟩:=Kd.Pd.sam hpd;refine⟨_,rfl,.ref a,Va,_,_,rfl,KS.ty ho,KS.kit _ (.num 0),_,rfl,vE (by rw[n1];decide) ⟨_,rfl,.ref a,Vd,_,_,rfl,KS.ty ho,KS.kit _ (.pick []),_,rfl,vE (by rw[n2];decide) ⟨cZ,fun l hl=>?_⟩⟩⟩;cases r with
  |zero=>exact(nQ hpd hk).elim
  |succ r =>
  rw[aHr hpd]at hrd0;obtain⟨⟨es0,m0⟩,hrd,e0⟩:=kc.mp hrd0;cases e0;clear 1 l H1 g1 k1 hl;have few:=(xE hW.good hpd hf).2;refine⟨_,rfl,_,rfl,oK (pH (by simp)) hpd hf (ho.same g1) (hw.same g1) hW.good fun l2 H2 g2 hl2 zq=>?_⟩;obtain⟨tt,k2,zl,pr⟩:=zq;have kl2:=g2 _ _ k1;have n2:l2≠l:=lm (jN k1 hl2);have g12:=g1.trans g2;refine⟨l2,rfl,⟨_,SqL.of k2⟩,qU (xs:=tt.map V.ref) (fun j σ H'=>∃o4 o5 o6 o9 o10 o11 es m zs fs,σ = [some (.ref a),some (.str p),some (.ref rl),some (.int i),o4,o5,o6,some (.int ((i+m:Nat):Int)),some (.ref l),o9,o10,o11]/\But l H2 H'/\H' l=some (.lst zs)/\Trs true K H' zs es fs/\New H2 fs/\l∉fs/\rdL (rdv S r) ((kd.parts S).take j) p (ds.drop i)=some (es,m)) ⟨_,_,_,_,_,_,[],0,[],[],rfl,But.refl,kl2,.nil,(fun b hb=>by cases hb),(fun hb=>by cases hb),rfl⟩ (fun j σ H' _ z=>?_) (fun j x' σ H' hx z=>?_) (fun σ H' z=>?_)⟩
  ·obtain⟨o4,o5,o6,o9,o10,o11,es,m,zs,fs,rfl,g,_⟩:=z;exact SqL.of (g _ _ n2 k2)
  ·obtain⟨o4,o5,o6,o9,o10,o11,es,m,zs,fs,rfl,g,kl,htr,hnew,nl,hrj⟩:=z;obtain⟨t,ht,rfl⟩:=qJ hx;obtain⟨y,kd',kk,hps,hq,hko⟩:=pr _ _ ht;have gH:jJ H H':=But.from g12 hl g;obtain⟨p1,p2,p3,p4⟩:=Kd.parts_ok hW.good hf hk (ι hps);have p4':y.length<=6:=p4;have hyl:=bU (p:=p) p4';have hjl:j<=(kd.parts S).length:=ql (ε.mp hps).1;obtain⟨es',m9,hr9,hnx⟩:=aPb hrd hjl;rw[hrj]at hr9;cases hr9;obtain⟨d',m',hrv⟩:=hnx _ hps;obtain⟨_,nx2⟩:=aKw hps hrj;have edr:ds.drop (i+m)=(ds.drop i).drop m:=by rw[List.drop_drop]
   have hzl:zs.length<=6:=by have h1:=htr.len;have h2:=tU hrj;rw[Θ]at h2;omega
   refine⟨t,_,rfl,g.tup kl2 hq,rfl,_,_,rfl,_,_,rfl,rfl,_,rfl,_,rfl,_,rfl,p,_,y,rfl,aBy hf hps,(by omega),(by omega),_,rfl,_,rfl,kk,pj p y,rl,i+m,kd',sa,S,ds,r,d',m',rfl,rfl,(by omega),p1,p2,hko.but g kl2,hw.same gH,hW,hrw.same gH,(by rw[edr];exact hrv),fun t' v g5 H3 g3 ht' hdv hn5=>?_⟩;have kl3:=g3 _ _ kl;refine⟨t',_,rfl,ht',rfl,_,_,rfl,_,_,rfl,rfl,_,rfl,.inl ⟨rfl,_,SqL.of kl3⟩,_,rfl,l,_,_,rfl,rfl,kl3,li hzl (by decide),?_⟩;generalize e4:upd H3 l _=H4;obtain⟨g4,k4⟩:=vD e4;have nl5:l∉g5:=fun z=>by have:=hn5 l z;rw[kl]at this;cases this
   have nl':l∉fs++g5:=fun z=>(ji.mp z).elim nl nl5;have htr4:Trs true K H4 (zs++[v]) (es++[d']) (fs++g5):=by rw[←e4];exact(Trs.snoc hdv (htr.same g3) (hn5.dis htr.mu)).put nl' (.inl ⟨_,kl3⟩)
   refine⟨o4,o5,o6,some (stV kd j y),some (.ref kk),some v,es++[d'],m+m',zs++[v],fs++g5,?_,(g.trans (But.of g3)).trans g4,k4,htr4,hnew.app fun b hb=>g.none kl (hn5 b hb),nl',nx2 d' m' hrv⟩;rw[show i+(m+m')=i+m+m' by omega];rfl
  ·obtain⟨o4,o5,o6,o9,o10,o11,es,m,zs,fs,rfl,g,kl,htr,hnew,nl,hrj⟩:=z;rw[δ,zl,jZ,hrd]at hrj;cases hrj;have gH:jJ H H':=But.from g12 hl g;refine⟨_,rfl,_,rfl,a,l,kd,sa,S,zs,_,fs,rfl,hpd,hf,ho.same gH,hw.same gH,hW,kl,htr,nl,(tU hrd).symm,fun v b H5 g5 hdv hb=>⟨_,rfl,xD,fun t ht=>?_⟩⟩;clear 1 t H6 g6 k6 ht;exact q t v (b::fs) H6 ((gH.trans g5).trans g6) (SqT.of k6) (hdv.same g6) (New.cons (hb.elim (fun z=>by rw[z];exact hl) fun z=>gH.free z) (hnew.back g12))
 ·have e:rdv S r (.num w) p (ds.drop i)=(nx p (256 ^ w) (ds.drop i)).map fun v=>(.int v,1):=by cases r <;> rfl
  rw[e]at hrd0;obtain⟨v,hv,e0⟩:=kc.mp hrd0;cases e0;cases id ho with
  |num h1 =>
   refine⟨_,rfl,.ref a,Va,_,_,rfl,KS.ty ho,KS.kit _ (.num 0),_,rfl,xF rfl ⟨_,rfl,_,rfl,a,Va,_,_,_,rfl,h1,Ua.cl,Ua.nd,rfl,w,rfl,hf.2,_,rfl,_,rfl,p,_,rl,i,ds,v,rfl,hrw,(by simpa using hv),?_⟩⟩;refine⟨_,rfl,_,_,rfl,rfl,xD,fun t ht=>?_⟩;clear 1 t H1 g1 k1 ht;exact q t (.int v) [] H1 g1 (SqT.of k1) (.int v) (fun b hb=>by cases hb)
 ·cases r with
  |zero=>exact(qa _ (hk _ (ju (show 0<is.length by have:=hf.1;omega)))).elim
  |succ r =>
  cases id ho with
  | @pick a dx t is ss h1 h2 h3 h4 =>
   have htl:=bU (p:=p) (x:=dB) (by decide);have er:rdv S (r+1) (.pick is) p (ds.drop i)=(nx (pj p dB) is.length (ds.drop i)).bind fun j=>(rdv S r (.nest (is.getD j.toNat 0)) (pj p (kN S (is.getD j.toNat 0))) ((ds.drop i).drop 1)).map fun x=>(.tuple [.int j,x.1],1+x.2):=rfl;rw[er]at hrd0;obtain⟨v,hv,hrd1⟩:=Option.bind_eq_some_iff.mp hrd0;obtain⟨⟨d1,m1⟩,hrd2,e0⟩:=kc.mp hrd1;cases e0;refine⟨_,rfl,.ref a,Va,_,_,rfl,KS.ty ho,KS.kit _ (.num 0),_,rfl,vE υ ⟨_,rfl,.ref a,Vd,_,_,rfl,KS.ty ho,KS.kit _ (.pick []),_,rfl,xF rfl ⟨_,rfl,p,.str dB,dB,rfl,rfl,(by omega),(by decide),_,rfl,a,Vd,_,_,_,rfl,h1,Ud.cl,Ud.nd,rfl,t,_,rfl,.inr h2,_,rfl,_,rfl,?_⟩⟩⟩;refine⟨pj p dB,_,rl,i,ds,v,rfl,hrw,(by rw[δ,h3];exact hv),?_⟩;obtain⟨v0,v1,rest,ed⟩:=aFi hv;obtain⟨j,rfl⟩:=Int.eq_ofNat_of_zero_le v0;have hjl:j<is.length:=by exact_mod_cast v1
   obtain⟨i',hi'⟩ : ∃s,is[j]?=some s:=⟨_,ζ hjl⟩;obtain⟨sj,hsj⟩ : ∃s,ss[j]?=some s:=⟨_,ζ (h3 ▸ hjl)⟩;have hsa:=h4 j i' _ hi' hsj;obtain⟨sh,hs,dx2,t2,ps,k1,_⟩:=hw.at hsa;have hil:i'<S.length:=(ε.mp hs).1;obtain⟨n6,nsm⟩:=hW.nms.nm i' hil;have hki:=hk i' (ι hi');have enm:kN S i'=sh.1:=vM hs;have hyl:=bU (p:=p) n6;have eg:is.getD ((j:Int).toNat) 0=i':=by rw[oe,Γ,hi'];rfl
   rw[eg,List.drop_drop]at hrd2;refine⟨_,rfl,a,Vd,_,_,_,rfl,h1,Ud.cl,Ud.nd,rfl,_,rfl,t,_,_,_,rfl,rfl,h2,aI hsj,_,rfl,fun y dy hy hdy _=>⟨y,dy,.ref sj,H,rfl,jP,zZ hy hdy,hy,fun H3 g3 k3=>⟨rfl,?_⟩⟩⟩;refine⟨_,rfl,_,rfl,sj,Ve,_,_,_,rfl,g3 _ _ k1,Ue.cl,Ue.nd,rfl,p,.str sh.1,sh.1,rfl,rfl,(by omega),(by rw[←enm];omega),_,rfl,_,rfl,_,_,rfl,rfl,?_⟩;rw[←enm];refine⟨y,pj p (kN S i'),rl,i+1,.nest i',sa,S,ds,r,d1,m1,rfl,rfl,(by omega),(by show 2*i'+2<=r;omega),hil,.nest hsa k3,hw.same g3,hW,hrw.same g3,hrd2,fun t' v fs H4 g4 ht' hdv hn4=>?_⟩;refine⟨t',_,rfl,ht',rfl,_,_,rfl,_,_,rfl,rfl,_,rfl,_,rfl,xD,fun t5 ht5=>?_⟩;clear 1 t5 H5 g5 k5 ht5;refine⟨_,rfl,xD,fun t6 ht6=>?_⟩;clear 1 t6 H6 g6 k6 ht6;refine q t6 (.ref t5) fs H6 (((g3.trans g4).trans g5).trans g6) ?_ (.tup (SqT.of (g6 _ _ k5)) (hdv.same (g5.trans g6))) (hn4.back g3);rw[show i+(1+m1)=i+1+m1 by omega];exact SqT.of k6
theorem aDi{r:Nat}(F:Fun K "of_flat" "of_flat" iW f fd)(gw:j4 "is_row" (aJd K))(bp:j4 "value_from" (aEc (j7 0) K (r+1)))(ac:j5 cIv (oY Vb "shape")):j0 ["shape","rows"] (aOx (j7 0) K r):=by
 w_cond fA;obtain⟨s,rl,i,sa,S,ds,d,rfl,e0,hi,h8,hw,hW,hrw,hrd,q⟩:=h;refine⟨_,(jD (jX (PW.pt (yP (vH (kK (jG kJ rfl M.isinstance ii (jA (pv 1) (jA (kT (v:=.ty "list") rfl M.list qh rfl) jB))))) (yH (vH (kK (jG (bC rfl) rfl M.all boot_all (jA (kQ ["row"] [] [] rfl (kU (pv 1)) rfl trivial trivial (fun _ _ _ _=>(qC rfl)) (fun _ _ _ _=>kP) (fun _ _ _ _=>(jF gw hr (jA (pv 0) jB)))) jB))))))) (jC vL) jL) (jD (cF (jF bp hr (jA (xW Ub ac hr0 rfl qT (jA (pv 0) jB)) (jA jO (jA (pv 1) (jA jE jB))))) (xQ rfl (jS (kS 2 fA.nd) (jS (kS 3 fA.nd) qK)))) (jD (jX (kF eR (pv 3) (jG jW rfl M.len je (jA (pv 1) jB))) (jC vL) jL) (jC (jI (pv 2)))))),?_⟩;have hil:i<S.length:=by rw[←hw.1];exact(ε.mp e0).1
 obtain⟨⟨xs,hx,hds⟩,hall,few⟩:=id hrw;have lx:=hds.length;refine⟨_,rfl,.ref rl,_,"list",rfl,by decide,.inl (.inl ⟨rfl,_,hx⟩),_,rfl,jQ ⟨_,rfl,rl,rfl,⟨_,hx⟩,vO (xs:=xs) (fun j zs H'=>H'=H/\zs=((ds.take j).map fun _=>true).map V.bl) ⟨rfl,rfl⟩ (fun j zs H' _ z=>⟨by rw[z.1];exact hx,by rw[z.2,δ,δ,Θ];exact kg _ _⟩) (kI (by omega)) (fun j v zs H' hv z=>?_) (fun zs H' z p hp=>?_)⟩⟩
 ·obtain⟨rfl,rfl⟩:=z;obtain⟨dj,hdj,_⟩:=hds.get hv;obtain⟨xs',t,p0,v0,hx',lx',hxi,ht,ed⟩:=hrw.row (i:=j) (ε.mp hdj).1;obtain⟨v',hv',hdv⟩:=DatAll.at' hds hdj;rw[hv]at hv';cases hv';obtain⟨p1,v1,rfl⟩:=aAa (hall _ (ι hdj));cases hdv with
  | @tup t1 ys _ ht1 hs1 =>
   cases hs1 with
   |cons a1 hs1=>cases hs1 with
    |cons b1 hs1 =>
     cases hs1;cases a1;cases b1;refine⟨_,rfl,t1,p1,v1,rfl,ht1,⟨rfl,?_⟩,_,rfl⟩;rw[qO hdj,χ];rfl
 ·obtain⟨rfl,rfl⟩:=z;clear 1 p H1 g1 kp hp;rw[lx,jZ]at kp;refine⟨p,_,rfl,SqL.of kp,_,rfl,?_⟩;rw[dW (fun f hf=>rfl)];refine jQ ⟨_,rfl,fun y dy hy hdy _=>⟨y,dy,.ref s,H1,rfl,jP,zZ hy hdy,hy,fun H2 g2 k2=>⟨rfl,_,rfl,?_⟩⟩⟩;have g12:=g1.trans g2;refine⟨y,Str.empty,rl,0,.nest i,sa,S,ds,r,d,ds.length,rfl,rfl,(by show 0+8*(r+1)<=200;omega),hi,hil,.nest e0 k2,hw.same g12,hW,hrw.same g12,(by rw[List.drop_zero];exact hrd),fun t v fs H3 g3 ht hdv hn3=>?_⟩;have g13:=g12.trans g3;exact⟨t,_,rfl,ht,rfl,_,_,rfl,_,_,rfl,rfl,_,rfl,_,rfl,rl,xs,rfl,.inl (g13.seq hx),rfl,_,rfl,vE (by rw[lx];simp) ⟨_,rfl,q v fs H3 g13 hdv (hn3.back g12)⟩⟩
theorem rO(F:Fun K "_law_spoilt" "_law_spoilt" bT f fd)(ah:j4 "_law_spoilt" (aEs K r)):j0 ["_law_thing"] (aEs K (r+1)):=by
 w_cond aR;obtain⟨x,e,fs,r0,er,rfl,ht,hx,q⟩:=h;cases er;refine⟨_,(jD (jX (kK (jG kJ rfl M.isinstance ii (jA (pv 0) (jA (kT (v:=.ty "dict") rfl M.dict boot_dict rfl) jB)))) (jC (vF jo rfl (kU (kY (zR rfl) rfl M.list qh (jA (pv 0) jB))) (kS 1 aR.nd) (jD (qX (jF ah hr (jA (yB hr.units1 (pv 0) (pv 1) (fun _ _=>rfl)) jB))) (jC (gK hr.units1 (pv 0) (pv 1) lB rfl))))) jL) (jD (jX (kK (jG kJ rfl M.isinstance ii (jA (pv 0) (jA (kT (v:=.ty "list") rfl M.list qh rfl) jB)))) (jD (vF jo rfl (kU (pv 0)) (kS 2 aR.nd) (jC (qX (jF ah hr (jA (pv 2) jB))))) (jC (qX (aPv lh PySem.F.slot_list_clear PySem.F.type_list_clear aLa (pv 0))))) jL) (jC (jX (kK (jG kJ rfl M.isinstance ii (jA (pv 0) (jA (kT (v:=.ty "tuple") rfl M.tuple qw rfl) jB)))) (jC (qX (jF ah hr (jA (jK jY (pv 0) jE) jB)))) jL)))),?_⟩;cases hx with
 |int i=>exact⟨_,rfl,.int i,_,"int",rfl,by decide,.inl rfl,_,rfl,jQ ⟨_,rfl,.int i,_,"int",rfl,by decide,.inl rfl,_,rfl,jQ ⟨_,rfl,.int i,_,"int",rfl,by decide,.inl rfl,_,rfl,jQ (q H Fr.refl)⟩⟩⟩
 | @lst a xs ds fs h t n =>
  cases r with
  |zero=>exact ht.elim
  |succ r =>
  obtain⟨_,few,hts⟩:=ht;have lx:=t.len;refine⟨_,rfl,.ref a,_,"list",rfl,by decide,.inl (.inl ⟨rfl,_,SqL.of h⟩),_,rfl,jQ ⟨_,rfl,.ref a,_,"list",rfl,by decide,.inl (.inl ⟨rfl,_,SqL.of h⟩),_,rfl,kZ ⟨_,rfl,a,rfl,⟨_,SqL.of h⟩,qU (xs:=xs) (fun j σ H'=>∃o1 o2,σ = [some (.ref a),o1,o2]/\Fr fs H H'/\H' a=some (.lst xs)/\∃f2,Trs true K H' (xs.drop j) (ds.drop j) f2/\∀b∈f2,b∈fs) ⟨_,_,rfl,Fr.refl,h,fs,t,fun b hb=>hb⟩ (fun j σ H' _ z=>?_) (fun j x σ H' hx z=>?_) (fun σ H' z=>?_)⟩⟩⟩
  ·obtain⟨o1,o2,rfl,_,ha,_⟩:=z;exact SqL.of ha
  ·obtain⟨o1,o2,rfl,f,ha,f2,htr,hsub⟩:=z;obtain⟨hj,rfl⟩:=ε.mp hx;have hjd:j<ds.length:=by omega
   rw[jj hj,jj hjd]at htr;cases htr with
   | @cons _ _ _ _ fx fr h1 h2 h3 =>
    refine⟨_,rfl,xs[j],ds[j],fx,r,rfl,rfl,hts _ (ju hjd),h1,fun H3 f3=>?_⟩;exact⟨_,_,rfl,f.trans (f3.mono fun b hb=>hsub b (jd _ hb)),f3 _ _ (fun z=>n (hsub a (jd _ z))) ha,fr,h2.fr f3 h1.mu (fun b hb z=>h3 rfl b z hb),fun b hb=>hsub b (Ψ _ hb)⟩
  ·obtain⟨o1,o2,rfl,f,ha,_⟩:=z;refine⟨_,rfl,.inl ⟨rfl,_,SqL.of ha⟩,a,_,rfl,rfl,ha,?_⟩;clear 0 a H3 g3 k3;refine⟨_,rfl,.ref a,_,"list",rfl,by decide,.inl (.inl ⟨rfl,_,SqL.of k3⟩),_,rfl,jQ (q H3 ?_)⟩;exact(f.mono fun b hb=>ς _ hb).trans fun b o nb e=>g3 _ _ (fun z=>nb (by rw[z];exact ρ ..)) e
 | @tup a i x1 d fs h t =>
  cases r with
  |zero=>exact ht.elim
  |succ r=>exact⟨_,rfl,.ref a,_,"tuple",rfl,by decide,.inl (.inr ⟨rfl,_,h⟩),_,rfl,jQ ⟨_,rfl,.ref a,_,"tuple",rfl,by decide,.inl (.inr ⟨rfl,_,h⟩),_,rfl,jQ ⟨_,rfl,.ref a,_,"tuple",rfl,by decide,.inl (.inr ⟨rfl,_,h⟩),_,rfl,kZ ⟨_,rfl,a,_,_,_,rfl,rfl,h,rfl,x1,d,fs,r,rfl,rfl,ht.1,t,fun H3 f3=>q H3 f3⟩⟩⟩⟩
 | @dct a ks xs ds fs h l t n =>
  cases r with
  |zero=>exact ht.elim
  |succ r =>
  have lx:=t.len;obtain⟨nd,few,hts⟩:=aBs (l.trans lx) ht;have kl:(kz ks xs).length=ks.length:=xS l;refine⟨_,rfl,.ref a,_,"dict",rfl,by decide,.inr ⟨rfl,a,_,rfl,h⟩,_,rfl,kZ ⟨_,rfl,a,_,rfl,h,(by rw[kl];omega),fun kl' hkl=>?_⟩⟩;rw[nK l];generalize e1:upd H kl' _=H1;obtain⟨g1,k1⟩:=kR e1 hkl;have na:a≠kl':=jN h hkl;have nf:kl'∉fs:=t.mu.not hkl;refine⟨kl',rfl,⟨_,SqL.of k1⟩,qU (xs:=ks.map V.str) (fun j σ H'=>∃o1 o2,σ = [some (.ref a),o1,o2]/\Fr (a::fs) H H'/\H' kl'=some (.lst (ks.map V.str))/\∃vs f2,H' a=some (.dK (kz ks vs))/\ks.length=vs.length/\vs.drop j=xs.drop j/\Trs true K H' (xs.drop j) (ds.drop j) f2/\∀b∈f2,b∈fs) ⟨_,_,rfl,Fr.of g1,k1,xs,fs,g1 _ _ h,l,rfl,t.same g1,fun b hb=>hb⟩ (fun j σ H' _ z=>?_) (fun j x σ H' hx z=>?_) (fun σ H' z=>?_)⟩
  ·obtain⟨o1,o2,rfl,_,hk,_⟩:=z;exact SqL.of hk
  ·obtain⟨o1,o2,rfl,f,hk,vs,f2,ha,lv,hdr,htr,hsub⟩:=z;obtain⟨y,hy,rfl⟩:=xM hx;have hj:j<ks.length:=(ε.mp hy).1;have hjx:j<xs.length:=by omega
   have hjd:j<ds.length:=by omega
   rw[jj hjx]at hdr;have hvx:vs[j]?=some xs[j]:=by rw[←List.head?_drop,hdr];rfl
   have hdr':vs.drop (j+1)=xs.drop (j+1):=by rw[←List.tail_drop,hdr];rfl
   rw[jj hjx,jj hjd]at htr;cases htr with
   | @cons _ _ _ _ fx fr h1 h2 h3 =>
    refine⟨_,rfl,_,rfl,a,xs[j],rfl,(by rw[←gO nd lv hy hvx];exact yR.k (k:=.inr y) ha),xs[j],ds[j],fx,r,rfl,rfl,hts _ (ju hjd),h1,fun H3 f3=>?_⟩;have ax:a∉fx:=fun z=>n (hsub a (jd _ z));have ar:a∉fr:=fun z=>n (hsub a (Ψ _ z));have ha3:=f3 _ _ ax ha;have hk3:=f3 _ _ (fun z=>nf (hsub _ (jd _ z))) hk;refine⟨_,rfl,_,rfl,a,_,rfl,pM.k (k:=qr y) ha3 (by rw[xS lv];exact li few (by decide)),?_⟩;have ev:=aQw hvx;have ltk:(vs.take j).length=j:=by rw[Θ];omega
    have ep:putK (kz ks vs) (.inr y) .non=kz ks (vs.take j++V.non::vs.drop (j+1)):=by
     conv=>lhs;rw[ev]
     exact aKb nd (by rw[←ev];exact lv) (by rw[ltk];exact hy)
    rw[ep];generalize e4:upd H3 a _=H4;obtain⟨g4,k4⟩:=vD e4;have h24:Trs true K H4 (xs.drop (j+1)) (ds.drop (j+1)) fr:=by rw[←e4];exact(h2.fr f3 h1.mu (fun b hb z=>h3 rfl b z hb)).put ar (.inr ⟨_,ha3⟩)
    refine⟨_,_,rfl,(f.trans (f3.mono fun b hb=>ς _ (hsub b (jd _ hb)))).trans (fun b o nb e=>g4 _ _ (fun z=>nb (by rw[z];exact ρ ..)) e),g4 _ _ (lm na) hk3,_,fr,k4,?_,?_,h24,fun b hb=>hsub b (Ψ _ hb)⟩
    ·rw[θ,ltk,Ω,wg];omega
    ·have:=aAx (vs.take j) V.non (vs.drop (j+1));rw[ltk]at this;rw[this];exact hdr'
  ·obtain⟨o1,o2,rfl,f,hk,vs,f2,ha,_⟩:=z;exact⟨_,rfl,.ref a,_,"dict",rfl,by decide,.inr ⟨rfl,a,_,rfl,ha⟩,_,rfl,jQ ⟨_,rfl,.ref a,_,"dict",rfl,by decide,.inr ⟨rfl,a,_,rfl,ha⟩,_,rfl,jQ (q H' f)⟩⟩
theorem pR(F:Fun K "_law_sorted" "_law_sorted" cK f fd)(ae:j4 "_law_sorted" (aFj K r)):j0 ["_law_thing"] (aFj K (r+1)):=by
 w_cond pZ;obtain⟨x,e,r0,er,rfl,ht,hx,q⟩:=h;cases er;refine⟨_,(jD (jX (kK (jG kJ rfl M.isinstance ii (jA (pv 0) (jA (kT (v:=.ty "dict") rfl M.dict boot_dict rfl) jB)))) (jC (jI (kQ ["_law_name"] ["_law_thing"] [0] rfl (kU (jG uK rfl M.sorted (show my "sorted" = some (.builtin "sorted") from by ac_rfl) (jA (kY (zR rfl) rfl M.list qh (jA (pv 0) jB)) jB))) rfl ⟨rfl,trivial⟩ ⟨⟨rfl,rfl,rfl,_,rfl⟩,trivial⟩ (fun _ _ _ _=>(qC rfl)) (fun _ _ _ _=>kP) (fun _ _ _ _=>(kW (jA (pv 0) (jA (jF ae hr (jA (yB hr.units1 (pv 1) (pv 0) (fun _ _=>rfl)) jB)) jB))))))) jL) (jD (jX (kK (jG kJ rfl M.isinstance ii (jA (pv 0) (jA (kT (v:=.ty "list") rfl M.list qh rfl) jB)))) (jC (jI (jV aMc (qE (jA jO jB)) (kQ ["_law_one"] [] [] rfl (kU (pv 0)) rfl trivial trivial (fun _ _ _ _=>(qC rfl)) (fun _ _ _ _=>kP) (fun _ _ _ _=>(jF ae hr (jA (pv 0) jB))))))) jL) (jD (jX (kK (jG kJ rfl M.isinstance ii (jA (pv 0) (jA (kT (v:=.ty "tuple") rfl M.tuple qw rfl) jB)))) (jC (jI (kW (jA jO (jA (jK jY (pv 0) jE) (jA (jF ae hr (jA (jK jY (pv 0) jE) jB)) jB)))))) jL) (jC (jI (pv 0)))))),?_⟩;cases hx with
 |non=>cases r <;> exact ht.elim
 |bl _=>cases r <;> exact ht.elim
 |str _=>cases r <;> exact ht.elim
 |int i=>exact⟨_,rfl,.int i,_,"int",rfl,by decide,.inl rfl,_,rfl,jQ ⟨_,rfl,.int i,_,"int",rfl,by decide,.inl rfl,_,rfl,jQ ⟨_,rfl,.int i,_,"int",rfl,by decide,.inl rfl,_,rfl,jQ ⟨_,rfl,q _ (.int i) H (jJ.refl _) (.int i) (by cases r <;> rfl)⟩⟩⟩⟩
 | @lst a xs ds h _ t =>
  cases r with
  |zero=>exact ht.elim
  |succ r =>
  obtain⟨_,few,hts⟩:=ht;have lx:=t.length;refine⟨_,rfl,.ref a,_,"list",rfl,by decide,.inl (.inl ⟨rfl,_,h⟩),_,rfl,jQ ⟨_,rfl,.ref a,_,"list",rfl,by decide,.inl (.inl ⟨rfl,_,h⟩),_,rfl,kZ ⟨iU,fun l1 hl1=>?_⟩⟩⟩;clear 1 l1 H1 g1 k1 hl1;refine⟨_,rfl,a,rfl,⟨_,g1.seq h⟩,nP (xs:=xs) (fun j ys H'=>jJ H1 H'/\∃zs,Dts true K H' ys zs/\F2 (Srt r) (ds.take j) zs/\zs.length=j) ⟨jJ.refl _,[],.nil,jm,rfl⟩ (fun j ys H' _ z=>⟨z.1.seq (g1.seq h),?_⟩) (kI (by omega)) (fun j x ys H' hx z=>?_) (fun ys H' z p hp np=>?_)⟩
  ·obtain⟨_,zs,h1,_,h2⟩:=z;rw[h1.length,h2];exact ν _
  ·obtain⟨g,zs,hd,hs,hz⟩:=z;have hj:j<ds.length:=by rw[←lx];exact(ε.mp hx).1
   have hdj:ds[j]?=some ds[j]:=ζ hj;obtain⟨x',hx',hxd⟩:=t.get hdj;rw[hx]at hx';cases hx';refine⟨_,rfl,x,ds[j],r,rfl,rfl,hts _ (ju hj),hxd.same (g1.trans g),fun v y H3 g3 h3 hs3=>⟨⟨g.trans g3,zs++[y],Dts.snoc9 h3 (hd.same g3),?_,by rw[θ,hz];rfl⟩,_,rfl⟩⟩;rw[iw,hdj];exact F2.snoc hs3 hs
  ·obtain⟨g,zs,hd,hs,hz⟩:=z;rw[lx,jZ]at hs;clear 1 p H3 g3 k3 hp;refine⟨l1,p,_,_,rfl,rfl,(g.trans g3) _ _ k1,k3,(by rw[hd.length,jf];show 1+_<=_;omega),fun p2 hp2 np2=>?_⟩;clear 1 p2 H4 g4 k4 hp2;exact q (.ref p2) (.list (.str rowW::zs)) H4 (((g1.trans g).trans g3).trans g4) (.lst (SqL.of k4) (fun _=>np2) (.cons (.str _) (hd.same (g3.trans g4)))) ⟨zs,rfl,hs⟩
 | @tup a xs ds h t =>
  cases r with
  |zero=>exact ht.elim
  |succ r =>
  match ds,ht,t with
  |[.int j,e'],ht,t =>
   cases t with
   |cons t0 t=>cases t with
    | @cons x1 _ _ _ t1 t =>
     cases t;cases t0;refine⟨_,rfl,.ref a,_,"tuple",rfl,by decide,.inl (.inr ⟨rfl,_,h⟩),_,rfl,jQ ⟨_,rfl,.ref a,_,"tuple",rfl,by decide,.inl (.inr ⟨rfl,_,h⟩),_,rfl,jQ ⟨_,rfl,.ref a,_,"tuple",rfl,by decide,.inl (.inr ⟨rfl,_,h⟩),_,rfl,kZ ⟨_,rfl,a,_,_,_,rfl,rfl,h,rfl,_,rfl,a,_,_,_,rfl,rfl,h,rfl,x1,e',r,rfl,rfl,ht.1,t1,fun v y H3 g3 h3 hs3=>⟨lZ,fun t5 ht5=>?_⟩⟩⟩⟩⟩;clear 1 t5 H5 g5 k5 ht5;exact q (.ref t5) (.tuple [.str aKx,.int j,y]) H5 (g3.trans g5) (.tup (SqT.of k5) (.cons (.str _) (.cons (.int _) (.cons (h3.same g5) .nil)))) ⟨y,rfl,hs3⟩
 | @dct a ks xs ds h l t =>
  cases r with
  |zero=>exact ht.elim
  |succ r =>
  have lx:=t.length;obtain⟨nd,few,hts⟩:=aBs (l.trans lx) ht;refine⟨_,rfl,.ref a,_,"dict",rfl,by decide,.inr ⟨rfl,a,_,rfl,h⟩,_,rfl,kZ ⟨_,rfl,a,_,rfl,h,(by rw[xS l];omega),fun l1 hl1=>?_⟩⟩;rw[nK l];clear 1 l1 H1 g1 k1 hl1;refine⟨l1,ks,rfl,SqL.of k1,(by omega),fun l2 ss hp hs hl2=>?_⟩;clear 1 l2 H2 g2 k2 hl2;have g12:=g1.trans g2;have hpl:=hp.length_eq;refine⟨l2,rfl,⟨_,SqL.of k2⟩,nP (xs:=ss.map V.str) (fun j ys H'=>jJ H2 H'/\∃zs:List PyData,Dts true K H' ys (prD (ss.take j) zs)/\zs.length=j/\∀(i:Nat) (k:Str) (z:PyData),i<j->ss[i]?=some k->zs[i]?=some z->∃v,lkD (kvD ks ds) k=some v/\Srt r v z) ⟨jJ.refl _,[],.nil,rfl,fun i k z hi=>absurd hi (xg _)⟩ (fun j ys H' hj z=>⟨z.1.seq (SqL.of k2),?_⟩) (kI (by rw[δ];omega)) (fun j x ys H' hx z=>?_) (fun ys H' z p hp' np=>?_)⟩
  ·obtain⟨_,zs,h1,h2,_⟩:=z;rw[h1.length];show(il _ _ _).length<=j;rw[qx,Θ];omega
  ·obtain⟨g,zs,hd,hz,hv⟩:=z;obtain⟨y,hy,rfl⟩:=xM hx;obtain⟨j',hj'⟩:=jb.mp (hp.mem_iff.mp (ι hy));have hjk:j'<ks.length:=(ε.mp hj').1;have hdj:ds[j']?=some (ds[j']'(by omega)):=ζ _;obtain⟨x',hx',hxd⟩:=t.get hdj;have hlk:=mX nd (aDy hj' hdj);refine⟨_,rfl,_,rfl,_,rfl,a,x',rfl,(by rw[←gO nd l hj' hx'];exact yR.k (k:=.inr y) ((g12.trans g) _ _ h)),x',_,r,rfl,rfl,hts _ (ι hdj),hxd.same (g12.trans g),fun v y2 H3 g3 h3 hs3=>⟨xD,fun t5 ht5=>?_⟩⟩;clear 1 t5 H5 g5 k5 ht5;refine⟨⟨(g.trans g3).trans g5,zs++[y2],?_,by rw[θ,hz];rfl,fun i k z hi hk hz'=>?_⟩,_,rfl⟩
   ·rw[aMw hz hy];exact Dts.snoc9 (.tup (SqT.of k5) (.cons (.str _) (.cons (h3.same g5) .nil))) (hd.same (g3.trans g5))
   ·by_cases hij:i<j
    ·rw[ir (by omega)]at hz';exact hv i k z hij hk hz'
    ·have:i=j:=by omega
     subst this;rw[hy]at hk;cases hk;rw[ie (by omega),hz,mi]at hz';cases hz';exact⟨_,hlk,hs3⟩
  ·obtain⟨g,zs,hd,hz,hv⟩:=z;rw[δ]at hz hv;rw[δ,jZ]at hd;generalize e3:upd H' p _=H3;obtain⟨g3,k3⟩:=kR e3 hp';refine q (.ref p) (.list (prD ss zs)) H3 ((g12.trans g).trans g3) (.lst (SqL.of k3) (fun _=>np) (hd.same g3)) ⟨ss,zs,rfl,hz.symm,hs,?_,fun i k z hk hz'=>hv i k z (ε.mp hk).1 hk hz'⟩;rw[show(il (fun k d=>(jr k,d)) ks ds)=kvD ks ds from rfl,cD (l.trans lx)];exact hp.map _
theorem mY(F:Fun K "_law_numbers" "_law_numbers" aW f fd)(aw:j4 "_law_numbers" (aFs K r)):j0 ["_law_thing"] (aFs K (r+1)):=by
 w_cond vS;obtain⟨x,e,r0,er,rfl,ht,hx,hfew,q⟩:=h;cases er;refine⟨_,(jD (jX (kK (jG kJ rfl M.isinstance ii (jA (pv 0) (jA (kT (v:=.ty "int") rfl M.int boot_int rfl) jB)))) (jC (jI (qE (jA (pv 0) jB)))) jL) (jD (jX (kK (jG kJ rfl M.isinstance ii (jA (pv 0) (jA (kT (v:=.ty "tuple") rfl M.tuple qw rfl) jB)))) (jC (jI (jF aw hr (jA (jK jY (pv 0) jE) jB)))) jL) (jD (jR 1 vS.nd (qE jB)) (jD (jX (kK (jG kJ rfl M.isinstance ii (jA (pv 0) (jA (kT (v:=.ty "list") rfl M.list qh rfl) jB)))) (jC (vF jo rfl (kU (pv 0)) (kS 2 vS.nd) (jC (jR 1 vS.nd (jV cI (pv 1) (jF aw hr (jA (pv 2) jB))))))) (jC (vF jo rfl (kU (kY (zR rfl) rfl M.list qh (jA (pv 0) jB))) (kS 3 vS.nd) (jC (jR 1 vS.nd (jV cI (pv 1) (jF aw hr (jA (yB hr.units1 (pv 0) (pv 3) (fun _ _=>rfl)) jB)))))))) (jC (jI (pv 1))))))),?_⟩;cases hx with
 |non=>cases r <;> exact ht.elim
 |bl _=>cases r <;> exact ht.elim
 |str _=>cases r <;> exact ht.elim
 |int i =>
  refine⟨_,rfl,.int i,_,"int",rfl,by decide,.inl rfl,_,rfl,kZ ⟨_,rfl,iU,fun p hp=>?_⟩⟩;clear 1 p H1 g1 k1 hp;exact q p H1 g1 (by rw[show nu r (.int i)=[i] by cases r <;> rfl];exact k1)
 | @lst a xs ds h _ t =>
  cases r with
  |zero=>exact ht.elim
  |succ r =>
  obtain⟨_,few,hts⟩:=ht;have lx:=t.length;refine⟨_,rfl,.ref a,_,"list",rfl,by decide,.inl (.inl ⟨rfl,_,h⟩),_,rfl,jQ ⟨_,rfl,.ref a,_,"list",rfl,by decide,.inl (.inl ⟨rfl,_,h⟩),_,rfl,jQ ⟨cZ,fun l1 hl1=>?_⟩⟩⟩;clear 1 l1 H1 g1 k1 hl1;have h1:=g1.seq h;refine⟨_,rfl,.ref a,_,"list",rfl,by decide,.inl (.inl ⟨rfl,_,h1⟩),_,rfl,kZ ⟨_,rfl,a,rfl,⟨_,h1⟩,qU (xs:=xs) (fun j σ H'=>∃l o2 o3,σ = [some (.ref a),some (.ref l),o2,o3]/\jJ H1 H'/\H' l=some (.lst ((nuL (nu r) (ds.take j)).map V.int))) ⟨l1,_,_,rfl,jJ.refl _,k1⟩ (fun j σ H' _ z=>?_) (fun j x σ H' hx z=>?_) (fun σ H' z=>?_)⟩⟩
  ·obtain⟨l,o2,o3,rfl,g,_⟩:=z;exact g.seq h1
  ·obtain⟨l,o2,o3,rfl,g,hl⟩:=z;have hj:j<ds.length:=by rw[←lx];exact(ε.mp hx).1
   have hdj:ds[j]?=some ds[j]:=ζ hj;obtain⟨x',hx',hxd⟩:=t.get hdj;rw[hx]at hx';cases hx';obtain⟨b1,b2,b3⟩:=aHy (f:=nu r) hfew hdj;refine⟨_,rfl,_,rfl,x,ds[j],r,rfl,rfl,hts _ (ju hj),hxd.same (g1.trans g),b1,fun l3 H3 g3 k3=>⟨l,l3,_,_,rfl,rfl,g3 _ _ hl,k3,(by rw[δ,δ,jf];omega),fun p hp=>?_⟩⟩;clear 1 p H4 g4 k4 hp;exact⟨p,_,_,rfl,(g.trans g3).trans g4,by rw[b3,χ];exact k4⟩
  ·obtain⟨l,o2,o3,rfl,g,hl⟩:=z;rw[lx,jZ]at hl;exact⟨_,rfl,q l H' (g1.trans g) hl⟩
 | @tup a xs ds h t =>
  cases r with
  |zero=>exact ht.elim
  |succ r =>
  match ds,ht,t,hfew,q with
  |[.int j,e'],ht,t,hfew,q =>
   cases t with
   |cons t0 t=>cases t with
    | @cons x1 _ _ _ t1 t =>
     cases t;cases t0;exact⟨_,rfl,.ref a,_,"tuple",rfl,by decide,.inl (.inr ⟨rfl,_,h⟩),_,rfl,jQ ⟨_,rfl,.ref a,_,"tuple",rfl,by decide,.inl (.inr ⟨rfl,_,h⟩),_,rfl,kZ ⟨_,rfl,a,_,_,_,rfl,rfl,h,rfl,x1,e',r,rfl,rfl,ht.1,t1,hfew,q⟩⟩⟩
 | @dct a ks xs ds h l t =>
  cases r with
  |zero=>exact ht.elim
  |succ r =>
  have lx:=t.length;obtain⟨nd,few,hts⟩:=aBs (l.trans lx) ht;have en:nu (r+1) (.dict (il (fun k d=>(jr k,d)) ks ds))=nuL (nu r) ds:=by
   show nuL (nu r) ((kvD ks ds).map (·.2))=_;rw[vV (l.trans lx)]
  rw[en]at hfew q;refine⟨_,rfl,.ref a,_,"dict",rfl,by decide,.inr ⟨rfl,a,_,rfl,h⟩,_,rfl,jQ ⟨_,rfl,.ref a,_,"dict",rfl,by decide,.inr ⟨rfl,a,_,rfl,h⟩,_,rfl,jQ ⟨cZ,fun l1 hl1=>?_⟩⟩⟩;clear 1 l1 H1 g1 k1 hl1;have h1:=g1 _ _ h;refine⟨_,rfl,.ref a,_,"dict",rfl,by decide,.inr ⟨rfl,a,_,rfl,h1⟩,_,rfl,jQ ⟨_,rfl,a,_,rfl,h1,(by rw[xS l];omega),fun l2 hl2=>?_⟩⟩;rw[nK l];clear 1 l2 H2 g2 k2 hl2;have g12:=g1.trans g2;refine⟨l2,rfl,⟨_,SqL.of k2⟩,qU (xs:=ks.map V.str) (fun j σ H'=>∃l o2 o3,σ = [some (.ref a),some (.ref l),o2,o3]/\jJ H2 H'/\H' l=some (.lst ((nuL (nu r) (ds.take j)).map V.int))) ⟨l1,_,_,rfl,jJ.refl _,g2 _ _ k1⟩ (fun j σ H' _ z=>?_) (fun j x σ H' hx z=>?_) (fun σ H' z=>?_)⟩
  ·obtain⟨l,o2,o3,rfl,g,_⟩:=z;exact SqL.of (g _ _ k2)
  ·obtain⟨l0,o2,o3,rfl,g,hl⟩:=z;obtain⟨y,hy,rfl⟩:=xM hx;have hjk:j<ks.length:=(ε.mp hy).1;have hj:j<ds.length:=by omega
   have hdj:ds[j]?=some ds[j]:=ζ hj;obtain⟨x',hx',hxd⟩:=t.get hdj;obtain⟨b1,b2,b3⟩:=aHy (f:=nu r) hfew hdj;refine⟨_,rfl,_,rfl,_,rfl,a,x',rfl,(by rw[←gO nd l hy hx'];exact yR.k (k:=.inr y) ((g12.trans g) _ _ h)),x',ds[j],r,rfl,rfl,hts _ (ju hj),hxd.same (g12.trans g),b1,fun l3 H3 g3 k3=>⟨l0,l3,_,_,rfl,rfl,g3 _ _ hl,k3,(by rw[δ,δ,jf];omega),fun p hp=>?_⟩⟩;clear 1 p H4 g4 k4 hp;exact⟨p,_,_,rfl,(g.trans g3).trans g4,by rw[b3,χ];exact k4⟩
  ·obtain⟨l0,o2,o3,rfl,g,hl⟩:=z;rw[δ,show ks.length=ds.length from l.trans lx,jZ]at hl;exact⟨_,rfl,q l0 H' (g12.trans g) hl⟩
theorem aBm(F:Fun K "_law_twin" "_law_twin" gJ f fd)(bq:j4 "_law_twin" (aDo K r)):j0 ["_law_thing"] (aDo K (r+1)):=by
 w_cond aG;obtain⟨x,e,fs,r0,er,rfl,ht,hx,q⟩:=h;cases er;refine⟨_,(jD (jX (kK (jG kJ rfl M.isinstance ii (jA (pv 0) (jA (kT (v:=.ty "list") rfl M.list qh rfl) jB)))) (jC (jI (jV aPq (qE (jA (jF bq hr (jA (jK jU (pv 0) jE) jB)) jB)) (jG jW rfl M.len je (jA (pv 0) jB))))) jL) (jD (jX (kK (jG kJ rfl M.isinstance ii (jA (pv 0) (jA (kT (v:=.ty "tuple") rfl M.tuple qw rfl) jB)))) (jC (jI (kW (jA (jK jY (pv 0) jE) (jA (jF bq hr (jA (jK jY (pv 0) jE) jB)) jB))))) jL) (jD (jX (kK (jG kJ rfl M.isinstance ii (jA (pv 0) (jA (kT (v:=.ty "dict") rfl M.dict boot_dict rfl) jB)))) (jD (jR 1 aG.nd oT) (jD (vF jo rfl (aKf (pv 0)) (xQ rfl (jS (kS 2 aG.nd) (jS (kS 3 aG.nd) qK))) (jC (gK hr.units1 (pv 1) (pv 2) (jF bq hr (jA (pv 3) jB)) rfl))) (jC (jI (aEa (pv 1)))))) jL) (jC (jI (pv 0)))))),?_⟩;cases hx with
 |int i=>exact⟨_,rfl,.int i,_,"int",rfl,by decide,.inl rfl,_,rfl,jQ ⟨_,rfl,.int i,_,"int",rfl,by decide,.inl rfl,_,rfl,jQ ⟨_,rfl,.int i,_,"int",rfl,by decide,.inl rfl,_,rfl,jQ ⟨_,rfl,q _ [] H (jJ.refl _) (fun b hb=>by cases hb) (by rw[show twn r (.int i)=.int i by cases r <;> rfl];exact .int i)⟩⟩⟩⟩
 | @lst a xs ds fs h t n =>
  cases r with
  |zero=>exact ht.elim
  |succ r =>
  obtain⟨hne,few,hts⟩:=ht;have lx:=t.len;obtain⟨d0,ds',rfl⟩ : ∃d ds',ds=d::ds':=by
   cases ds with
   |nil=>exact absurd rfl hne
   |cons d ds'=>exact⟨d,ds',rfl⟩
  obtain⟨x0,hx0⟩ : ∃x,xs[0]?=some x:=⟨_,ζ (by rw[lx];show 0<_+1;omega)⟩;obtain⟨d1,f1,hd1,ht1,_⟩:=t.at hx0;cases hd1;refine⟨_,rfl,.ref a,_,"list",rfl,by decide,.inl (.inl ⟨rfl,_,SqL.of h⟩),_,rfl,kZ ⟨_,rfl,a,xs,_,x0,rfl,rfl,SqL.of h,qR (j:=0) hx0,x0,d0,f1,r,rfl,rfl,hts _ (ρ ..),ht1,fun v gs H3 g3 hn3 h3=>⟨iU,fun l1 hl1=>?_⟩⟩⟩;clear 1 l1 H4 g4 k4 hl1;refine⟨_,rfl,a,xs,rfl,.inl (SqL.of (g4 _ _ (g3 _ _ h))),l1,_,_,rfl,rfl,k4,(by omega),(by omega),(by rw[oe,jf];show 1*_<=_;omega),fun p hp=>?_⟩;generalize e5:upd H4 p _=H5;obtain⟨g5,k5⟩:=kR e5 hp;rw[oe,List.flatten_replicate_singleton,lx]at k5;obtain⟨f9,h9,s9⟩:=Trs.rep (h3.same (g4.trans g5)) (d0::ds').length;have hn9:New H f9:=fun b hb=>hn3 b (s9 b hb);refine q (.ref p) (p::f9) H5 ((g3.trans g4).trans g5) (New.cons ((g3.trans g4).free hp) hn9) (.lst k5 h9 fun z=>?_);exact((h3.same g4).mu.not hp) (s9 p z)
 | @tup a i x1 d fs h t =>
  cases r with
  |zero=>exact ht.elim
  |succ r =>
  refine⟨_,rfl,.ref a,_,"tuple",rfl,by decide,.inl (.inr ⟨rfl,_,h⟩),_,rfl,jQ ⟨_,rfl,.ref a,_,"tuple",rfl,by decide,.inl (.inr ⟨rfl,_,h⟩),_,rfl,kZ ⟨_,rfl,a,_,_,_,rfl,rfl,h,rfl,_,rfl,a,_,_,_,rfl,rfl,h,rfl,x1,d,fs,r,rfl,rfl,ht.1,t,fun v gs H3 g3 hn3 h3=>⟨xD,fun t5 ht5=>?_⟩⟩⟩⟩;generalize e5:upd H3 t5 _=H5;obtain⟨g5,k5⟩:=kR e5 ht5;exact q (.ref t5) gs H5 (g3.trans g5) hn3 (.tup (SqT.of k5) (h3.same g5))
 | @dct a ks xs ds fs h l t n =>
  cases r with
  |zero=>exact ht.elim
  |succ r =>
  have lx:=t.len;obtain⟨nd,few,hts⟩:=aBs (l.trans lx) ht;have kl:(kz ks xs).length=ks.length:=xS l;refine⟨_,rfl,.ref a,_,"dict",rfl,by decide,.inr ⟨rfl,a,_,rfl,h⟩,_,rfl,jQ ⟨_,rfl,.ref a,_,"dict",rfl,by decide,.inr ⟨rfl,a,_,rfl,h⟩,_,rfl,jQ ⟨_,rfl,.ref a,_,"dict",rfl,by decide,.inr ⟨rfl,a,_,rfl,h⟩,_,rfl,kZ (fun D hD=>?_)⟩⟩⟩;clear 1 D H1 g1 k1 hD;have nDa:D≠a:=lm (jN h hD);have nDf:D∉fs:=t.mu.not hD;refine⟨_,rfl,a,_,rfl,g1 _ _ h,fun o=>?_⟩;clear 0 a H2 b2 k2;refine aGj (kvs:=kz ks xs) (fun j σ H'=>∃o2 o3 vs gs,σ = [some (.ref a),some (.ref D),o2,o3]/\But D H2 H'/\H' D=some (.dK (kz (ks.take j) vs))/\vs.length=j/\Trs false K H' vs ((ds.take j).map (twn r)) gs/\New H gs/\D∉gs) ⟨_,_,[],[],rfl,But.refl,b2 _ _ nDa k1,rfl,.nil,(fun b hb=>by cases hb),fun hb=>by cases hb⟩ (fun j σ H' _ z=>?_) (fun j kv σ H' p hkv z hp=>?_) (fun σ H' z=>?_)
  ·obtain⟨o2,o3,vs,gs,rfl,g,_⟩:=z;exact g _ _ (lm nDa) k2
  ·obtain⟨o2,o3,vs,gs,rfl,g,kD,hvl,htr,hnew,nDg⟩:=z;obtain⟨key,x⟩:=kv;obtain⟨hx,y,hy,rfl⟩:=L2.zip_get hkv;clear 1 p H3 g3 k3 hp;obtain⟨d,f1,hd,hxd,hsub⟩:=t.at hx;have hfr:Fr [a,D] H H3:=fun b u nb e=>g3 _ _ (g _ _ (fun z=>nb (by rw[z];simp)) (b2 _ _ (fun z=>nb (by rw[z];simp)) (g1 _ _ e)));have hx3:Tr true K H3 x d f1:=hxd.frN hfr (fun b hb=>by
    rcases π.mp hb with rfl|hb
    ·exact⟨(fun _ z=>by rw[h]at z;cases z),(fun _ _ z=>by rw[h]at z;cases z)⟩
    ·rw[ο.mp hb];exact⟨(fun _ z=>by rw[hD]at z;cases z),(fun _ _ z=>by rw[hD]at z;cases z)⟩) fun b hb z=>by
    rcases π.mp z with rfl|z
    ·exact n (hsub _ hb)
    ·exact nDf (hsub _ (by rw[←ο.mp z];exact hb))
   have hj:j<ks.length:=(ε.mp hy).1;refine⟨p,_,rfl,SqT.of k3,rfl,_,_,rfl,_,_,rfl,rfl,_,rfl,x,d,f1,r,rfl,rfl,hts d (ι hd),hx3,fun v g4 H4 s4 hn4 h4=>?_⟩;have kD4:=s4 _ _ (g3 _ _ kD);have nD4:D∉g4:=fun z=>by have:=hn4 D z;rw[g3 _ _ kD]at this;cases this
   refine⟨_,rfl,_,rfl,D,_,rfl,pM.k (k:=qr y) kD4 ?_,?_⟩
   ·rw[xS (by rw[Θ,hvl];omega),Θ];exact li (ip (yl _ _) few) (by decide)
   rw[aCj nd hvl hy];generalize e5:upd H4 D _=H5;obtain⟨b5,k5⟩:=vD e5;refine⟨_,_,vs++[v],gs++g4,rfl,(g.trans (But.of (g3.trans s4))).trans b5,k5,by rw[θ,hvl];rfl,?_,hnew.app (fun b hb=>?_),fun z=>(ji.mp z).elim nDg nD4⟩
   ·rw[iw,hd,χ,←e5];exact(Trs.snocF h4 (htr.same (g3.trans s4))).put (fun z=>(ji.mp z).elim nDg nD4) (.inr ⟨_,kD4⟩)
   ·have q1:H2 b=none:=g.none kD (g3.free (hn4 b hb));exact g1.free (b2.none k2 q1)
  ·obtain⟨o2,o3,vs,gs,rfl,g,kD,hvl,htr,hnew,nDg⟩:=z;rw[kl,jZ]at kD;rw[kl,show ks.length=ds.length from l.trans lx,jZ]at htr;refine⟨_,rfl,.inr ⟨a,o,_,g _ _ (lm nDa) k2,(fun o' u' z=>by have z':H a=some (.frz o' u'):=z;rw[h]at z';cases z'),?_⟩⟩;have nag:a∉gs:=fun z=>by have:=hnew a z;rw[h]at this;cases this
   generalize e5:upd H' a _=H5;obtain⟨b5,k5⟩:=vD e5;have hH:jJ H H5:=fun b u e=>by
    by_cases z:b=a
    ·subst z;rw[h]at e;cases e;exact k5
    ·exact b5 _ _ z (g _ _ (fun z=>by rw[z,hD]at e;cases e) (b2 _ _ z (g1 _ _ e)))
   have htr5:Trs false K H5 vs (ds.map (twn r)) gs:=htr.frN (H:=H') (H':=H5) (ms:=[a]) (fun b u nb e=>b5 _ _ (fun z=>nb (by rw[z];exact ο.mpr rfl)) e) (fun b hb=>by rw[ο.mp hb];have:=g _ _ (lm nDa) k2;exact⟨(fun _ z=>by rw[this]at z;cases z),(fun _ _ z=>by rw[this]at z;cases z)⟩) fun b hb z=>nag (by rw[←ο.mp z];exact hb);refine q (.ref D) (D::gs) H5 hH (New.cons hD hnew) ?_;have et:twn (r+1) (.dict (kvD ks ds))=.dict (kvD ks (ds.map (twn r))):=congrArg rn (fO _ _ _);rw[et];exact .dct (b5 _ _ nDa kD) (by rw[hvl];exact kl.symm) htr5 nDg
theorem sX(F:Fun K "_law_mixed" "_law_mixed" dF f fd)(aa:j4 "_law_take" cC)(be:j4 "_law_mixed" (aEx K r)):j0 ["_law_box_here","_law_thing"] (aEx K (r+1)):=by
 w_cond zE;obtain⟨p,x,kd,S,d,r0,er,rfl,hst,hk,hf,hW,hd,hc,q⟩:=h;cases er;refine⟨_,(jD (jX (kK (jG kJ rfl M.isinstance ii (jA (pv 1) (jA (kT (v:=.ty "dict") rfl M.dict boot_dict rfl) jB)))) (jD (jR 2 zE.nd (kY (zR rfl) rfl M.list qh (jA (pv 1) jB))) (jD (jR 3 zE.nd oT) (jD (aJs jo (kF (aIz hr.units) (pv 2) (qE jB)) (jD (jR 4 zE.nd (aD lh PySem.F.slot_list_pop PySem.F.type_list_pop aLf (pv 2) (jA (jF aa hr (jA (pv 0) (jA (jG jW rfl M.len je (jA (pv 2) jB)) jB))) jB))) (jC (gK hr.units1 (pv 3) (pv 4) (jF be hr (jA (pv 0) (jA (yB hr.units1 (pv 1) (pv 4) (fun _ _=>rfl)) jB))) rfl)))) (jC (jI (pv 3)))))) jL) (jD (jX (kK (jG kJ rfl M.isinstance ii (jA (pv 1) (jA (kT (v:=.ty "list") rfl M.list qh rfl) jB)))) (jC (jI (kQ ["_law_one"] ["_law_box_here"] [0] rfl (kU (pv 1)) rfl ⟨rfl,trivial⟩ ⟨⟨rfl,rfl,rfl,_,rfl⟩,trivial⟩ (fun _ _ _ _=>(qC rfl)) (fun _ _ _ _=>kP) (fun _ _ _ _=>(jF be hr (jA (pv 1) (jA (pv 0) jB))))))) jL) (jD (jX (kK (jG kJ rfl M.isinstance ii (jA (pv 1) (jA (kT (v:=.ty "tuple") rfl M.tuple qw rfl) jB)))) (jC (jI (kW (jA (jK jY (pv 1) jE) (jA (jF be hr (jA (pv 0) (jA (jK jY (pv 1) jE) jB))) jB))))) jL) (jC (jI (pv 1)))))),?_⟩;have off:∀{H':Hp},Drawn p H H'->jJ (offs [p] H) (offs [p] H'):=fun dr=>xX fun b o nb e=>dr.2 b o (fun z=>nb (by rw[z];exact ο.mpr rfl)) e;have mup:∀{H':Hp},St3 H' p->Mu H' [p]:=fun z b hb=>by
  obtain⟨u,v,w',e⟩:=z;rw[ο.mp hb];exact .inl ⟨_,e⟩
 have frp:∀{H1 H2:Hp},Drawn p H1 H2->Fr [p] H1 H2:=fun dr b o nb e=>dr.2 b o (fun z=>nb (by rw[z];exact ο.mpr rfl)) e;have np:∀{gs:List Addr},New H gs->∀b∈gs,b∉[p]:=fun hn b hb z=>by
  obtain⟨u,v,w',e⟩:=hst;have:=hn b hb;rw[ο.mp z,e]at this;cases this
 have back:∀{H':Hp}{gs:List Addr},Drawn p H H'->New H' gs->New H gs:=fun dr hn b hb=>by
  cases e:H b with
  |none=>rfl
  |some o =>
   have h1:=hn b hb
   by_cases z:b=p
   ·obtain⟨u,v,w',e2⟩:=dr.1;rw[z,e2]at h1;cases h1
   ·rw[dr.2 b o z e]at h1;cases h1
 cases kd with
 |num w =>
  obtain⟨v,rfl,hv⟩ : ∃v:Nat,d=.int v/\v<256 ^ w:=by cases r <;> exact hc
  cases hd;exact⟨_,rfl,.int v,_,"int",rfl,by decide,.inl rfl,_,rfl,jQ ⟨_,rfl,.int v,_,"int",rfl,by decide,.inl rfl,_,rfl,jQ ⟨_,rfl,.int v,_,"int",rfl,by decide,.inl rfl,_,rfl,jQ ⟨_,rfl,q _ (.int v) [] H (Drawn.refl hst) (.int _) (by cases r <;> exact⟨v,rfl,rfl,hv⟩) fun b hb=>by cases hb⟩⟩⟩⟩
 |many m k =>
  cases r with
  |zero=>exact hc.elim
  |succ r =>
  obtain⟨ds,rfl,cl⟩:=(iS (.inr ⟨m,k,rfl⟩)).mp hc;have few:=(xE hW.good (.inr ⟨m,k,rfl⟩) hf).2;cases hd with
  | @lst a xs _ h0 _ t =>
   have h:SqL K H a xs:=kO.seq h0;have lx:=t.length;have lp:=cl.len;refine⟨_,rfl,.ref a,_,"list",rfl,by decide,.inl (.inl ⟨rfl,_,h⟩),_,rfl,jQ ⟨_,rfl,.ref a,_,"list",rfl,by decide,.inl (.inl ⟨rfl,_,h⟩),_,rfl,kZ ⟨_,rfl,a,rfl,⟨_,h⟩,vO (xs:=xs) (fun j ys H'=>Drawn p H H'/\∃es gs,Trs true K H' ys es gs/\xB (Rec S r) (((Kd.many m k).parts S).take j) (ds.take j) es/\New H gs/\es.length=j) ⟨Drawn.refl hst,[],[],.nil,jm,(fun b hb=>by cases hb),rfl⟩ (fun j ys H' _ z=>⟨kO.seq ((off z.1).seq h0),?_⟩) (kI (by omega)) (fun j x ys H' hx z=>?_) (fun ys H' z p2 hp2=>?_)⟩⟩⟩
   ·obtain⟨_,es,gs,h1,_,_,h2⟩:=z;rw[h1.len,h2];exact ν _
   ·obtain⟨dr,es,gs,htr,hrc,hnew,hel⟩:=z;have hj:j<ds.length:=by rw[←lx];exact(ε.mp hx).1
    obtain⟨f,hpj⟩ : ∃f,((Kd.many m k).parts S)[j]?=some f:=⟨_,ζ (by omega)⟩;obtain⟨d1,hd1,hcd⟩:=cl.get hpj;obtain⟨x',hx',hxd⟩:=t.get hd1;rw[hx]at hx';cases hx';obtain⟨p1,p2,_⟩:=Kd.parts_ok hW.good hf hk (ι hpj);refine⟨_,rfl,_,rfl,p,x,f.2,S,d1,r,rfl,rfl,dr.1,p1,p2,hW,hxd.same (off dr),hcd,fun v e g3 H3 d3 h3 hr3 hn3=>⟨⟨dr.trans d3,es++[e],gs++g3,?_,?_,hnew.app (back dr hn3),by rw[θ,hel];rfl⟩,_,rfl⟩⟩
    ·exact Trs.snoc h3 (htr.fr (frp d3) (mup dr.1) (np hnew)) (hn3.dis htr.mu)
    ·rw[iw,iw,hpj,hd1];exact hrc.app ⟨hr3,jm⟩
   ·obtain⟨dr,es,gs,htr,hrc,hnew,hel⟩:=z;rw[lx,jZ,←lp,jZ]at hrc;clear 1 p2 H3 g3 k3 hp2;exact q (.ref p2) (.list es) (p2::gs) H3 (dr.keep g3) (.lst k3 (htr.same g3) (htr.mu.not hp2)) ⟨ds,es,rfl,rfl,hrc⟩ (New.cons (back dr (fun b hb=>by rw[ο.mp hb];exact hp2) p2 (ο.mpr rfl)) hnew)
 |pick is =>
  cases r with
  |zero=>exact hc.elim
  |succ r =>
  obtain⟨j,i,e,hi,rfl,hce⟩ : ∃(j i:Nat) (e:PyData),is[j]?=some i/\d=.tuple [.int j,e]/\Can S r (.nest i) e:=hc;cases hd with
  | @tup a xs _ h0 dts =>
   cases dts with
   |cons hd0 dts =>
    cases dts with
    | @cons x1 _ _ _ hd1 dts =>
     cases dts;cases hd0;have h:SqT K H a [.int j,x1]:=kO.tp h0;have hki:=hk i (ι hi);refine⟨_,rfl,.ref a,_,"tuple",rfl,by decide,.inl (.inr ⟨rfl,_,h⟩),_,rfl,jQ ⟨_,rfl,.ref a,_,"tuple",rfl,by decide,.inl (.inr ⟨rfl,_,h⟩),_,rfl,jQ ⟨_,rfl,.ref a,_,"tuple",rfl,by decide,.inl (.inr ⟨rfl,_,h⟩),_,rfl,kZ ⟨_,rfl,a,_,_,_,rfl,rfl,h,rfl,_,rfl,_,rfl,a,_,_,_,rfl,rfl,h,rfl,p,x1,.nest i,S,e,r,rfl,rfl,hst,(by show 2*i+2<=r;omega),hf.2.2.2 i (ι hi),hW,hd1,hce,fun v e1 gs H3 d3 h3 hr3 hn3=>⟨xD,fun t5 ht5=>?_⟩⟩⟩⟩⟩;generalize e5:upd H3 t5 _=H5;obtain⟨g5,k5⟩:=kR e5 ht5;exact q (.ref t5) (.tuple [.int j,e1]) gs H5 (d3.keep g5) (.tup (SqT.of k5) (h3.same g5)) ⟨j,i,e,e1,hi,rfl,rfl,hr3⟩ hn3
 |nest i =>
  cases r with
  |zero=>exact hc.elim
  |succ r =>
  obtain⟨ds,rfl,cl⟩:=(iS (.inl ⟨i,rfl⟩)).mp hc;have few:=(xE hW.good (.inl ⟨i,rfl⟩) hf).2;have hn:=vU hW.fnd i;obtain⟨a,xs,rfl,h0,l2,t⟩:=aPf (fs:=(Kd.nest i).parts S) hd cl.len;have l:(((Kd.nest i).parts S).map (·.1)).length=xs.length:=by rw[δ];exact l2
  have h:H a=some (.dK (kz (((Kd.nest i).parts S).map (·.1)) xs)):=kO _ _ h0;have nap:a≠p:=fun z=>by
   have:offs [p] H a=none:=by unfold offs;rw[if_pos (by rw[z];exact ο.mpr rfl)]
   rw[this]at h0;cases h0
  generalize en:((Kd.nest i).parts S).map (·.1)=ns at h l hn h0;have lns:ns.length=((Kd.nest i).parts S).length:=by rw[←en,δ]
  refine⟨_,rfl,.ref a,_,"dict",rfl,by decide,.inr ⟨rfl,a,_,rfl,h⟩,_,rfl,kZ ⟨_,rfl,a,_,rfl,h,(by rw[xS l];omega),fun lf hlf=>?_⟩⟩;rw[nK l];generalize e1:upd H lf _=H1;obtain⟨g1,k1⟩:=kR e1 hlf;intro D hD;generalize e2:upd H1 D _=H2;obtain⟨g2,k2⟩:=kR e2 hD;have g12:=g1.trans g2;have nlp:lf≠p:=fun z=>by obtain⟨u,v,w',e⟩:=hst;rw[←z,hlf]at e;cases e
  have hD0:H D=none:=g1.free hD;have nDp:D≠p:=fun z=>by obtain⟨u,v,w',e⟩:=hst;rw[←z,hD0]at e;cases e
  have nDl:D≠lf:=fun z=>by rw[z,k1]at hD;cases hD
  have hst2:St3 H2 p:=by obtain⟨u,v,w',e⟩:=hst;exact⟨u,v,w',g12 _ _ e⟩
  have nlf:∀{gs:List Addr},New H2 gs->lf∉gs/\D∉gs:=fun hn=>⟨(fun z=>by have:=hn _ z;rw[g2 _ _ k1]at this;cases this),(fun z=>by have:=hn _ z;rw[k2]at this;cases this)⟩;refine aJo (fun σ H'=>∃(left ks:List Str) (vs:List V) (es:List PyData) (gs:List Addr) (o4:Option V),σ = [some (.ref p),some (.ref a),some (.ref lf),some (.ref D),o4]/\Fr [p,lf,D] H2 H'/\St3 H' p/\H' lf=some (.lst (left.map V.str))/\H' D=some (.dK (kz ks vs))/\ks.length=vs.length/\(ks++left).Perm ns/\Trs true K H' vs es gs/\New H2 gs/\∀(q:Nat) (k:Str) (e:PyData),ks[q]?=some k->es[q]?=some e->∃(j:Nat) (d:PyData) (kd:Kd),((Kd.nest i).parts S)[j]?=some (k,kd)/\ds[j]?=some d/\Rec S r kd d e) (fun σ H'=>match H' lf with|some (.lst ys)=>ys.length|_=>0) ⟨ns,[],[],[],[],_,rfl,Fr.refl,hst2,g2 _ _ k1,k2,rfl,List.Perm.refl _,.nil,(fun b hb=>by cases hb),fun q k e h=>by cases h⟩ (fun σ H' z=>?_) ?_
  ·obtain⟨left,ks,vs,es,gs,o4,rfl,f,hp',hlf',hD',lk,hpm,htr,hnew,hrec⟩:=z;refine⟨_,rfl,cZ,fun e0 he0=>?_⟩;clear 1 e0 H3 g3 k3 he0;have hlf3:=g3 _ _ hlf';have hpl:=hpm.length_eq;rw[θ]at hpl;refine⟨lf,e0,_,rfl,rfl,SqL.of hlf3,SqL.of k3,_,rfl,?_⟩;cases left with
   |nil =>
    refine jQ ?_;have hnk:ks.Perm ns:=by rw[jy]at hpm;exact hpm
    refine⟨_,rfl,q (.ref D) (.dict (kvD ks es)) (D::gs) H3 ?_ (.dct (g3 _ _ hD') lk (htr.same g3) (nlf hnew).2) (aQv hW.fnd cl.len (lk.trans htr.len) (by rw[en];exact hnk) hrec) (New.cons hD0 (hnew.back g12))⟩;refine⟨by obtain⟨u,v,w',e⟩:=hp';exact⟨u,v,w',g3 _ _ e⟩,fun b o nb e=>g3 _ _ (f b o (fun z=>?_) (g12 _ _ e))⟩;rcases π.mp z with z|z
    ·exact nb z
    rcases π.mp z with z|z
    ·rw[z,hlf]at e;cases e
    ·rw[ο.mp z,hD0]at e;cases e
   |cons y0 left =>
    refine xF rfl ?_;have hp3:St3 H3 p:=by obtain⟨u,v,w',e⟩:=hp';exact⟨u,v,w',g3 _ _ e⟩
    refine⟨_,rfl,.inl ⟨rfl,_,SqL.of hlf3⟩,_,rfl,_,rfl,lf,_,rfl,.inl (SqL.of hlf3),p,_,rfl,(by rw[δ];show(0:Int)<(left.length+1:Nat);omega),?_,hp3,fun c H4 hc4 d4=>?_⟩
    ·rw[δ,Ω];have:(y0::left).length<=6:=by omega
     rw[Ω]at this;omega
    rw[δ]at hc4;have hc4':c<(y0::left).length:=by omega
    have hlf4:=d4.2 _ _ nlp hlf3;obtain⟨y,hy⟩ : ∃y,(y0::left)[c]?=some y:=⟨_,ζ hc4'⟩;refine⟨lf,_,_,c,.str y,rfl,rfl,hlf4,(by omega),(by omega),?_,?_,?_⟩
    ·exact seqIx (by rw[δ];exact hc4')
    ·rw[ig,hy];rfl
    generalize e5:upd H4 lf _=H5;obtain⟨b5,k5⟩:=vD e5;have fr5:Fr [p,lf,D] H2 H5:=fun b o nb e=>b5 _ _ (fun z=>nb (by rw[z];simp)) (d4.2 _ _ (fun z=>nb (by rw[z];simp)) (g3 _ _ (f b o nb e)));have ap:a∉[p,lf,D]:=fun z=>by
     rcases π.mp z with z|z
     ·exact nap z
     rcases π.mp z with z|z
     ·rw[z,hlf]at h;cases h
     ·rw[ο.mp z,hD0]at h;cases h
    have h5a:=fr5 _ _ ap (g12 _ _ h);have hst5:St3 H5 p:=by obtain⟨u,v,w',e⟩:=d4.1;exact⟨u,v,w',b5 _ _ (lm nlp) e⟩
    have hym:y∈ns:=hpm.mem_iff.mp (Ψ _ (ι hy));obtain⟨j,hj⟩:=jb.mp hym;obtain⟨f1,hf1,ef1⟩ : ∃f,((Kd.nest i).parts S)[j]?=some f/\f.1=y:=by
     rw[←en,ig]at hj;obtain⟨f,hf',ef⟩:=kc.mp hj;exact⟨f,hf',ef⟩
    obtain⟨fk,fd⟩:=f1;cases ef1;obtain⟨d1,hd1,hcd⟩:=cl.get hf1;obtain⟨x1,hx1,hxd⟩:=t.get hd1;obtain⟨p1,p2,_⟩:=Kd.parts_ok hW.good hf hk (ι hf1);have so5:jJ (offs [p] H) (offs [p] H5):=xX fun b o nb e=>fr5 b o (fun z=>by
     rcases π.mp z with z|z
     ·exact nb (by rw[z];exact ο.mpr rfl)
     rcases π.mp z with z|z
     ·rw[z,hlf]at e;cases e
     ·rw[ο.mp z,hD0]at e;cases e) (g12 _ _ e)
    have hD5:H5 D=some (.dK (kz ks vs)):=b5 _ _ nDl (d4.2 _ _ nDp (g3 _ _ hD'));have htr5:Trs true K H5 vs es gs:=by
     have h4:=(htr.same g3).fr (frp d4) (mup hp3) (fun b hb z=>by
      obtain⟨u,v,w',e⟩:=hst2;have:=hnew b hb;rw[ο.mp z,e]at this;cases this)
     rw[←e5];exact h4.put (nlf hnew).1 (.inl ⟨_,hlf4⟩)
    refine⟨_,rfl,_,rfl,_,rfl,a,x1,rfl,(by rw[←gO hn l hj hx1];exact yR.k (k:=.inr fk) h5a),p,x1,fd,S,d1,r,rfl,rfl,hst5,p1,p2,hW,hxd.same so5,hcd,fun v e6 g6 H6 d6 h6 hr6 hn6=>?_⟩;have hD6:=d6.2 _ _ nDp hD5;have hkl:(ks.length:Nat)<6:=by rw[Ω]at hpl;omega
    refine⟨_,rfl,_,rfl,D,_,rfl,pM.k (k:=qr fk) hD6 (by rw[xS lk];exact Nat.lt_trans hkl (by decide)),?_⟩;have nk:fk∉ks:=by
     have hnn:=hpm.symm.nodup hn;exact fun z=>(vz.mp hnn).2.2 _ z _ (ι hy) rfl
    have ep:putK (kz ks vs) (.inr fk) v=kz (ks++[fk]) (vs++[v]):=by
     rw[show kz (ks++[fk]) (vs++[v])=kz ks vs++[((.inr fk:Key),v)] from wo lk];refine eE fun y hy z=>nk ?_;have h1:y.1∈(kz ks vs).map (·.1):=iu.mpr ⟨y,hy,rfl⟩;rw[aE lk,z]at h1;obtain⟨w',hw',ew⟩:=iu.mp h1;cases ew;exact hw'
    rw[ep];generalize e7:upd H6 D _=H7;obtain⟨b7,k7⟩:=vD e7;have nD6:D∉g6:=fun z=>by have:=hn6 D z;rw[hD5]at this;cases this
    have nl6:lf∉g6:=fun z=>by have:=hn6 lf z;rw[k5]at this;cases this
    have k57:H7 lf=_:=b7 _ _ (lm nDl) (d6.2 _ _ nlp k5);have er:(List.map V.str (y0::left)).eraseIdx c=((y0::left).eraseIdx c).map V.str:=rZ _ _ _;rw[er]at k57;have ls:((y0::left).eraseIdx c).length=left.length:=by rw[List.length_eraseIdx_of_lt hc4'];rfl
    have fr7:Fr [p,lf,D] H2 H7:=fun b o nb e=>b7 _ _ (fun z=>nb (by rw[z];simp)) (d6.2 _ _ (fun z=>nb (by rw[z];simp)) (fr5 b o nb e));have hst7:St3 H7 p:=by obtain⟨u,v,w',e⟩:=d6.1;exact⟨u,v,w',b7 _ _ (lm nDp) e⟩
    have np6:∀b∈gs,b∉[p]:=fun b hb z=>by
     obtain⟨u,v,w',e⟩:=hst2;have:=hnew b hb;rw[ο.mp z,e]at this;cases this
    have htr7:Trs true K H7 (vs++[v]) (es++[e6]) (gs++g6):=by
     rw[←e7];exact(Trs.snoc h6 (htr5.fr (frp d6) (mup hst5) np6) (hn6.dis htr5.mu)).put (fun z=>(ji.mp z).elim (nlf hnew).2 nD6) (.inr ⟨_,hD6⟩)
    have hn7:New H2 g6:=fun b hb=>by
     cases eb:H2 b with
     |none=>rfl
     |some o =>
      have h1:=hn6 b hb
      by_cases z:b∈[p,lf,D]
      ·rcases π.mp z with z|z
       ·obtain⟨u,v,w',e⟩:=hst5;rw[z,e]at h1;cases h1
       rcases π.mp z with z|z
       ·rw[z,k5]at h1;cases h1
       ·rw[ο.mp z,hD5]at h1;cases h1
      ·rw[fr5 b o z eb]at h1;cases h1
    refine⟨⟨(y0::left).eraseIdx c,ks++[fk],vs++[v],es++[e6],gs++g6,_,rfl,fr7,hst7,k57,k7,by rw[θ,θ,lk];rfl,?_,htr7,hnew.app hn7,fun q k e hq he=>?_⟩,?_⟩
    ·refine List.Perm.trans ?_ hpm;rw[jg];refine List.Perm.append_left ks ?_;exact nR hy
    ·have les:es.length=ks.length:=by rw[lk];exact htr.len.symm
     by_cases hql:q<ks.length
     ·rw[ir hql]at hq;rw[ir (by omega)]at he;exact hrec q k e hq he
     ·have hq':q=ks.length:=by
       have:=(ε.mp hq).1;rw[θ,mh]at this;omega
      subst hq';rw[ie (ν _),mi]at hq;rw[ie (by omega),les,mi]at he;cases hq;cases he;exact⟨j,d1,fd,hf1,hd1,hr6⟩
    ·show(match H7 lf with|some (.lst ys)=>ys.length|_=>0)<(match H' lf with|some (.lst ys)=>ys.length|_=>0);rw[k57,hlf'];show(List.map V.str _).length<(List.map V.str _).length;rw[δ,δ,ls,Ω];omega
  ·intro σ H' Q' Q'' hq h9;obtain⟨v,hv,hz,h9⟩:=h9;refine⟨v,hv,hz,fun p9 hp9=>?_⟩;obtain⟨a1,b1,xs1,h1,h2,h3,h4,k9,h5,h6⟩:=h9 p9 hp9;exact⟨a1,b1,xs1,h1,h2,h3,h4,k9,h5,hq _ _ h6⟩
theorem lW(F:Fun K "_law_numbered" "_law_numbered" zV f fd)(az:j4 "_law_numbered" (aEq K r)):j0 ["_law_thing","_law_state"] (aEq K (r+1)):=by
 w_cond vX;obtain⟨x,p,e,fs,i,r0,er,rfl,ht,hni,hx,hp,npf,q⟩:=h;cases er;refine⟨_,(jD (jX (kK (jG kJ rfl M.isinstance ii (jA (pv 0) (jA (kT (v:=.ty "tuple") rfl M.tuple qw rfl) jB)))) (jC (qX (jF az hr (jA (jK jY (pv 0) jE) (jA (pv 1) jB))))) jL) (jD (jR 2 vX.nd (qE jB)) (jD (jX (kK (jG kJ rfl M.isinstance ii (jA (pv 0) (jA (kT (v:=.ty "dict") rfl M.dict boot_dict rfl) jB)))) (jC (jR 2 vX.nd (kY (zR rfl) rfl M.list qh (jA (pv 0) jB)))) jL) (jD (jX (kK (jG kJ rfl M.isinstance ii (jA (pv 0) (jA (kT (v:=.ty "list") rfl M.list qh rfl) jB)))) (jC (jR 2 vX.nd (kY (eW rfl) rfl M.list qh (jA (kY lP rfl M.range boot_range (jA (jG jW rfl M.len je (jA (pv 0) jB)) jB)) jB)))) jL) (jC (vF jo rfl (kU (pv 2)) (kS 3 vX.nd) (jC (jX (kK (jG kJ rfl M.isinstance ii (jA (aCi (jK jU (pv 0) (pv 3)) (yB hr.units1 (pv 0) (pv 3) (fun _ _=>rfl))) (jA (kT (v:=.ty "int") rfl M.int boot_int rfl) jB)))) (jD (aQk (cF (jK jU (pv 1) jE) (nF (pv 0) (pv 3) set_list)) (gK hr.units1 (pv 0) (pv 3) (jK jU (pv 1) jE) rfl)) (jC (cF (jV qG (jK jU (pv 1) jE) jE) (nF (pv 1) jE set_list)))) (jC (qX (jF az hr (jA (aCi (jK jU (pv 0) (pv 3)) (yB hr.units1 (pv 0) (pv 3) (fun _ _=>rfl))) (jA (pv 1) jB))))))))))))),?_⟩;cases hx with
 |int v=>exact absurd rfl (hni v)
 | @tup a j x1 d fs h t =>
  cases r with
  |zero=>exact ht.elim
  |succ r =>
  refine⟨_,rfl,.ref a,_,"tuple",rfl,by decide,.inl (.inr ⟨rfl,_,h⟩),_,rfl,kZ ⟨_,rfl,a,_,_,_,rfl,rfl,h,rfl,_,rfl,x1,p,d,fs,i,r,rfl,rfl,ht.1,ht.2,t,hp,npf,fun H3 f3 hp3 h13=>⟨cZ,fun L hL=>?_⟩⟩⟩;have mu3:Mu H (p::fs):=Mu.cons (.inl ⟨_,hp⟩) t.mu;have h3:=f3.tp mu3.nt h;generalize e4:upd H3 L _=H4;obtain⟨g4,k4⟩:=kR e4 hL;have h:=g4.tp h3;refine⟨_,rfl,.ref a,_,"tuple",rfl,by decide,.inl (.inr ⟨rfl,_,h⟩),_,rfl,jQ ⟨_,rfl,.ref a,_,"tuple",rfl,by decide,.inl (.inr ⟨rfl,_,h⟩),_,rfl,jQ ⟨_,rfl,L,rfl,⟨_,SqL.of k4⟩,qU (xs:=[]) (fun j σ H'=>H'=H4) rfl (fun j σ H' _ z=>by rw[z];exact SqL.of k4) (fun j x σ H' hx z=>by cases hx) (fun σ H' z=>?_)⟩⟩⟩;subst z;exact q H' (f3.trans (Fr.of g4)) (g4 _ _ hp3) (.tup h (h13.same g4))
 | @lst a xs ds fs h t n =>
  cases r with
  |zero=>exact ht.elim
  |succ r =>
  obtain⟨_,few,hts⟩:=ht;have lx:=t.len;refine⟨_,rfl,.ref a,_,"list",rfl,by decide,.inl (.inl ⟨rfl,_,SqL.of h⟩),_,rfl,jQ ⟨cZ,fun L0 hL0=>?_⟩⟩;clear 1 L0 H1 g1 k1 hL0;have h1:=g1 _ _ h;refine⟨_,rfl,.ref a,_,"list",rfl,by decide,.inl (.inl ⟨rfl,_,SqL.of h1⟩),_,rfl,jQ ⟨_,rfl,.ref a,_,"list",rfl,by decide,.inl (.inl ⟨rfl,_,SqL.of h1⟩),_,rfl,kZ ⟨_,rfl,a,xs,rfl,.inl (SqL.of h1),_,rfl,fun R hR=>?_⟩⟩⟩;clear 1 R H2 g2 k2 hR;refine⟨R,0,_,rfl,k2,(by omega),fun L hL=>?_⟩;rw[show((xs.length:Nat):Int)-0=((xs.length:Nat):Int) from Int.sub_zero _,oe];clear 1 L H0 g3 kL hL;have g03:=(g1.trans g2).trans g3;have h0a:H0 a=some (.lst ([]++xs.drop 0)):=g03 _ _ h;have h0p:H0 p=some (.lst [.int ((i+cnL (cn r) (ds.take 0):Nat):Int)]):=g03 _ _ hp;have t0:Trs true K H0 (xs.drop 0) (ds.drop 0) fs:=t.same g03;have nap:a≠p:=fun z=>by rw[z]at npf;exact npf (ρ ..)
  have npf:p∉fs:=fun z=>npf (ς _ z);have nLa:L≠a:=fun z=>by rw[z,(g1.trans g2) _ _ h]at hL;cases hL
  have nLp:L≠p:=fun z=>by rw[z,(g1.trans g2) _ _ hp]at hL;cases hL
  have nLf:L∉fs:=(t.same (g1.trans g2)).mu.not hL;have fin9:∀H' ys,Fr (p::a::fs) H0 H'->H' a=some (.lst ys)->Trs true K H' ys (nbL (cn r) (nb r) ds i) fs->H' p=some (.lst [.int ((i+cnL (cn r) ds:Nat):Int)])->Q .non H':=fun H' ys f ha hy hp'=>q H' ((Fr.of g03).trans f) hp' (.lst ha hy n);refine⟨_,rfl,L,rfl,⟨_,SqL.of kL⟩,qU (xs:=(yG 0 xs.length).map V.int) (fun j σ H'=>∃o3 ys f1 f2,σ = [some (.ref a),some (.ref p),some (.ref L),o3]/\Fr (p::a::fs) H0 H'/\H' L=some (.lst ((yG 0 xs.length).map V.int))/\H' a=some (.lst (ys++xs.drop j))/\ys.length=j/\Trs true K H' ys (nbL (cn r) (nb r) (ds.take j) i) f1/\Trs true K H' (xs.drop j) (ds.drop j) f2/\f1++f2=fs/\(∀b∈f1,b∉f2)/\H' p=some (.lst [.int ((i+cnL (cn r) (ds.take j):Nat):Int)])) ⟨_,[],[],fs,rfl,Fr.refl,kL,h0a,rfl,.nil,t0,rfl,(fun b hb=>by cases hb),h0p⟩ (fun j σ H' _ z=>?_) (fun j x σ H' hx z=>?_) (fun σ H' z=>?_)⟩
  ·obtain⟨o3,ys,f1,f2,rfl,_,hL,_⟩:=z;exact SqL.of hL
  ·obtain⟨o3,ys,f1,f2,rfl,f,hL,ha,hyl,hy1,hy2,hff,hdj,hp'⟩:=z;have hjx:j<xs.length:=by have:=(ε.mp hx).1;rw[δ,aY]at this;exact this
   have ex:x=.int (j:Int):=by
    rw[ig]at hx;have hr:(yG 0 xs.length)[j]?=some (j:Int):=by
     unfold yG;rw[ig,ul hjx];show some ((0:Int)+(j:Int))=_;rw[rh]
    rw[hr]at hx;cases hx;rfl
   subst ex;have hjd:j<ds.length:=by omega
   have hdd:ds[j]?=some ds[j]:=ζ hjd;rw[jj hjx]at ha hy2;rw[jj hjd]at hy2;have hat:(ys++xs[j]::xs.drop (j+1))[j]?=some xs[j]:=by rw[ie (by omega),hyl,mi];rfl
   have ljs:ys.length+(xs.drop (j+1)).length+1=xs.length:=by rw[wg];omega
   have ec:cnL (cn r) (ds.take (j+1))=cnL (cn r) (ds.take j)+cn r ds[j]:=aAh hdd;have eb:=aBp (c:=cn r) (f:=nb r) (i:=i) hdd;cases hy2 with
   | @cons _ _ _ _ fx fr h1 h2 h3 =>
    have afs:∀b,b∈f1\/b∈fx\/b∈fr->b∈fs:=fun b hb=>by
     rw[←hff];rcases hb with hb|hb|hb
     ·exact jd _ hb
     ·exact Ψ _ (jd _ hb)
     ·exact Ψ _ (Ψ _ hb)
    have n1:a∉f1:=fun z=>n (afs a (.inl z));have nx:a∉fx:=fun z=>n (afs a (.inr (.inl z)));have nr:a∉fr:=fun z=>n (afs a (.inr (.inr z)));have m1:p∉f1:=fun z=>npf (afs p (.inl z));have mx:p∉fx:=fun z=>npf (afs p (.inr (.inl z)));have mr:p∉fr:=fun z=>npf (afs p (.inr (.inr z)));have d1x:∀b∈f1,b∉fx:=fun b hb z=>hdj b hb (jd _ z);have d1r:∀b∈f1,b∉fr:=fun b hb z=>hdj b hb (Ψ _ z);have hass:(f1++fx)++fr=fs:=by rw[jg];exact hff
    have hdis:∀b∈f1++fx,b∉fr:=fun b hb=>(ji.mp hb).elim (d1r b) (h3 rfl b)
    by_cases hint:∃v,ds[j]=.int v
    ·obtain⟨v,ev⟩:=hint;have ef:fx=[]/\xs[j]=.int v:=by rw[ev]at h1;generalize xs[j]=w9 at h1;cases h1;exact⟨rfl,rfl⟩
     obtain⟨rfl,exj⟩:=ef;refine⟨_,rfl,_,rfl,.inl ⟨a,_,_,xs[j],rfl,rfl,SqL.of ha,qR hat,xs[j],_,"int",rfl,by decide,.inl (by rw[exj];rfl),_,rfl,kZ ?_⟩⟩;refine .inl ⟨_,rfl,p,_,_,_,rfl,rfl,SqL.of hp',rfl,_,rfl,_,rfl,a,_,_,j,rfl,rfl,ha,aMy (by rw[θ,Ω];omega),?_⟩;rw[aLm hyl];generalize e4:upd H' a _=H4;obtain⟨g4,k4⟩:=vD e4;have hp4:=g4 _ _ nap.symm hp';refine⟨_,rfl,p,_,_,_,rfl,rfl,SqL.of hp4,rfl,_,_,rfl,rfl,_,rfl,p,_,_,0,rfl,rfl,hp4,rfl,?_⟩;generalize e5:upd H4 p _=H5;obtain⟨g5,k5⟩:=vD e5;have tr5:∀{us:List V}{es:List PyData}{gs:List Addr},Trs true K H' us es gs->a∉gs->p∉gs->Trs true K H5 us es gs:=fun ht na np=>by
      rw[←e5,←e4];exact(ht.put na (.inl ⟨_,ha⟩)).put np (.inl ⟨_,by rw[e4];exact hp4⟩)
     have enb:nb r ds[j] (i+cnL (cn r) (ds.take j))=.int ((i+cnL (cn r) (ds.take j):Nat):Int):=by rw[ev];cases r <;> rfl
     have ecn:cn r ds[j]=1:=by rw[ev];cases r <;> rfl
     refine⟨_,ys++[.int ((i+cnL (cn r) (ds.take j):Nat):Int)],f1++[],fr,rfl,f.trans (fun b o nb e=>g5 _ _ (fun z=>nb (by rw[z];simp)) (g4 _ _ (fun z=>nb (by rw[z];simp)) e)),g5 _ _ nLp (g4 _ _ nLa hL),?_,by rw[θ,hyl];rfl,?_,tr5 h2 nr mr,hass,hdis,?_⟩
     ·rw[jg];exact g5 _ _ nap k4
     ·rw[eb,enb];exact Trs.snoc (.int _) (tr5 hy1 n1 m1) (fun b _ z=>by cases z)
     ·rw[ec,ecn];have ez:(((i+cnL (cn r) (ds.take j):Nat):Int)+1)=((i+(cnL (cn r) (ds.take j)+1):Nat):Int):=by omega
      rw[←ez];exact k5
    ·have hni:∀v,ds[j]≠.int v:=fun v z=>hint ⟨v,z⟩;obtain⟨ty,hty,hti⟩:=Tr.tyN h1 hni;refine⟨_,rfl,_,rfl,.inl ⟨a,_,_,xs[j],rfl,rfl,SqL.of ha,qR hat,xs[j],_,ty,rfl,by decide,hty,_,rfl,vE (by rw[hti];decide) ?_⟩⟩;refine⟨_,rfl,_,rfl,.inl ⟨a,_,_,xs[j],rfl,rfl,SqL.of ha,qR hat,_,rfl,xs[j],p,ds[j],fx,_,r,rfl,rfl,hts _ (ju hjd),hni,h1,hp',mx,fun H3 f3 hp3 h13=>?_⟩⟩;have mu3:Mu H' (p::fx):=Mu.cons (.inl ⟨_,hp'⟩) h1.mu;have ha3:=f3 _ _ (fun z=>(π.mp z).elim nap nx) ha;have fin:∀b,b∈p::fx->b∈p::a::fs:=fun b hb=>(π.mp hb).elim (fun z=>by rw[z];exact ρ ..) fun z=>ς _ (ς _ (afs b (.inr (.inl z))));refine⟨_,ys++[xs[j]],f1++fx,fr,rfl,f.trans (f3.mono fin),f3 _ _ (fun z=>(π.mp z).elim nLp fun z=>nLf (afs _ (.inr (.inl z)))) hL,?_,by rw[θ,hyl];rfl,?_,h2.fr f3 mu3 (fun b hb z=>(π.mp z).elim (fun z=>mr (by rw[←z];exact hb)) fun z=>h3 rfl b z hb),hass,hdis,?_⟩
     ·rw[jg];exact ha3
     ·rw[eb];exact Trs.snoc h13 (hy1.fr f3 mu3 (fun b hb z=>(π.mp z).elim (fun z=>m1 (by rw[←z];exact hb)) (d1x b hb))) d1x
     ·rw[ec,←wz];exact hp3
  ·obtain⟨o3,ys,f1,f2,rfl,f,hL,ha,hyl,hy1,hy2,hff,hdj,hp'⟩:=z;rw[δ,aY]at ha hy1 hy2 hp' hyl;rw[vY,jy]at ha;rw[lx,jZ]at hy1 hp';have hf:f2=[]:=by rw[vY,lx,vY]at hy2;cases hy2;rfl
   rw[hf,jy]at hff;rw[hff]at hy1;exact fin9 H' ys f ha hy1 hp'
 | @dct a ks xs ds fs h l t n =>
  cases r with
  |zero=>exact ht.elim
  |succ r =>
  have lx:=t.len;obtain⟨nd,few,hts⟩:=aBs (l.trans lx) ht;refine⟨_,rfl,.ref a,_,"dict",rfl,by decide,.inr ⟨rfl,a,_,rfl,h⟩,_,rfl,jQ ⟨cZ,fun L0 hL0=>?_⟩⟩;clear 1 L0 H1 g1 k1 hL0;have h1:=g1 _ _ h;refine⟨_,rfl,.ref a,_,"dict",rfl,by decide,.inr ⟨rfl,a,_,rfl,h1⟩,_,rfl,kZ ⟨_,rfl,a,_,rfl,h1,(by rw[xS l];omega),fun L hL=>?_⟩⟩;rw[nK l];clear 1 L H0 g3 kL hL;have g03:=g1.trans g3;have h0a:H0 a=some (.dK (kz ks ([]++xs.drop 0))):=g03 _ _ h;refine⟨_,rfl,.ref a,_,"dict",rfl,by decide,.inr ⟨rfl,a,_,rfl,h0a⟩,_,rfl,jQ ?_⟩;have h0p:H0 p=some (.lst [.int ((i+cnL (cn r) (ds.take 0):Nat):Int)]):=g03 _ _ hp;have t0:Trs true K H0 (xs.drop 0) (ds.drop 0) fs:=t.same g03;have nap:a≠p:=fun z=>by rw[z]at npf;exact npf (ρ ..)
  have npf:p∉fs:=fun z=>npf (ς _ z);have nLa:L≠a:=fun z=>by rw[z,g1 _ _ h]at hL;cases hL
  have nLp:L≠p:=fun z=>by rw[z,g1 _ _ hp]at hL;cases hL
  have nLf:L∉fs:=(t.same g1).mu.not hL;have ev:(kvD ks ds).map (·.2)=ds:=vV (l.trans lx);have ecd:cn (r+1) (.dict (kvD ks ds))=cnL (cn r) ds:=by show cnL (cn r) ((kvD ks ds).map (·.2))=_;rw[ev]
  have enb:nb (r+1) (.dict (kvD ks ds)) i=.dict (kvD ks (nbL (cn r) (nb r) ds i)):=by
   show rn (il (fun (p:PyData×PyData) d=>(p.1,d)) (kvD ks ds) (nbL (cn r) (nb r) ((kvD ks ds).map (·.2)) i))=_;rw[ev,aBv (l.trans lx)]
  have fin9:∀H' ys,Fr (p::a::fs) H0 H'->H' a=some (.dK (kz ks ys))->ks.length=ys.length->Trs true K H' ys (nbL (cn r) (nb r) ds i) fs->H' p=some (.lst [.int ((i+cnL (cn r) ds:Nat):Int)])->Q .non H':=fun H' ys f ha ly hy hp'=>q H' ((Fr.of g03).trans f) (by rw[ecd];exact hp') (by rw[enb];exact .dct ha ly hy n);refine⟨_,rfl,L,rfl,⟨_,SqL.of kL⟩,qU (xs:=ks.map V.str) (fun j σ H'=>∃o3 ys f1 f2,σ = [some (.ref a),some (.ref p),some (.ref L),o3]/\Fr (p::a::fs) H0 H'/\H' L=some (.lst (ks.map V.str))/\H' a=some (.dK (kz ks (ys++xs.drop j)))/\ys.length=j/\Trs true K H' ys (nbL (cn r) (nb r) (ds.take j) i) f1/\Trs true K H' (xs.drop j) (ds.drop j) f2/\f1++f2=fs/\(∀b∈f1,b∉f2)/\H' p=some (.lst [.int ((i+cnL (cn r) (ds.take j):Nat):Int)])) ⟨_,[],[],fs,rfl,Fr.refl,kL,h0a,rfl,.nil,t0,rfl,(fun b hb=>by cases hb),h0p⟩ (fun j σ H' _ z=>?_) (fun j x σ H' hx z=>?_) (fun σ H' z=>?_)⟩
  ·obtain⟨o3,ys,f1,f2,rfl,_,hL,_⟩:=z;exact SqL.of hL
  ·obtain⟨o3,ys,f1,f2,rfl,f,hL,ha,hyl,hy1,hy2,hff,hdj,hp'⟩:=z;obtain⟨y,hy,rfl⟩:=xM hx;have hjx:j<xs.length:=by rw[←l];exact(ε.mp hy).1
   have hjd:j<ds.length:=by omega
   have hdd:ds[j]?=some ds[j]:=ζ hjd;rw[jj hjx]at ha hy2;rw[jj hjd]at hy2;have hat:(ys++xs[j]::xs.drop (j+1))[j]?=some xs[j]:=by rw[ie (by omega),hyl,mi];rfl
   have ljs:ys.length+(xs.drop (j+1)).length+1=xs.length:=by rw[wg];omega
   have lv:ks.length=(ys++xs[j]::xs.drop (j+1)).length:=by rw[θ,Ω,l];omega
   have ec:cnL (cn r) (ds.take (j+1))=cnL (cn r) (ds.take j)+cn r ds[j]:=aAh hdd;have eb:=aBp (c:=cn r) (f:=nb r) (i:=i) hdd;cases hy2 with
   | @cons _ _ _ _ fx fr h1 h2 h3 =>
    have afs:∀b,b∈f1\/b∈fx\/b∈fr->b∈fs:=fun b hb=>by
     rw[←hff];rcases hb with hb|hb|hb
     ·exact jd _ hb
     ·exact Ψ _ (jd _ hb)
     ·exact Ψ _ (Ψ _ hb)
    have n1:a∉f1:=fun z=>n (afs a (.inl z));have nx:a∉fx:=fun z=>n (afs a (.inr (.inl z)));have nr:a∉fr:=fun z=>n (afs a (.inr (.inr z)));have m1:p∉f1:=fun z=>npf (afs p (.inl z));have mx:p∉fx:=fun z=>npf (afs p (.inr (.inl z)));have mr:p∉fr:=fun z=>npf (afs p (.inr (.inr z)));have d1x:∀b∈f1,b∉fx:=fun b hb z=>hdj b hb (jd _ z);have d1r:∀b∈f1,b∉fr:=fun b hb z=>hdj b hb (Ψ _ z);have hass:(f1++fx)++fr=fs:=by rw[jg];exact hff
    have hdis:∀b∈f1++fx,b∉fr:=fun b hb=>(ji.mp hb).elim (d1r b) (h3 rfl b)
    by_cases hint:∃v,ds[j]=.int v
    ·obtain⟨v,ev⟩:=hint;have ef:fx=[]/\xs[j]=.int v:=by rw[ev]at h1;generalize xs[j]=w9 at h1;cases h1;exact⟨rfl,rfl⟩
     obtain⟨rfl,exj⟩:=ef;refine⟨_,rfl,_,rfl,.inr ⟨a,xs[j],rfl,(by rw[←gO nd lv hy hat];exact yR.k (k:=.inr y) ha),xs[j],_,"int",rfl,by decide,.inl (by rw[exj];rfl),_,rfl,kZ ?_⟩⟩;refine .inr ⟨_,rfl,p,_,_,_,rfl,rfl,SqL.of hp',rfl,_,rfl,_,rfl,a,_,rfl,pM.k (k:=qr y) ha (by rw[xS lv];exact li few (by decide)),?_⟩;rw[aKb nd lv (by rw[hyl];exact hy)];generalize e4:upd H' a _=H4;obtain⟨g4,k4⟩:=vD e4;have hp4:=g4 _ _ nap.symm hp';refine⟨_,rfl,p,_,_,_,rfl,rfl,SqL.of hp4,rfl,_,_,rfl,rfl,_,rfl,p,_,_,0,rfl,rfl,hp4,rfl,?_⟩;generalize e5:upd H4 p _=H5;obtain⟨g5,k5⟩:=vD e5;have tr5:∀{us:List V}{es:List PyData}{gs:List Addr},Trs true K H' us es gs->a∉gs->p∉gs->Trs true K H5 us es gs:=fun ht na np=>by
      rw[←e5,←e4];exact(ht.put na (.inr ⟨_,ha⟩)).put np (.inl ⟨_,by rw[e4];exact hp4⟩)
     have enb:nb r ds[j] (i+cnL (cn r) (ds.take j))=.int ((i+cnL (cn r) (ds.take j):Nat):Int):=by rw[ev];cases r <;> rfl
     have ecn:cn r ds[j]=1:=by rw[ev];cases r <;> rfl
     refine⟨_,ys++[.int ((i+cnL (cn r) (ds.take j):Nat):Int)],f1++[],fr,rfl,f.trans (fun b o nb e=>g5 _ _ (fun z=>nb (by rw[z];simp)) (g4 _ _ (fun z=>nb (by rw[z];simp)) e)),g5 _ _ nLp (g4 _ _ nLa hL),?_,by rw[θ,hyl];rfl,?_,tr5 h2 nr mr,hass,hdis,?_⟩
     ·rw[jg];exact g5 _ _ nap k4
     ·rw[eb,enb];exact Trs.snoc (.int _) (tr5 hy1 n1 m1) (fun b _ z=>by cases z)
     ·rw[ec,ecn];have ez:(((i+cnL (cn r) (ds.take j):Nat):Int)+1)=((i+(cnL (cn r) (ds.take j)+1):Nat):Int):=by omega
      rw[←ez];exact k5
    ·have hni:∀v,ds[j]≠.int v:=fun v z=>hint ⟨v,z⟩;obtain⟨ty,hty,hti⟩:=Tr.tyN h1 hni;refine⟨_,rfl,_,rfl,.inr ⟨a,xs[j],rfl,(by rw[←gO nd lv hy hat];exact yR.k (k:=.inr y) ha),xs[j],_,ty,rfl,by decide,hty,_,rfl,vE (by rw[hti];decide) ?_⟩⟩;refine⟨_,rfl,_,rfl,.inr ⟨a,xs[j],rfl,(by rw[←gO nd lv hy hat];exact yR.k (k:=.inr y) ha),_,rfl,xs[j],p,ds[j],fx,_,r,rfl,rfl,hts _ (ju hjd),hni,h1,hp',mx,fun H3 f3 hp3 h13=>?_⟩⟩;have mu3:Mu H' (p::fx):=Mu.cons (.inl ⟨_,hp'⟩) h1.mu;have ha3:=f3 _ _ (fun z=>(π.mp z).elim nap nx) ha;have fin:∀b,b∈p::fx->b∈p::a::fs:=fun b hb=>(π.mp hb).elim (fun z=>by rw[z];exact ρ ..) fun z=>ς _ (ς _ (afs b (.inr (.inl z))));refine⟨_,ys++[xs[j]],f1++fx,fr,rfl,f.trans (f3.mono fin),f3 _ _ (fun z=>(π.mp z).elim nLp fun z=>nLf (afs _ (.inr (.inl z)))) hL,?_,by rw[θ,hyl];rfl,?_,h2.fr f3 mu3 (fun b hb z=>(π.mp z).elim (fun z=>mr (by rw[←z];exact hb)) fun z=>h3 rfl b z hb),hass,hdis,?_⟩
     ·rw[jg];exact ha3
     ·rw[eb];exact Trs.snoc h13 (hy1.fr f3 mu3 (fun b hb z=>(π.mp z).elim (fun z=>m1 (by rw[←z];exact hb)) (d1x b hb))) d1x
     ·rw[ec,←wz];exact hp3
  ·obtain⟨o3,ys,f1,f2,rfl,f,hL,ha,hyl,hy1,hy2,hff,hdj,hp'⟩:=z;rw[δ]at ha hy1 hy2 hp' hyl;rw[show ks.length=xs.length from l,vY,jy]at ha;rw[show ks.length=ds.length from l.trans lx,jZ]at hy1 hp';have hf:f2=[]:=by rw[show ks.length=xs.length from l,vY,lx,vY]at hy2;cases hy2;rfl
   rw[hf,jy]at hff;rw[hff]at hy1;exact fin9 H' (ys) f ha (by rw[hyl]) hy1 hp'
theorem rM{r:Nat}(F:Fun K "_law_unlike" "_law_unlike" bQ f fd)(az:j4 "_law_numbered" (aEq K (r+1)))(aw:j4 "_law_numbers" (aFs K (r+1))):j0 ["_law_thing"] (aOt K r):=by
 w_cond eV;obtain⟨x,e,fs,rfl,ht,hni,hx,hcn,q⟩:=h;refine⟨_,(jD (jR 1 eV.nd (qE (jA jE jB))) (jD (qX (jF az hr (jA (pv 0) (jA (pv 1) jB)))) (jC (jI (qY (aPo hr.units) (jF aw hr (jA (pv 0) jB)) (kY (eW rfl) rfl M.list qh (jA (kY lP rfl M.range boot_range (jA (jK jU (pv 1) jE) jB)) jB)) (vW _)))))),?_⟩;refine⟨iU,fun p hp=>?_⟩;clear 1 p H1 g1 k1 hp;have npf:p∉fs:=hx.mu.not hp;refine⟨_,rfl,_,rfl,x,p,e,fs,0,r,rfl,rfl,ht,hni,hx.same g1,k1,npf,fun H2 f2 hp2 h2=>?_⟩;rw[Nat.zero_add]at hp2;have hlen:(nu r (nb r e 0)).length<=2000:=by rw[aNy 0 ht];unfold rg;rw[δ,jw];exact hcn
 refine⟨_,rfl,x,nb r e 0,r,rfl,rfl,aQy ht,h2.dt,hlen,fun l H3 g3 k3=>?_⟩;refine⟨_,rfl,p,_,_,_,rfl,rfl,SqL.of (g3 _ _ hp2),rfl,_,rfl,fun R hR=>?_⟩;clear 1 R H4 g4 k4 hR;refine⟨R,0,_,rfl,k4,(by omega),fun L hL=>?_⟩;rw[show((cn r e:Nat):Int)-0=((cn r e:Nat):Int) from Int.sub_zero _,oe];clear 1 L H5 g5 k5 hL;rw[aNy 0 ht]at k3;have er:yG 0 (cn r e)=rg 0 (cn r e):=by
  unfold yG rg;refine qg fun k _=>?_;show(0:Int)+(k:Int)=((0+k:Nat):Int);omega
 rw[er]at k5;have hsh:ou (.list ((rg 0 (cn r e)).map PyData.int))=true:=aMh _;refine⟨_,_,.lst (SqL.of (g5 _ _ (g4 _ _ k3))) (nM _),.lst (SqL.of k5) (nM _),hsh,hsh,?_⟩;rw[aAi hsh];refine q H5 fun b o nb e=>g5 _ _ (g4 _ _ (g3 _ _ (f2 _ _ (fun z=>(π.mp z).elim (fun z=>by rw[z,hp]at e;cases e) nb) (g1 _ _ e))))
theorem tZ{r:Nat}(F:Fun K "_law_right" "_law_right" dH f fd)(aa:j4 "_law_take" cC)(ae:j4 "_law_sorted" (aFj K (r+1)))(aq:j4 "copied" (aFd K (r+1)))(bc:j4 "is_record" (uP (j7 0) K r))(ah:j4 "_law_spoilt" (aEs K (r+1)))(br:j4 "_law_unlike" (aOt K r))(ci:j4 "blank" (aEu (j7 0) K (r+1)))(bq:j4 "_law_twin" (aDo K (r+1)))(gm:j4 "flat" (aOn (j7 0) K r))(ce:j4 "of_flat" (aOx (j7 0) K r)):j0 ["_law_box_here","_law_shape","_law_record"] (aOz (j7 0) K r):=by
 w_cond qA;obtain⟨p,s,x,i,sa,S,d,e,fs,rfl,hst,npf,e0,hi,hr9,h64,hw,hW,hx,hR,q⟩:=h;refine⟨_,(jD (jR 3 qA.nd (jG (xR (K:=K) rfl hr.gd hr.units) rfl M.repr (show my "repr" = some (.builtin "repr") from by ac_rfl) (jA (jF ae hr (jA (pv 2) jB)) jB))) (jD (jR 4 qA.nd (jF aq hr (jA (pv 2) jB))) (jD (jR 5 qA.nd (jF aq hr (jA (pv 4) jB))) (jD (vF jo rfl (kU (qE (jA (pv 4) (jA (pv 5) (jA (pv 2) jB))))) (kS 6 qA.nd) (jC (jX (PW.pt (yP (kF eR (jG (xR (K:=K) rfl hr.gd hr.units) rfl M.repr (show my "repr" = some (.builtin "repr") from by ac_rfl) (jA (jF ae hr (jA (pv 6) jB)) jB)) (pv 3)) (yP (kF (aMv hr.units) (pv 6) (pv 2)) (yH (vH (kK (jF bc hr (jA (pv 1) (jA (pv 6) jB))))))))) (jC (jI aA)) jL))) (jD (jR 7 qA.nd (qE (jA (pv 4) (jA (pv 5) (jA (pv 2) jB))))) (jD (jR 8 qA.nd (jF aa hr (jA (pv 0) (jA jE jB)))) (jD (vF jo rfl (vJ rfl M.range (jA jE jB)) (kS 9 qA.nd) (jD (qX (jF ah hr (jA (jK jU (pv 7) (jV xT (jV qG (pv 8) (pv 9)) jE)) jB))) (jC (jX (kF eR (jG (xR (K:=K) rfl hr.gd hr.units) rfl M.repr (show my "repr" = some (.builtin "repr") from by ac_rfl) (jA (jF ae hr (jA (jK jU (pv 7) (jV xT (jV qG (pv 8) jE) jE)) jB)) jB)) (pv 3)) (jC (jI aA)) jL)))) (jD (jR 10 qA.nd (jK jU (pv 7) (jV xT (jV qG (pv 8) jE) jE))) (jD (jX (PW.pt (yP (vH (kK (jF br hr (jA (jF aq hr (jA (pv 10) jB)) jB)))) (yP (vH (kK (jF br hr (jA (jF ci hr (jA (pv 1) jB)) jB)))) (yH (vH (kK (jF br hr (jA (jF aq hr (jA (jF bq hr (jA (pv 10) jB)) jB)) jB)))))))) (jC (jI aA)) jL) (jD (jR 11 qA.nd (jF gm hr (jA (pv 1) (jA (pv 10) jB)))) (jD (jX (vH (kK (jF br hr (jA (jF ce hr (jA (pv 1) (jA (pv 11) jB))) jB)))) (jC (jI aA)) jL) (jD (jR 12 qA.nd (jF ce hr (jA (pv 1) (jA (pv 11) jB)))) (jD (jR 13 qA.nd (jF ce hr (jA (pv 1) (jA (pv 11) jB)))) (jD (qX (jF ah hr (jA (pv 12) jB))) (jD (jX (PW.pt (yP (kF eR (jG (xR (K:=K) rfl hr.gd hr.units) rfl M.repr (show my "repr" = some (.builtin "repr") from by ac_rfl) (jA (jF ae hr (jA (pv 13) jB)) jB)) (pv 3)) (yP (kF (aId hr.units) (jF gm hr (jA (pv 1) (jA (pv 10) jB))) (pv 11)) (yH (kF (aQo hr.units) (jF ce hr (jA (pv 1) (jA (pv 11) jB))) (pv 10)))))) (jC (jI aA)) jL) (jD (jR 14 qA.nd (jF ci hr (jA (pv 1) jB))) (jD (jR 15 qA.nd (jG (xR (K:=K) rfl hr.gd hr.units) rfl M.repr (show my "repr" = some (.builtin "repr") from by ac_rfl) (jA (jF ae hr (jA (pv 14) jB)) jB))) (jD (qX (jF ah hr (jA (pv 14) jB))) (jC (jI (vZ (qY qQ (jG (xR (K:=K) rfl hr.gd hr.units) rfl M.repr (show my "repr" = some (.builtin "repr") from by ac_rfl) (jA (jF ae hr (jA (jF ci hr (jA (pv 1) jB)) jB)) jB)) (pv 15) (vW _)) (xZ (qY qQ (jG (xR (K:=K) rfl hr.gd hr.units) rfl M.repr (show my "repr" = some (.builtin "repr") from by ac_rfl) (jA (jF ae hr (jA (jF aq hr (jA (pv 10) jB)) jB)) jB)) (pv 3) (vW _)))))))))))))))))))))))),?_⟩;have hil:i<S.length:=by rw[←hw.1];exact(ε.mp e0).1
 have hrk:(Kd.nest i).Rk r:=hi;have hfit:(Kd.nest i).Fit S.length:=hil;have hT:=eF hW.good hW.fnd hfit hrk hR;have hcn:=dY hR;have hRd:=gR hcn;have hTd:=eF hW.good hW.fnd hfit hrk hRd;have ni:=aCu hR;have cnb:∀{d' e':PyData},Rec S r (.nest i) d' e'->cn r e'<=64:=fun hr'=>ip (aPn hW.good hfit hrk hr') h64;have shw:∀{d' e' y:PyData},Rec S r (.nest i) d' e'->Srt r e' y->y.showable=true/\y.depth<=60/\y.shown.length<=ψ:=fun {d' e' y} hr' hs=>by
  have h1:=aPh (aLy hW.good hW.nms hW.fnd hfit hrk hr') hs;have h3 : 120*cn r e'*(r+1)<=120*64*10:=Nat.mul_le_mul (Nat.mul_le_mul_left _ (cnb hr')) (by omega);exact⟨h1.sh,ip h1.dp (by omega),h1.len (ip h3 (by decide))⟩
 generalize eB:offs (p::fs) H=B at hw q;have sB:jJ B H:=by rw[←eB];exact kO
 have Bfs:New B fs:=fun b hb=>by rw[←eB];unfold offs;rw[if_pos (ς _ hb)]
 have Bp:B p=none:=by rw[←eB];unfold offs;rw[if_pos (ρ ..)]
 have Bn:∀{b:Addr},H b=none->B b=none:=fun {b} h=>by
  cases e9:B b with
  |none=>rfl
  |some o=>rw[sB _ _ e9]at h;cases h
 refine⟨_,rfl,x,e,r,rfl,rfl,hT,hx.dt,fun v0 y0 H1 g1 hv0 hs0=>?_⟩;obtain⟨w1,w2,w3⟩:=shw hR hs0;refine⟨v0,y0,rfl,.inl hv0,w1,w2,w3,?_⟩;have rp:∀{e' y:PyData},Rec S r (.nest i) d e'->Srt r e' y->y.shown=y0.shown:=fun hr' hs=>by rw[iB hW.fnd hr' hR hs hs0]
 refine⟨_,rfl,x,e,fs,r,rfl,rfl,hT,(hx.same g1).any,fun x1 f1 H2 g2 n1 t1=>?_⟩;refine⟨_,rfl,x1,e,f1,r,rfl,rfl,hT,t1.any,fun x2 f2 H3 g3 n2 t2=>?_⟩;have tx2:=(hx.same g1).same g2;have tx3:=tx2.same g3;have t13:=t1.same g3;have d01:∀a∈fs,a∉f1:=n1.dis (hx.same g1).mu;have d02:∀a∈fs,a∉f2:=n2.dis tx2.mu;have d12:∀a∈f1,a∉f2:=n2.dis t1.mu;have g03:=(g1.trans g2).trans g3;have hst3:St3 H3 p:=by obtain⟨u,v,w',e9⟩:=hst;exact⟨u,v,w',g03 _ _ e9⟩
 have Bf1:New B f1:=fun b hb=>Bn (g1.free (n1 b hb));have Bf2:New B f2:=fun b hb=>Bn ((g1.trans g2).free (n2 b hb));have pf1:p∉f1:=fun z=>by obtain⟨u,v,w',e9⟩:=hst;have:=n1 p z;rw[g1 _ _ e9]at this;cases this
 have pf2:p∉f2:=fun z=>by obtain⟨u,v,w',e9⟩:=hst;have:=n2 p z;rw[(g1.trans g2) _ _ e9]at this;cases this
 refine⟨_,rfl,_,rfl,_,rfl,lZ,fun l4 hl4=>?_⟩;clear 1 l4 H4 g4 k4 hl4;refine⟨l4,rfl,⟨_,SqL.of k4⟩,qU (xs:=[x1,x2,x]) (fun j σ H'=>∃o6,σ = [some (.ref p),some (.ref s),some x,some (.str y0.shown),some x1,some x2,o6,none,none,none,none,none,none,none,none,none]/\jJ H4 H') ⟨_,rfl,jJ.refl _⟩ (fun j σ H' _ z=>?_) (fun j x' σ H' hx' z=>?_) (fun σ H5 z=>?_)⟩
 ·obtain⟨o6,rfl,g⟩:=z;exact SqL.of (g _ _ k4)
 ·obtain⟨o6,rfl,g⟩:=z;have g3':=g4.trans g;have hd':Dt false K H' x' e:=by
   match j,hx' with
   |0,hx'=>cases hx';exact(t13.same g3').dt
   |1,hx'=>cases hx';exact(t2.same g3').dt
   |2,hx'=>cases hx';exact(tx3.same g3').dt
   |j+3,hx'=>cases hx'
  have hxr:Dt false K H' x e:=(tx3.same g3').dt;refine⟨_,rfl,x',e,r,rfl,rfl,hT,hd',fun v5 y5 H5 g5 hv5 hs5=>?_⟩;obtain⟨u1,u2,u3⟩:=shw hR hs5;refine⟨v5,y5,rfl,.inl hv5,u1,u2,u3,_,rfl,rfl,_,rfl,vE (by rw[rp hR hs5];simp) ?_⟩;refine⟨_,rfl,_,rfl,ne9 hR (ip (aMt hT) (by omega)) (hd'.same g5) (hxr.same g5) ⟨_,rfl,jQ ?_⟩⟩;refine⟨_,rfl,_,rfl,s,x',i,sa,S,d,e,rfl,e0,hi,hw.same (((sB.trans g03).trans g3').trans g5),hW,hd'.same g5,hR,fun H6 g6=>⟨_,rfl,jQ ?_⟩⟩;exact⟨_,rfl,(g.trans g5).trans g6⟩
 obtain⟨o6,rfl,g5⟩:=z;have g35:=g4.trans g5;refine⟨_,rfl,_,rfl,_,rfl,lZ,fun l7 hl7=>?_⟩;clear 1 l7 H6 g6 k6 hl7;have g36:=g35.trans g6;have hst6:St3 H6 p:=by obtain⟨u,v,w',e9⟩:=hst3;exact⟨u,v,w',g36 _ _ e9⟩
 have nlp:l7≠p:=fun z=>by obtain⟨u,v,w',e9⟩:=hst3;rw[z,g35 _ _ e9]at hl7;cases hl7
 refine⟨_,rfl,p,3,rfl,by decide,by decide,hst6,fun tn H7 htn d7=>?_⟩;have frp:Fr [p] H6 H7:=fun b o nb e9=>d7.2 b o (fun z=>nb (by rw[z];exact ο.mpr rfl)) e9;have mup:Mu H6 [p]:=fun b hb=>by
  obtain⟨u,v,w',e9⟩:=hst6;rw[ο.mp hb];exact .inl ⟨_,e9⟩
 have tr7:∀{x':V}{f':List Addr},Tr true K H3 x' e f'->p∉f'->Tr true K H7 x' e f':=fun ht np=>(ht.same g36).fr frp mup fun b hb z=>np (by rw[←ο.mp z];exact hb);have sB7:jJ B H7:=fun b o e9=>d7.2 b o (fun z=>by rw[z,Bp]at e9;cases e9) (g36 _ _ (g03 _ _ (sB _ _ e9)));have k7:=d7.2 _ _ nlp k6;obtain⟨L,eL⟩ : ∃L:List (V×List Addr),L=[(x1,f1),(x2,f2),(x,fs)]:=⟨_,rfl⟩;have aL:∀(j:Nat) (x':V) (f':List Addr),L[j]?=some (x',f')->p∉f'/\l7∉f'/\New B f'/\Tr true K H7 x' e f'/\[x1,x2,x][j]?=some x':=fun j x' f' h9=>by
  rw[eL]at h9
  match j,h9 with
  |0,h9=>cases h9;exact⟨pf1,(t13.same g35).mu.not hl7,Bf1,tr7 t13 pf1,rfl⟩
  |1,h9=>cases h9;exact⟨pf2,(t2.same g35).mu.not hl7,Bf2,tr7 t2 pf2,rfl⟩
  |2,h9=>cases h9;exact⟨npf,(tx3.same g35).mu.not hl7,Bfs,tr7 tx3 npf,rfl⟩
  |j+3,h9=>cases h9
 have dL:∀(j j':Nat) (x' x'':V) (f' f'':List Addr),L[j]?=some (x',f')->L[j']?=some (x'',f'')->j≠j'->∀a∈f',a∉f'':=fun j j' x' x'' f' f'' h9 h8 nj a ha=>by
  rw[eL]at h9 h8
  match j,h9,j',h8 with
  |0,h9,0,h8=>exact absurd rfl nj
  |1,h9,1,h8=>exact absurd rfl nj
  |2,h9,2,h8=>exact absurd rfl nj
  |0,h9,1,h8=>cases h9;cases h8;exact d12 a ha
  |1,h9,0,h8=>cases h9;cases h8;exact fun z=>d12 a z ha
  |0,h9,2,h8=>cases h9;cases h8;exact fun z=>d01 a z ha
  |2,h9,0,h8=>cases h9;cases h8;exact d01 a ha
  |1,h9,2,h8=>cases h9;cases h8;exact fun z=>d02 a z ha
  |2,h9,1,h8=>cases h9;cases h8;exact d02 a ha
  |j+3,h9,_,_=>cases h9
  |_,_,j+3,h8=>cases h8
 have xL:∀j,j<3->∃x' f',L[j]?=some (x',f'):=fun j hj=>by
  rw[eL]
  match j,hj with
  |0,_=>exact⟨_,_,rfl⟩
  |1,_=>exact⟨_,_,rfl⟩
  |2,_=>exact⟨_,_,rfl⟩
  |j+3,hj=>omega
 have hst7:St3 H7 p:=d7.1;have wk:∀{H':Hp},jJ B H'->SW _ K H' sa S:=fun g=>hw.same g;refine⟨2,rfl,by omega,by omega,bE (n:=2) (fun j σ H'=>∃o9,σ = [some (.ref p),some (.ref s),some x,some (.str y0.shown),some x1,some x2,o6,some (.ref l7),some (.int (tn:Nat)),o9,none,none,none,none,none,none]/\jJ B H'/\St3 H' p/\H' l7=some (.lst [x1,x2,x])/\∀(m:Nat) (x':V) (f':List Addr),L[m]?=some (x',f')->(∀q<j,m≠(tn+q) % 3)->Tr true K H' x' e f') ⟨_,rfl,sB7,hst7,k7,fun m x' f' hm _=>(aL m x' f' hm).2.2.2.1⟩ (fun j σ H' hj z=>?_) (fun σ H8 z=>?_)⟩
 ·obtain⟨o9,rfl,sB',st',k',tr'⟩:=z;obtain⟨xa,fa,ea⟩:=xL ((tn+j) % 3) (by omega);obtain⟨xb,fb,eb⟩:=xL ((tn+2) % 3) (by omega);obtain⟨pa,la,na,_,ia⟩:=aL _ _ _ ea;obtain⟨pb,lb,nb',_,ib⟩:=aL _ _ _ eb;have ta:=tr' _ _ _ ea fun q hq=>by omega
  have tb:=tr' _ _ _ eb fun q hq=>by omega
  refine⟨_,rfl,_,rfl,_,rfl,_,_,rfl,rfl,_,_,rfl,rfl,(by show(0:Int)<3;decide),l7,_,_,xa,rfl,rfl,SqL.of k',?_,xa,e,fa,r,rfl,rfl,hT,ta,fun H9 f9=>?_⟩
  ·rw[show((tn:Int)+(0+(j:Int))) % 3=(((tn+j) % 3:Nat):Int) by omega];exact qR ia
  have k9:=f9 _ _ la k';have tb9:Tr true K H9 xb e fb:=tb.fr f9 ta.mu (dL _ _ _ _ _ _ eb ea (by omega));have st9:St3 H9 p:=by obtain⟨u,v,w',e9⟩:=st';exact⟨u,v,w',f9 _ _ pa e9⟩
  refine⟨_,rfl,_,rfl,_,_,rfl,rfl,_,_,rfl,rfl,(by show(0:Int)<3;decide),l7,_,_,xb,rfl,rfl,SqL.of k9,?_,xb,e,r,rfl,rfl,hT,tb9.dt,fun v5 y5 H5' g5' hv5 hs5=>?_⟩
  ·rw[show((tn:Int)+2) % 3=(((tn+2) % 3:Nat):Int) by omega];exact qR ib
  obtain⟨u1,u2,u3⟩:=shw hR hs5;refine⟨v5,y5,rfl,.inl hv5,u1,u2,u3,_,rfl,rfl,_,rfl,vE (by rw[rp hR hs5];simp) ?_⟩;refine⟨_,rfl,(Fr.same sB' f9 na).trans g5',?_,g5' _ _ k9,fun m x' f' hm hq=>?_⟩
  ·obtain⟨u,v,w',e9⟩:=st9;exact⟨u,v,w',g5' _ _ e9⟩
  ·exact((tr' m x' f' hm fun q hq'=>hq q (by omega)).fr f9 ta.mu (dL _ _ _ _ _ _ hm ea (hq j (by omega)))).same g5'
 obtain⟨o9,rfl,sB8,st8,k8,tr8⟩:=z;obtain⟨x9,f9,e9⟩:=xL ((tn+2) % 3) (by omega);have i9:=(aL _ _ _ e9).2.2.2.2;have t9:=tr8 _ _ _ e9 fun q hq=>by omega
 clear tr8 aL dL xL tr7;have hcb:Can S r (.nest i) (blD S r (.nest i)):=aQh hW.good hfit hrk;have hRb:=gR hcb;have hTb:=eF hW.good hW.fnd hfit hrk hRb;obtain⟨n9,hn9⟩ : ∃n9,r=n9+1:=⟨r-1,by omega⟩;have fin:∀{H':Hp},jJ H8 H'->Q (.bl true) H':=fun g=>q _ (by obtain⟨u,v,w',e9⟩:=st8;exact⟨u,v,w',g _ _ e9⟩) (sB8.trans g);refine⟨_,rfl,_,rfl,_,_,rfl,rfl,_,_,rfl,rfl,(by show(0:Int)<3;decide),l7,_,_,x9,rfl,rfl,SqL.of k8,?_,?_⟩
 ·rw[show((tn:Int)+2) % 3=(((tn+2) % 3:Nat):Int) by omega];exact qR i9
 refine⟨_,rfl,x9,e,f9,r,rfl,rfl,hT,t9.any,fun va ga Ha sa' na ta=>⟨va,e,ga,rfl,hT,ni,ta,ip (cnb hR) (by decide),fun Hb fb=>⟨_,rfl,jQ ?_⟩⟩⟩;have Gb:jJ H8 Hb:=Fr.same sa' fb na;refine⟨_,rfl,s,i,sa,S,r,rfl,rfl,e0,hi,wk (sB8.trans Gb),hW,fun vc gc Hc sc nc tc=>⟨vc,_,gc,rfl,hTb,aCu hRb,tc,ip (cnb hRb) (by decide),fun Hd fd'=>⟨_,rfl,jQ ?_⟩⟩⟩;have Gd:jJ H8 Hd:=Gb.trans (Fr.same sc fd' nc);refine⟨_,rfl,x9,e,f9,r,rfl,rfl,hT,t9.same Gd,fun ve ge He se ne te=>⟨ve,_,ge,r,rfl,rfl,aFt hT,te,fun vf gf Hf sf nf tf=>⟨vf,_,gf,rfl,aFt hT,aJv ni hT,tf,ip (cnb (aLw hR)) (by decide),fun Hg fg=>⟨_,rfl,jQ ?_⟩⟩⟩⟩;have Gg:jJ H8 Hg:=Gd.trans (se.trans (Fr.same sf fg nf));refine⟨_,rfl,_,rfl,s,x9,i,sa,S,d,e,rfl,e0,hi,by omega,wk (sB8.trans Gg),hW,(t9.same Gg).dt,hR,fun lr Hh sh _ rl=>?_⟩;have Gh:=Gg.trans sh;obtain⟨b1,b2⟩:=aKa hW.good hW.nms hfit hrk hcn Str.empty rfl;have rwa:∀{H':Hp},jJ Hh H'->RwA K H' lr ((flv S r (.nest i) Str.empty d).map yC):=fun {H'} g=>by
  obtain⟨ts9,h1,h2⟩:=rl.same g;refine⟨⟨_,SqL.of h1,h2.dat⟩,fun d' hd'=>?_,?_⟩
  ·obtain⟨q9,_,rfl⟩:=iu.mp hd';rfl
  ·rw[δ];omega
 have rdE:rdv S r (.nest i) Str.empty ((flv S r (.nest i) Str.empty d).map yC)=some (d,((flv S r (.nest i) Str.empty d).map yC).length):=by
  have e1:=aMg hW.good (k:=.nest i) hfit hcn Str.empty [];rw[jy]at e1;rw[δ];exact e1
 have shp:ou (.list ((flv S r (.nest i) Str.empty d).map yC))=true:=nc_sh fun d' hd'=>by
  obtain⟨q9,hq,rfl⟩:=iu.mp hd';exact aRn (b2 q9 hq) (by show 0+8*r<=192;omega)
 refine⟨_,rfl,_,rfl,s,lr,i,sa,S,_,d,rfl,e0,hi,by omega,wk (sB8.trans Gh),hW,rwa (jJ.refl _),rdE,fun vi gi Hi si ti ni'=>⟨vi,d,gi,rfl,hTd,aCu hRd,ti,ip (cnb hRd) (by decide),fun Hj fj=>⟨_,rfl,jQ ?_⟩⟩⟩;have hj:jJ Hh Hj:=Fr.same si fj ni';refine⟨_,rfl,_,rfl,s,lr,i,sa,S,_,d,rfl,e0,hi,by omega,wk (sB8.trans (Gh.trans hj)),hW,rwa hj,rdE,fun vk gk Hk sk tk nk=>?_⟩;have hk:=hj.trans sk;refine⟨_,rfl,_,rfl,s,lr,i,sa,S,_,d,rfl,e0,hi,by omega,wk (sB8.trans (Gh.trans hk)),hW,rwa hk,rdE,fun vl gl Hl sl tl nl=>?_⟩;have hl:=hk.trans sl;refine⟨_,rfl,vk,d,gk,r,rfl,rfl,hTd,tk.same sl,fun Hm fm=>?_⟩;have hm:jJ Hh Hm:=Fr.same hl fm (nk.back hj);have dkl:=nl.dis tk.mu;have tlm:Tr true K Hm vl d gl:=tl.fr fm (tk.same sl).mu fun b hb hz=>dkl b hz hb;refine⟨_,rfl,vl,d,r,rfl,rfl,hTd,tlm.dt,fun vn yn Hn sn hvn hsn=>?_⟩;obtain⟨u1,u2,u3⟩:=shw hRd hsn;refine⟨vn,yn,rfl,.inl hvn,u1,u2,u3,_,rfl,rfl,_,rfl,vE (by rw[rp hRd hsn];simp) ?_⟩;have hn:=hm.trans sn;refine⟨_,rfl,_,rfl,s,x9,i,sa,S,d,e,rfl,e0,hi,by omega,wk (sB8.trans (Gh.trans hn)),hW,(t9.same (Gh.trans hn)).dt,hR,fun lo Ho so _ rlo=>?_⟩;have ho:=hn.trans so;refine⟨_,rfl,_,_,aJf rlo,aJf (rl.same ho),shp,shp,_,rfl,vE (by rw[aAi shp];decide) ?_⟩;refine⟨_,rfl,_,rfl,s,lr,i,sa,S,_,d,rfl,e0,hi,by omega,wk (sB8.trans (Gh.trans ho)),hW,rwa ho,rdE,fun vp gp Hp sp tp np=>?_⟩;have hp:=ho.trans sp;refine⟨_,rfl,S,n9,i,d,e,hW.fnd,hn9 ▸ hR,tp.dt,(t9.same (Gh.trans hp)).dt,by omega,_,rfl,jQ ?_⟩;have Gp:=Gh.trans hp;refine⟨_,rfl,s,i,sa,S,r,rfl,rfl,e0,hi,wk (sB8.trans Gp),hW,fun vq gq Hq sq nq tq=>?_⟩;refine⟨_,rfl,vq,_,r,rfl,rfl,hTb,tq.dt,fun vr yr Hr sr hvr hsr=>?_⟩;obtain⟨j1,j2,j3⟩:=shw hRb hsr;refine⟨vr,yr,rfl,.inl hvr,j1,j2,j3,?_⟩;refine⟨_,rfl,vq,_,gq,r,rfl,rfl,hTb,tq.same sr,fun Hs fs'=>?_⟩;have Gs:jJ H8 Hs:=Gp.trans (Fr.same (sq.trans sr) fs' nq);refine⟨_,rfl,s,i,sa,S,r,rfl,rfl,e0,hi,wk (sB8.trans Gs),hW,fun vt gt Ht st nt tt=>?_⟩;refine⟨vt,_,r,rfl,rfl,hTb,tt.dt,fun vu yu Hu su hvu hsu=>?_⟩;obtain⟨i1,i2,i3⟩:=shw hRb hsu;refine⟨vu,yu,rfl,.inl hvu,i1,i2,i3,_,rfl,rfl,_,rfl,xF (by rw[iB hW.fnd hRb hRb hsu hsr];simp) ?_⟩;have Gu:=(Gs.trans st).trans su;refine⟨_,rfl,x9,e,f9,r,rfl,rfl,hT,(t9.same Gu).any,fun vv gv Hv sv nv tv=>?_⟩;refine⟨vv,_,r,rfl,rfl,hT,tv.dt,fun vw yw Hw sw hvw hsw=>?_⟩;obtain⟨o1,o2,o3⟩:=shw hR hsw;refine⟨vw,yw,rfl,.inl hvw,o1,o2,o3,_,rfl,rfl,?_⟩;rw[rp hR hsw,decide_eq_true rfl];exact fin ((Gu.trans sv).trans sw)
theorem aPu{k r:Nat}(hR : 12<=r/\8*r<=200)(F:Fun K "law" "law" aKh f fd)(fv:j4 "_law_cell" (aJl K))(gr:j4 "_law_box" aOc)(dw:j4 "_law_shapes" (spSh K r))(fw:j4 "_law_text" (spTx K))(dn:j4 "read_shapes" (spRd (j7 0) Vf K r))(aa:j4 "_law_take" cC)(be:j4 "_law_mixed" (aEx K 10))(bb:j4 "_law_drawn" (spDr K 10))(ff:j4 "_law_right" (aOz (j7 0) K 9)):j0 ["_law_script"] (aFo K):=by
 w_cond fS;obtain⟨a,ns,rfl,hS,hlen,q⟩:=h;refine⟨_,(jD (vF jo rfl (vJ rfl M.range (jA (jG (sP rfl) rfl M.max boot_max (jA jE (jA (jG (sM rfl) rfl M.min boot_min (jA (jG jW rfl M.len je (jA (pv 0) jB)) (jA jE jB))) jB))) jB)) (kS 1 fS.nd) (jD (jR 2 fS.nd (jF gr hr (jA (jF fv hr (jA (pv 0) (jA (pv 1) jB))) jB))) (jD (jR 3 fS.nd (jF dw hr (jA (pv 2) (jA jE jB)))) (jD (jR 4 fS.nd (jF dn hr (jA (jF fw hr (jA (pv 3) jB)) jB))) (jC (vF jo rfl (kU (qE (jA (jV cQ (jG jW rfl M.len je (jA (pv 3) jB)) jE) (jA (jF aa hr (jA (pv 2) (jA (jG jW rfl M.len je (jA (pv 3) jB)) jB))) jB)))) (kS 5 fS.nd) (jD (jR 6 fS.nd (jF be hr (jA (pv 2) (jA (jF bb hr (jA (pv 2) (jA (kW (jA jO (jA (pv 5) jB))) (jA (pv 3) jB)))) jB)))) (jC (jX (vH (kK (jF ff hr (jA (pv 2) (jA (jK jY (qF (pv 4) rfl) (pv 5)) (jA (pv 6) jB)))))) (jC (jI aA)) jL))))))))) (jC (jI aA))),?_⟩;have hl:(ns.map V.int).length=ns.length:=δ _;refine⟨_,rfl,a,_,rfl,.inl hS,_,_,rfl,_,_,rfl,_,rfl,?_,?_,?_⟩
 ·rw[hl];split <;> split <;> omega
 ·rw[hl];split <;> split <;> omega
 refine bE (fun i σ H'=>∃o1 o2 o3 o4 o5 o6,σ = [some (.ref a),o1,o2,o3,o4,o5,o6]/\jJ H H') ⟨_,_,_,_,_,_,rfl,jJ.refl _⟩ (fun i σ H' hi z=>?_) (fun σ H' z=>q H');obtain⟨o1,o2,o3,o4,o5,o6,rfl,g⟩:=z;have hi12:i<12:=by
  refine Δ hi ?_;rw[hl];split <;> split <;> omega
 refine⟨_,rfl,_,rfl,a,ns,_,rfl,g.seq hS,by omega,by omega,fun v=>⟨v,rfl,fun p H1 hp d1=>?_⟩⟩;refine⟨_,rfl,p,rfl,d1.1,hR.1,hR.2,fun l S H2 d2 hl2 lx hW hne hcl=>?_⟩;refine⟨_,rfl,l,S,rfl,lx.same kO,hW,hne,fun H3 g3=>⟨S,rfl,hW,hne,hR.1,hR.2,fun ra dx t sa H4 g4 kr kt sw=>?_⟩⟩;have D4:Drawn p H' H4:=(d1.trans d2).keep (g3.trans g4);obtain⟨y1,y2,y3,hp4⟩:=D4.1;have pm:p∈[p]:=ο.mpr rfl;have off:∀{b:Addr}{o:HO},b≠p->H4 b=some o->offs [p] H4 b=some o:=fun n e=>vC (fun z=>n (ο.mp z)) e;have swO:SW (j7 0) K (offs [p] H4) sa S:=sw.but (l:=p) (fun b o n e=>off n e) hp4;have krO:=off (fun z=>by rw[z,hp4]at kr;cases kr) kr;have ktO:=aIc D4.1 kt;have lxO:=lx.same (qD (xs:=[p]) (g3.trans g4));obtain⟨as,ha4,hLW4⟩:=id lxO;obtain⟨n,hn⟩ : ∃n,S.length=n+1:=⟨S.length-1,by have:=wm.mpr hne;omega⟩;have hn3:n<=3:=by have:=hW.len;omega
 have zl:(as.map V.ref).length=n+1:=by rw[δ,hLW4.len,hn]
 have hsl:sa.length=n+1:=by rw[sw.1,hn]
 refine⟨_,rfl,l,_,rfl,.inl (kO.seq ha4),_,_,rfl,rfl,_,rfl,_,rfl,l,_,rfl,.inl (kO.seq ha4),p,_,rfl,(by rw[zl];omega),(by rw[zl];omega),D4.1,fun tn H5 htn d5=>⟨xD,fun lq hlq=>?_⟩⟩;rw[zl]at htn;clear 1 lq H6 g6 k6 hlq;rw[zl]at k6
 (try dsimp only at k6)
 rw[show((n+1:Nat):Int)-1=n by omega]at k6;have nqp:lq≠p:=fun z=>by obtain⟨u,v,w',e9⟩:=d5.1;rw[z,e9]at hlq;cases hlq
 have D6:=d5.keep g6;refine⟨lq,rfl,⟨_,SqL.of k6⟩,qU (xs:=[.int (n:Nat),.int (tn:Nat)]) (fun j σ H7=>∃o5 o6,σ = [some (.ref a),some (.int (0+(i:Int))),some (.ref p),some (.ref l),some (.ref ra),o5,o6]/\Drawn p H6 H7) ⟨_,_,rfl,Drawn.refl D6.1⟩ (fun j σ H7 _ z=>?_) (fun j x' σ H7 hx' z=>?_) (fun σ H7 z=>?_)⟩
 ·obtain⟨_,_,rfl,d7⟩:=z;exact SqL.of (d7.2 _ _ nqp k6)
 ·obtain⟨o5',o6',rfl,d7⟩:=z;obtain⟨m,hm,rfl⟩ : ∃m:Nat,m<=n/\x'=.int (m:Nat):=by
   match j,hx' with
   |0,hx'=>cases hx';exact⟨n,ν _,rfl⟩
   |1,hx'=>cases hx';exact⟨tn,by omega,rfl⟩
   |j+2,hx'=>cases hx'
  have hil:m<S.length:=by omega
  have hSm:S[m]?=some S[m]:=ζ hil;have hrk:(Kd.nest m).Rk 9:=by show 2*m+2<=9;omega
  obtain⟨s,hsa⟩ : ∃s,sa[m]?=some s:=⟨_,ζ (by omega)⟩;refine⟨_,rfl,_,rfl,_,rfl,xD,fun tm htm=>?_⟩;clear 1 tm H8 g8 k8 htm;have D8:Drawn p H4 H8:=(D6.trans d7).keep g8;have lkO:LK K (offs [p] H8) tm (.nest m):=.nest (aIc D8.1 (SqT.of k8));refine⟨_,rfl,p,tm,l,.nest m,S,9,[p],rfl,rfl,D8.1,pm,(fun b hb=>by rw[ο.mp hb];exact aAq D8.1),hrk,hil,lkO,lxO.same (D8.offs pm),hW,fun x d H9 d9 hdt hcn _=>⟨p,x,.nest m,S,d,9,rfl,rfl,d9.1,hrk,hil,hW,hdt.any,hcn,fun v9 e fs HA dA tr hRc nw=>?_⟩⟩;have keep:∀{Hx:Hp},Drawn p Hx H9->∀b o,b≠p->Hx b=some o->b∉fs/\HA b=some o:=fun {Hx} dx b o nb eb=>by
   have e9:=dx.2 b o nb eb;exact⟨fun z=>(by have:=nw b z;rw[e9]at this;cases this),dA.2 b o nb e9⟩
  have sF:jJ (offs [p] H4) (offs (p::fs) HA):=fun b o eb=>by
   have hb:b∉[p]:=fun z=>by unfold L2.offs at eb;rw[if_pos z]at eb;cases eb
   have nbp:b≠p:=fun z=>hb (ο.mpr z);obtain⟨n1,n2⟩:=keep (D8.trans d9) b o nbp (kO _ _ eb);exact vC (fun z=>(π.mp z).elim nbp n1) n2
  have npf:p∉fs:=fun z=>by obtain⟨u,v,w',e9⟩:=d9.1;have:=nw p z;rw[e9]at this;cases this
  have krA:=kO _ _ (sF _ _ krO);have ktA:=kO.tp (sF.tp ktO);refine⟨_,rfl,_,rfl,ra,Vf,_,_,_,rfl,krA,Uf.cl,Uf.nd,rfl,_,rfl,t,_,_,.ref s,rfl,rfl,ktA,qR (by rw[ig,hsa];rfl),_,rfl,p,s,v9,m,sa,S,d,e,fs,rfl,dA.1,npf,hsa,by omega,by decide,(hW.bd m _ hSm).1,swO.same sF,hW,tr,hRc,fun HB stB sB=>⟨_,rfl,jQ ?_⟩⟩;refine⟨_,_,rfl,stB,fun b o nb eb=>?_⟩;obtain⟨n1,n2⟩:=keep ((d7.keep g8).trans d9) b o nb eb;exact sB _ _ (vC (fun z=>(π.mp z).elim nb n1) n2)
 ·obtain⟨_,_,rfl,d7⟩:=z;exact⟨_,_,_,_,_,_,rfl,g.trans (((D4.trans D6).trans d7).same hp)⟩
end
end K19
namespace K19
open PySem L2 PyProof.Rows
local macro_rules | `(tactic| walk_at"b1") => `(tactic| exact fun _ _ _ _ _ _ us hl => by obtain ⟨a0, rfl⟩ := ls1 hl;rfl)
local macro_rules | `(tactic| walk_at"b2") => `(tactic| exact fun _ _ _ _ _ _ us hl => by obtain ⟨a0, a1, rfl⟩ := ls2 hl;rfl)
local macro_rules | `(tactic| walk_at"b3") => `(tactic| exact fun _ _ _ _ _ _ us hl => by obtain ⟨a0, a1, a2, rfl⟩ := ls3 hl;rfl)
local macro_rules | `(tactic| walk_at"b4") => `(tactic| exact fun _ _ _ _ _ _ us hl => by obtain ⟨a0, a1, a2, a3, rfl⟩ := ls4 hl;rfl)
theorem ls1{us:List Value}(h:us.length=1):∃a0,us=[a0]:=by
 cases us with
 |nil=>cases h
 |cons a0 us =>
  cases us with
  |nil=>exact⟨a0,rfl⟩
  |cons _ us=>simp only[Ω]at h;omega
theorem ls2{us:List Value}(h:us.length=2):∃a0 a1,us=[a0,a1]:=by
 cases us with
 |nil=>cases h
 |cons a0 us =>
  cases us with
  |nil=>cases h
  |cons a1 us =>
   cases us with
   |nil=>exact⟨a0,a1,rfl⟩
   |cons _ us=>simp only[Ω]at h;omega
theorem ls3{us:List Value}(h:us.length=3):∃a0 a1 a2,us=[a0,a1,a2]:=by
 cases us with
 |nil=>cases h
 |cons a0 us =>
  cases us with
  |nil=>cases h
  |cons a1 us =>
   cases us with
   |nil=>cases h
   |cons a2 us =>
    cases us with
    |nil=>exact⟨a0,a1,a2,rfl⟩
    |cons _ us=>simp only[Ω]at h;omega
theorem ls4{us:List Value}(h:us.length=4):∃a0 a1 a2 a3,us=[a0,a1,a2,a3]:=by
 cases us with
 |nil=>cases h
 |cons a0 us =>
  cases us with
  |nil=>cases h
  |cons a1 us =>
   cases us with
   |nil=>cases h
   |cons a2 us =>
    cases us with
    |nil=>cases h
    |cons a3 us =>
     cases us with
     |nil=>exact⟨a0,a1,a2,a3,rfl⟩
     |cons _ us=>simp only[Ω]at h;omega
theorem mO{K:Ξ}{k:Nat}(h:kH P w K mg base CX j f fd ps sp)(hk:j<=k:=by decide):kH P w K mg base CX k f fd ps sp:=kH.mono h hk
structure FG (K:Ξ) (n:Str) (s:Stmt) (f:Addr):Prop where
 a:nsIn K iq n=some (some (.ref f))
 l:∃fd,Fun K n n s f fd
structure FM (K:Ξ) (C:Addr) (n q:Str) (s:Stmt) (f:Addr):Prop where
 a:ud K (.ref C) n=some (some (.ref f))
 i:isFn K (.ref f)=true
 l:∃fd,Fun K n q s f fd
structure CK (K:Ξ) (n:Str) (C:Addr) (as:List Str):Prop where
 g:nsIn K iq n=some (some (.ref C))
 c:Cls K C
 m:PySem.W.makesIn K C=true
 k:keepIn K (.ref C)=true
 n:∀a∈as,yZ K C a
section
variable {K:Ξ}{h:mv}{mg:Str->Option Value}{n q:Str}{s:Stmt}{f C:Addr}{as:List Str}
theorem FG.o(X:K.In h)(G:h.Ns iq mg)(A:FG K n s f)(ps:List Str)(b:∀(kV doc pm:Value) (an:Option Addr) (cdv ct:Value) (us:List Value),us.length=ps.length->bindArgs (fnOf n n (cB s) (aH s) (jH s) .none kV doc pm an cdv ct) ⟨us,[]⟩=pure (ps.zip us)):∃fd,Fun K n n s f fd/\Df K mg n f fd ps:=A.l.elim fun fd F=>⟨fd,F,mg_of X G A.a,F.kp,F.binds b⟩
theorem FM.o(A:FM K C n q s f)(ps:List Str)(b:∀(kV doc pm:Value) (an:Option Addr) (cdv ct:Value) (us:List Value),us.length=ps.length->bindArgs (fnOf n q (cB s) (aH s) (jH s) .none kV doc pm an cdv ct) ⟨us,[]⟩=pure (ps.zip us)):∃fd,Fun K n q s f fd/\DfM K C n f fd ps:=A.l.elim fun fd F=>⟨fd,F,⟨A.a,A.i,F.kp⟩,F.binds b⟩
theorem FM.j(A:FM K C n q s f)(ps:List Str)(b:∀(kV doc pm:Value) (an:Option Addr) (cdv ct:Value) (us:List Value),us.length=ps.length->bindArgs (fnOf n q (cB s) (aH s) (jH s) .none kV doc pm an cdv ct) ⟨us,[]⟩=pure (ps.zip us)):∃fd,Fun K n q s f fd/\DfI K fd ps:=A.l.elim fun fd F=>⟨fd,F,⟨F.binds b⟩⟩
theorem CK.o(X:K.In h)(G:h.Ns iq mg)(A:CK K n C as)(I:FM K C "__init__" q s f):rA K mg n C f as:=⟨mg_of X G A.g,A.c,⟨A.m,I.a,I.i,A.k⟩,A.n⟩
theorem na0:∀a∈([]:List Str),yZ K C a:=fun _ h=>nomatch h
theorem na1(h:ud K (.ref C) n=some none)(r:∀a∈as,yZ K C a):∀a∈n::as,yZ K C a:=fun a m=>(π.mp m).elim (fun e=>e▸h) (r a)
end
theorem all_mk{l:PySem.W.OpenLaw}{K:Ξ}{mg:Str->Option Value}(X:K.In h)(G:h.Ns iq mg)(hfa:mg "law" = some (.ref fa)){odt:Option Addr}{slt:Array (Option Value)}
 (cNum:CK K "Num" Va ["width"])
 (cNested:CK K "Nested" Vb ["shape"])
 (cMany:CK K "Many" Vc ["count","kind"])
 (cPick:CK K "Pick" Vd ["shapes"])
 (cShape:CK K "Shape" Ve ["name","fields"])
 (cShapes:CK K "Shapes" Vf ["shapes"])
 (a0:FG K "is_whole" fX f0)
 (a1:FG K "is_between" bX f1)
 (a2:FG K "is_name" iR f2)
 (a3:FG K "is_text_of" cG f3)
 (a4:FG K "number_in" cR f4)
 (a5:FG K "bound_of" fL f5)
 (a6:FG K "is_word" iT f6)
 (a7:FG K "joined" nZ f7)
 (a8:FM K Vb "units_at" "Kind.units_at" yT f8)
 (a9:FM K Va "__init__" "Num.__init__" fV f9)
 (a10:FM K Va "size" "Num.size" fB f10)
 (a11:FM K Va "depth" "Num.depth" dG f11)
 (a12:FM K Va "units_at" "Num.units_at" zN f12)
 (a13:FM K Vb "__init__" "Nested.__init__" aP f13)
 (a14:FM K Vb "size" "Nested.size" aQ f14)
 (a15:FM K Vb "depth" "Nested.depth" zQ f15)
 (a16:FM K Vb "parted" "Nested.parted" yV f16)
 (a17:FM K Vc "__init__" "Many.__init__" cU f17)
 (a18:FM K Vc "size" "Many.size" cS f18)
 (a19:FM K Vc "depth" "Many.depth" bO f19)
 (a20:FM K Vc "parted" "Many.parted" aT f20)
 (a21:FM K Vd "__init__" "Pick.__init__" dR f21)
 (a22:FM K Vd "size" "Pick.size" dD f22)
 (a23:FM K Vd "greatest" "Pick.greatest" yS f23)
 (a24:FM K Vd "depth" "Pick.depth" cE f24)
 (a25:FM K Vd "units_at" "Pick.units_at" yY f25)
 (a26:FM K Ve "__init__" "Shape.__init__" cJ f26)
 (a27:FM K Ve "size" "Shape.size" cA f27)
 (a28:FM K Ve "depth" "Shape.depth" aU f28)
 (a29:FM K Ve "units" "Shape.units" aK f29)
 (a30:FM K Vf "__init__" "Shapes.__init__" aN f30)
 (a31:FG K "is_record" dJ f31)
 (a32:FG K "may_have" fG f32)
 (a33:FG K "has_fields" bY f33)
 (a34:FG K "has_count" cY f34)
 (a35:FG K "is_choice" dI f35)
 (a36:FG K "is_number_of" zW f36)
 (a37:FG K "blank" uC f37)
 (a38:FG K "blank_of" fY f38)
 (a39:FG K "gathered" fN f39)
 (a40:FG K "copied" pA f40)
 (a41:FG K "flat" aBx f41)
 (a42:FG K "flat_under" bS f42)
 (a43:FG K "of_flat" iW f43)
 (a44:FG K "is_row" nU f44)
 (a45:FG K "value_from" bK f45)
 (a46:FG K "number_from" aX f46)
 (a47:FG K "read_shapes" aJ f47)
 (a48:FG K "is_shape_line" yX f48)
 (a49:FG K "is_field_line" yW f49)
 (a50:FG K "is_kind" lF f50)
 (a51:FG K "is_single" dP f51)
 (a52:FG K "need_new_shape" yE f52)
 (a53:FG K "need_field" bN f53)
 (a54:FG K "shapes_named" zX f54)
 (a55:FG K "whole_shapes" zS f55)
 (a56:FG K "with_field" bM f56)
 (a57:FG K "kind_in" iF f57)
 (a58:FG K "is_too_much" aV f58)
 (a59:FG K "_law_cell" eZ f59)
 (a60:FG K "_law_box" iH f60)
 (a61:FG K "_law_take" fP f61)
 (a62:FG K "_law_names" cX f62)
 (a63:FG K "_law_size" fQ f63)
 (a64:FG K "_law_units" dU f64)
 (a65:FG K "_law_joined" cH f65)
 (a66:FG K "_law_depth" cT f66)
 (a67:FG K "_law_kind" fM f67)
 (a68:FG K "_law_fits" fE f68)
 (a69:FG K "_law_shapes" bP f69)
 (a70:FG K "_law_kind_text" yQ f70)
 (a71:FG K "_law_text" fZ f71)
 (a72:FG K "_law_word" fF f72)
 (a73:FG K "_law_drawn" dS f73)
 (a74:FG K "_law_spoilt" bT f74)
 (a75:FG K "_law_mixed" dF f75)
 (a76:FG K "_law_twin" gJ f76)
 (a77:FG K "_law_sorted" cK f77)
 (a78:FG K "_law_numbered" zV f78)
 (a79:FG K "_law_numbers" aW f79)
 (a80:FG K "_law_unlike" bQ f80)
 (a81:FG K "_law_right" dH f81)
 (a82:FG K "law" aKh f82)
  (z0:nsIn K iq "range" = some none)
  (z1:nsIn K iq "len" = some none)
  (z2:nsIn K iq "isinstance" = some none)
  (z3:nsIn K iq "int" = some none)
  (z4:nsIn K iq "bool" = some none)
  (z5:nsIn K iq "list" = some none)
  (z6:nsIn K iq "all" = some none)
  (z7:nsIn K iq "max" = some none)
  (z8:nsIn K iq "min" = some none)
  (z9:nsIn K iq "reversed" = some none)
  (z10:nsIn K iq "tuple" = some none)
  (z11:nsIn K iq "divmod" = some none)
  (z12:nsIn K iq "str" = some none)
  (z13:nsIn K iq "sum" = some none)
  (z14:nsIn K iq "zip" = some none)
  (z15:nsIn K iq "enumerate" = some none)
  (z16:nsIn K iq "dict" = some none)
  (z17:nsIn K iq "repr" = some none)
  (z18:nsIn K iq "sorted" = some none)
  (v1:nsIn K iq "SMALL_LETTERS" = some (some (.str "abcdefghijklmnopqrstuvwxyz" t1)))(v2:nsIn K iq "FIGURES" = some (some (.str "0123456789" t2)))(v3:nsIn K iq "MOST_LETTERS" = some (some (.int 6 t3)))(v4:nsIn K iq "MOST_FIGURES" = some (some (.int 10 t4)))(v5:nsIn K iq "MOST_SHAPES" = some (some (.int 8 t5)))(v6:nsIn K iq "MOST_FIELDS" = some (some (.int 6 t6)))(v7:nsIn K iq "MOST_CELLS" = some (some (.int 64 t7)))(v8:nsIn K iq "MOST_UNITS" = some (some (.int 40 t8)))(v9:nsIn K iq "MOST_DEPTH" = some (some (.int 4 t9)))(v10:nsIn K iq "MOST_WIDTH" = some (some (.int 4 t10)))(v11:nsIn K iq "MOST_COUNT" = some (some (.int 6 t11)))(v12:nsIn K iq "LEAST_PICKED" = some (some (.int 2 t12)))(v13:nsIn K iq "MOST_PICKED" = some (some (.int 4 t13)))
  (w1:nsIn K iq "OWN_WORDS" = some (some (.ref ts)))(w2:K.lookup ts=some ⟨.type "tuple",odt,.seq #[.str "shape" u0,.str "num" u1,.str "row" u2,.str "pick" u3,.str "tag" u4,.str "room" u5,.str "things" u6,.str "part" u7,.str "tags" u8,.str "put" u9,.str "take" u10,.str "many" u11,.str "look" u12,.str "which" u13,.str "store" u14,.str "choose" u15,.str "copy" u16,.str "each" u17,.str "span" u18,.str "if" u19,.str "else" u20,.str "end" u21,.str "out" u22] nt,slt⟩)
  (w3:ud K (.ref Vc) "units_at" = some (some (.ref f8)))
  (q1:PySem.W.specialIn K (.builtin "object.__class__") "__get__" = some (some (.builtin "getset_descriptor.__get__")))(q2:PySem.W.takesIn K (.builtin "object.__class__")=some true)
  (qc0:ud K (.ref Va) "__class__" = some (some (.builtin "object.__class__")))(qd0:ww K Va (.type "object")=some true)(qn00:ki K (.ref Va) (.ref Va)=some true)(qn01:ki K (.ref Va) (.ref Vb)=some false)(qn02:ki K (.ref Va) (.ref Vc)=some false)(qn03:ki K (.ref Va) (.ref Vd)=some false)
  (qc1:ud K (.ref Vb) "__class__" = some (some (.builtin "object.__class__")))(qd1:ww K Vb (.type "object")=some true)(qn10:ki K (.ref Vb) (.ref Va)=some false)(qn11:ki K (.ref Vb) (.ref Vb)=some true)(qn12:ki K (.ref Vb) (.ref Vc)=some false)(qn13:ki K (.ref Vb) (.ref Vd)=some false)
  (qc2:ud K (.ref Vc) "__class__" = some (some (.builtin "object.__class__")))(qd2:ww K Vc (.type "object")=some true)(qn20:ki K (.ref Vc) (.ref Va)=some false)(qn21:ki K (.ref Vc) (.ref Vb)=some false)(qn22:ki K (.ref Vc) (.ref Vc)=some true)(qn23:ki K (.ref Vc) (.ref Vd)=some false)
  (qc3:ud K (.ref Vd) "__class__" = some (some (.builtin "object.__class__")))(qd3:ww K Vd (.type "object")=some true)(qn30:ki K (.ref Vd) (.ref Va)=some false)(qn31:ki K (.ref Vd) (.ref Vb)=some false)(qn32:ki K (.ref Vd) (.ref Vc)=some false)(qn33:ki K (.ref Vd) (.ref Vd)=some true):
  ∃fd:uo,(∀(s:ω) (v:Value),BindsTo s fd ⟨[v],[]⟩ [("_law_script",v)])/\∀base:mv,K.In base->base.Ns iq mg->kH l.prog w K mg base CX0 86 fa fd ["_law_script"] (aFo K):=by
 have e:=hfa.symm.trans (mg_of X G a82.a);cases e;obtain⟨d82,F82⟩:=a82.l;obtain⟨d0,F0,D0⟩:=a0.o X G ["thing"] (by walk_at"b1");obtain⟨d1,F1,D1⟩:=a1.o X G ["thing","low","high"] (by walk_at"b3");obtain⟨d2,F2,D2⟩:=a2.o X G ["thing"] (by walk_at"b1");obtain⟨d3,F3,D3⟩:=a3.o X G ["thing","signs","most"] (by walk_at"b3");obtain⟨d4,F4,D4⟩:=a4.o X G ["text","low","high"] (by walk_at"b3");obtain⟨d5,F5,D5⟩:=a5.o X G ["width"] (by walk_at"b1");obtain⟨d6,F6,D6⟩:=a6.o X G ["thing","width"] (by walk_at"b2");obtain⟨d7,F7,D7⟩:=a7.o X G ["path","step"] (by walk_at"b2");obtain⟨d8,F8,D8⟩:=a8.o ["self","path"] (by walk_at"b2");obtain⟨d9,F9,D9⟩:=a9.j ["self","width"] (by walk_at"b2");obtain⟨d10,F10,D10⟩:=a10.o ["self"] (by walk_at"b1");obtain⟨d11,F11,D11⟩:=a11.o ["self"] (by walk_at"b1");obtain⟨d12,F12,D12⟩:=a12.o ["self","path"] (by walk_at"b2");obtain⟨d13,F13,D13⟩:=a13.j ["self","shape"] (by walk_at"b2");obtain⟨d14,F14,D14⟩:=a14.o ["self"] (by walk_at"b1");obtain⟨d15,F15,D15⟩:=a15.o ["self"] (by walk_at"b1");obtain⟨d16,F16,D16⟩:=a16.o ["self"] (by walk_at"b1");obtain⟨d17,F17,D17⟩:=a17.j ["self","count","kind"] (by walk_at"b3");obtain⟨d18,F18,D18⟩:=a18.o ["self"] (by walk_at"b1");obtain⟨d19,F19,D19⟩:=a19.o ["self"] (by walk_at"b1");obtain⟨d20,F20,D20⟩:=a20.o ["self"] (by walk_at"b1");obtain⟨d21,F21,D21⟩:=a21.j ["self","shapes"] (by walk_at"b2");obtain⟨d22,F22,D22⟩:=a22.o ["self"] (by walk_at"b1");obtain⟨d23,F23,D23⟩:=a23.o ["self"] (by walk_at"b1");obtain⟨d24,F24,D24⟩:=a24.o ["self"] (by walk_at"b1");obtain⟨d25,F25,D25⟩:=a25.o ["self","path"] (by walk_at"b2");obtain⟨d26,F26,D26⟩:=a26.j ["self","name","fields"] (by walk_at"b3");obtain⟨d27,F27,D27⟩:=a27.o ["self"] (by walk_at"b1");obtain⟨d28,F28,D28⟩:=a28.o ["self"] (by walk_at"b1");obtain⟨d29,F29,D29⟩:=a29.o ["self"] (by walk_at"b1");obtain⟨d30,F30,D30⟩:=a30.j ["self","shapes"] (by walk_at"b2");obtain⟨d31,F31,D31⟩:=a31.o X G ["shape","thing"] (by walk_at"b2");obtain⟨d32,F32,D32⟩:=a32.o X G ["kind","thing"] (by walk_at"b2");obtain⟨d33,F33,D33⟩:=a33.o X G ["kind","thing"] (by walk_at"b2");obtain⟨d34,F34,D34⟩:=a34.o X G ["kind","thing"] (by walk_at"b2");obtain⟨d35,F35,D35⟩:=a35.o X G ["kind","thing"] (by walk_at"b2");obtain⟨d36,F36,D36⟩:=a36.o X G ["pick","thing"] (by walk_at"b2");obtain⟨d37,F37,D37⟩:=a37.o X G ["shape"] (by walk_at"b1");obtain⟨d38,F38,D38⟩:=a38.o X G ["kind"] (by walk_at"b1");obtain⟨d39,F39,D39⟩:=a39.o X G ["kind","values"] (by walk_at"b2");obtain⟨d40,F40,D40⟩:=a40.o X G ["record"] (by walk_at"b1");obtain⟨d41,F41,D41⟩:=a41.o X G ["shape","record"] (by walk_at"b2");obtain⟨d42,F42,D42⟩:=a42.o X G ["kind","path","value"] (by walk_at"b3");obtain⟨d43,F43,D43⟩:=a43.o X G ["shape","rows"] (by walk_at"b2");obtain⟨d44,F44,D44⟩:=a44.o X G ["thing"] (by walk_at"b1");obtain⟨d45,F45,D45⟩:=a45.o X G ["kind","path","rows","at"] (by walk_at"b4");obtain⟨d46,F46,D46⟩:=a46.o X G ["path","bound","rows","at"] (by walk_at"b4");obtain⟨d47,F47,D47⟩:=a47.o X G ["text"] (by walk_at"b1");obtain⟨d48,F48,D48⟩:=a48.o X G ["words"] (by walk_at"b1");obtain⟨d49,F49,D49⟩:=a49.o X G ["words"] (by walk_at"b1");obtain⟨d50,F50,D50⟩:=a50.o X G ["words"] (by walk_at"b1");obtain⟨d51,F51,D51⟩:=a51.o X G ["words"] (by walk_at"b1");obtain⟨d52,F52,D52⟩:=a52.o X G ["told","line","name"] (by walk_at"b3");obtain⟨d53,F53,D53⟩:=a53.o X G ["told","line","words"] (by walk_at"b3");obtain⟨d54,F54,D54⟩:=a54.o X G ["words"] (by walk_at"b1");obtain⟨d55,F55,D55⟩:=a55.o X G ["told"] (by walk_at"b1");obtain⟨d56,F56,D56⟩:=a56.o X G ["told","line","words"] (by walk_at"b3");obtain⟨d57,F57,D57⟩:=a57.o X G ["words","shapes"] (by walk_at"b2");obtain⟨d58,F58,D58⟩:=a58.o X G ["shape"] (by walk_at"b1");obtain⟨d59,F59,D59⟩:=a59.o X G ["_law_script","_law_k"] (by walk_at"b2");obtain⟨d60,F60,D60⟩:=a60.o X G ["_law_cell_here"] (by walk_at"b1");obtain⟨d61,F61,D61⟩:=a61.o X G ["_law_box_here","_law_many"] (by walk_at"b2");obtain⟨d62,F62,D62⟩:=a62.o X G ["_law_box_here"] (by walk_at"b1");obtain⟨d63,F63,D63⟩:=a63.o X G ["_law_kind_here","_law_shapes_here"] (by walk_at"b2");obtain⟨d64,F64,D64⟩:=a64.o X G ["_law_kind_here","_law_shapes_here","_law_path"] (by walk_at"b3");obtain⟨d65,F65,D65⟩:=a65.o X G ["_law_path","_law_step"] (by walk_at"b2");obtain⟨d66,F66,D66⟩:=a66.o X G ["_law_kind_here","_law_shapes_here"] (by walk_at"b2");obtain⟨d67,F67,D67⟩:=a67.o X G ["_law_box_here","_law_known"] (by walk_at"b2");obtain⟨d68,F68,D68⟩:=a68.o X G ["_law_shapes_here"] (by walk_at"b1");obtain⟨d69,F69,D69⟩:=a69.o X G ["_law_box_here","_law_most"] (by walk_at"b2");obtain⟨d70,F70,D70⟩:=a70.o X G ["_law_kind_here","_law_shapes_here"] (by walk_at"b2");obtain⟨d71,F71,D71⟩:=a71.o X G ["_law_shapes_here"] (by walk_at"b1");obtain⟨d72,F72,D72⟩:=a72.o X G ["_law_box_here","_law_width"] (by walk_at"b2");obtain⟨d73,F73,D73⟩:=a73.o X G ["_law_box_here","_law_kind_here","_law_shapes_here"] (by walk_at"b3");obtain⟨d74,F74,D74⟩:=a74.o X G ["_law_thing"] (by walk_at"b1");obtain⟨d75,F75,D75⟩:=a75.o X G ["_law_box_here","_law_thing"] (by walk_at"b2");obtain⟨d76,F76,D76⟩:=a76.o X G ["_law_thing"] (by walk_at"b1");obtain⟨d77,F77,D77⟩:=a77.o X G ["_law_thing"] (by walk_at"b1");obtain⟨d78,F78,D78⟩:=a78.o X G ["_law_thing","_law_state"] (by walk_at"b2");obtain⟨d79,F79,D79⟩:=a79.o X G ["_law_thing"] (by walk_at"b1");obtain⟨d80,F80,D80⟩:=a80.o X G ["_law_thing"] (by walk_at"b1");obtain⟨d81,F81,D81⟩:=a81.o X G ["_law_box_here","_law_shape","_law_record"] (by walk_at"b3");have Ua:=cNum.o X G a9;have Ub:=cNested.o X G a13;have Uc:=cMany.o X G a17;have Ud:=cPick.o X G a21;have Ue:=cShape.o X G a26;have Uf:=cShapes.o X G a30;have M:Blt mg:=⟨oh X G z0,oh X G z1,oh X G z2,oh X G z3,oh X G z4,oh X G z5,oh X G z6,oh X G z7,oh X G z8,oh X G z9,oh X G z10,oh X G z11,oh X G z12,oh X G z13,oh X G z14,oh X G z15,oh X G z16,oh X G z17,oh X G z18⟩;have C:Cst K mg t1 t2 t3 t4 t5 t6 t7 t8 t9 t10 t11 t12 t13 ts:=⟨mg_of X G v1,mg_of X G v2,mg_of X G v3,mg_of X G v4,mg_of X G v5,mg_of X G v6,mg_of X G v7,mg_of X G v8,mg_of X G v9,mg_of X G v10,mg_of X G v11,mg_of X G v12,mg_of X G v13,mg_of X G w1,fun H=>.inr ⟨_,_,_,w2,rfl,rfl,(by show 23<=ψ;decide),(by repeat first|exact .nil|refine .cons ⟨_,rfl⟩ ?_)⟩⟩;have KS:KdS K (Cl5.mk Va Vb Vc Vd Ve):=⟨fun k=>by
  cases k
  ·exact⟨Ua.cl,qc0,q1,q2,qd0⟩
  ·exact⟨Ub.cl,qc1,q1,q2,qd1⟩
  ·exact⟨Uc.cl,qc2,q1,q2,qd2⟩
  ·exact⟨Ud.cl,qc3,q1,q2,qd3⟩
  ,fun k k2=>by cases k <;> cases k2 <;> assumption⟩
 refine⟨d82,fun s v=>(F82.ex.elim fun _ ⟨_,_,_,_,_,_,_,_,e,_⟩=>e▸.of_eq rfl),fun base _ _=>?_⟩;have Z:=ZZ.mk (P:=l.prog) (w:=w) (base:=base) M C Ua Ub Uc Ud Ue Uf;have G0:=(Cal.of D0 (wU (k:=0) Z F0));have G1:=(Cal.of D1 (pO (k:=2) Z F1 G0.o));have G3:=(Cal.of D3 (rB (k:=0) Z F3));have G2:=(Cal.of D2 (aCl (k:=2) Z F2 G3.o));have G4:=(Cal.of D4 (uD (k:=2) Z F4 G3.o));have G7:=(Cal.of D7 (aGm (k:=0) Z F7));have G60:=(Cal.of D60 (aCx (k:=0) Z F60));have G61:=(Cal.of D61 (aAn (k:=0) Z F61));have G59:=(Cal.of D59 (aBe (k:=0) Z F59));have G48:=(Cal.of D48 (iK (k:=4) Z F48 G2.o));have G51:=(Cal.of D51 (tT (k:=4) Z F51 G4.o G2.o));have G50:=(Cal.of D50 (aCt (k:=6) Z F50 G4.o G51.o G2.o));have G49:=(Cal.of D49 (lC (k:=8) Z F49 G2.o G50.o));have G54:=(Cal.of D54 (lT (k:=4) Z F54 G2.o));have G52:=(Cal.of D52 (gU (k:=0) Z F52));have G55:=(Cal.of D55 (lX (k:=0) Z F55));have G53:=(Cal.of D53 (rF (k:=10) Z F53 G49.o G54.o G55.o));have G9:=(yO.of D9 (wO (k:=0) Z F9));have G13:=(yO.of D13 (oB (k:=0) Z F13));have G17:=(yO.of D17 (tH (k:=0) Z F17));have G21:=(yO.of D21 (uS (k:=0) Z F21));have G30:=(yO.of D30 (oF (k:=0) Z F30));have G26:=(yO.of D26 (rP (k:=0) Z F26));have G65:=(Cal.of D65 (pI (k:=0) Z F65));have G62:=(Cal.of D62 (uX (k:=2) Z F62 G61.o));have G67:=(Cal.of D67 (wE (k:=2) Z F67 G61.o));have G5:=(Cal.of D5 (aBo (k:=0) Z F5));have G6:=(Cal.of D6 (aDb (k:=4) Z F6 G5.o G1.o));have G36:=(Cal.of D36 (lU (k:=4) Z F36 G1.o));have G44:=(Cal.of D44 (aHj (k:=2) Z F44 G0.o));have G46:=(Cal.of D46 (oR (k:=0) Z F46));have G72:=(Cal.of D72 (aBq (k:=2) Z F72 G61.o));have t_size:∀r C sp,TV (Cl5.mk Va Vb Vc Vd Ve) K r vSz C sp->yN l.prog w K mg base CX0 (6*r+4) "size" C sp:=by
  intro r
  induction r with
  |zero =>
   rintro C' sp (⟨rfl,rfl⟩|⟨rfl,rfl⟩|⟨rfl,rfl⟩|⟨rfl,rfl⟩)
   ·exact⟨Ua.cl,_,_,_,D10.me,kH.mono (lI (k:=0) (r:=0) Z F10) (by omega),D10.b⟩
   ·exact⟨Ub.cl,_,_,_,D14.me,noFn (noV nn1),D14.b⟩
   ·exact⟨Uc.cl,_,_,_,D18.me,noFn (noV nn2),D18.b⟩
   ·exact⟨Ud.cl,_,_,_,D22.me,noFn (noV nn3),D22.b⟩
  |succ r ih =>
   have gS:=(zY.of D27 (eY (k:=6*r+4) (r:=r) Z F27 ih));have gG:=(zY.of D23 (bF (k:=6*r+6) (r:=r) Z F23 gS));rintro C' sp (⟨rfl,rfl⟩|⟨rfl,rfl⟩|⟨rfl,rfl⟩|⟨rfl,rfl⟩)
   ·exact⟨Ua.cl,_,_,_,D10.me,kH.mono (lI (k:=0) (r:=r+1) Z F10) (by omega),D10.b⟩
   ·exact⟨Ub.cl,_,_,_,D14.me,kH.mono (nX (k:=6*r+6) (r:=r) Z F14 gS) (by omega),D14.b⟩
   ·exact⟨Uc.cl,_,_,_,D18.me,kH.mono (tG (k:=6*r+4) (r:=r) Z F18 ih) (by omega),D18.b⟩
   ·exact⟨Ud.cl,_,_,_,D22.me,kH.mono (uB (k:=6*r+8) (r:=r) Z F22 gG) (by omega),D22.b⟩
 have gu:=fun r=>(zY.of D27 (eY (k:=6*r+4) (r:=r) Z F27 (t_size r)));have ic:=fun r=>(zY.of D23 (bF (k:=6*r+6) (r:=r) Z F23 (gu r)));have t_depth:∀r C sp,TV (Cl5.mk Va Vb Vc Vd Ve) K r vDp C sp->yN l.prog w K mg base CX0 (6*r+4) "depth" C sp:=by
  intro r
  induction r with
  |zero =>
   rintro C' sp (⟨rfl,rfl⟩|⟨rfl,rfl⟩|⟨rfl,rfl⟩|⟨rfl,rfl⟩)
   ·exact⟨Ua.cl,_,_,_,D11.me,kH.mono (gL (k:=0) (r:=0) Z F11) (by omega),D11.b⟩
   ·exact⟨Ub.cl,_,_,_,D15.me,noFn (noV nn1),D15.b⟩
   ·exact⟨Uc.cl,_,_,_,D19.me,noFn (noV nn2),D19.b⟩
   ·exact⟨Ud.cl,_,_,_,D24.me,noFn (noV nn3),D24.b⟩
  |succ r ih =>
   have gS:=(zY.of D28 (dC (k:=6*r+4) (r:=r) Z F28 ih));rintro C' sp (⟨rfl,rfl⟩|⟨rfl,rfl⟩|⟨rfl,rfl⟩|⟨rfl,rfl⟩)
   ·exact⟨Ua.cl,_,_,_,D11.me,kH.mono (gL (k:=0) (r:=r+1) Z F11) (by omega),D11.b⟩
   ·exact⟨Ub.cl,_,_,_,D15.me,kH.mono (mB (k:=6*r+6) (r:=r) Z F15 gS) (by omega),D15.b⟩
   ·exact⟨Uc.cl,_,_,_,D19.me,kH.mono (rJ (k:=6*r+4) (r:=r) Z F19 ih) (by omega),D19.b⟩
   ·exact⟨Ud.cl,_,_,_,D24.me,kH.mono (pT (k:=6*r+6) (r:=r) Z F24 gS) (by omega),D24.b⟩
 have gx:=fun r=>(zY.of D28 (dC (k:=6*r+4) (r:=r) Z F28 (t_depth r)));have t_parted:∀C sp,aCn (Cl5.mk Va Vb Vc Vd Ve) K C sp->yN l.prog w K mg base CX0 2 "parted" C sp:=by
  rintro C' sp (⟨rfl,rfl⟩|⟨rfl,rfl⟩)
  ·exact⟨Ub.cl,_,_,_,D16.me,(iM (k:=0) Z F16),D16.b⟩
  ·exact⟨Uc.cl,_,_,_,D20.me,(pC (k:=0) Z F20),D20.b⟩
 have DM:DfM K Vc "units_at" f8 d8 ["self","path"]:=⟨⟨w3,a8.i,F8.kp⟩,D8.b⟩;have t_units:∀r C sp,TU (Cl5.mk Va Vb Vc Vd Ve) K r C sp->yN l.prog w K mg base CX0 (6*r+4) "units_at" C sp:=by
  intro r
  induction r with
  |zero =>
   rintro C' sp (⟨rfl,rfl⟩|⟨rfl,rfl⟩|⟨rfl,rfl⟩|⟨rfl,rfl⟩)
   ·exact⟨Ua.cl,_,_,_,D12.me,kH.mono (cN (k:=0) (r:=0) Z F12) (by omega),D12.b⟩
   ·exact⟨Ub.cl,_,_,_,D8.me,noFn (noU nn1),D8.b⟩
   ·exact⟨Uc.cl,_,_,_,DM.me,noFn (noU nn2),DM.b⟩
   ·exact⟨Ud.cl,_,_,_,D25.me,noFn (noU nn3),D25.b⟩
  |succ r ih =>
   rintro C' sp (⟨rfl,rfl⟩|⟨rfl,rfl⟩|⟨rfl,rfl⟩|⟨rfl,rfl⟩)
   ·exact⟨Ua.cl,_,_,_,D12.me,kH.mono (cN (k:=0) (r:=r+1) Z F12) (by omega),D12.b⟩
   ·exact⟨Ub.cl,_,_,_,D8.me,kH.mono (bB (k:=6*r+4) (r:=r) Z ff1 F8 (fun C' sp h=>yN.mono (t_parted C' sp h) (by omega)) ih G7.o) (by omega),D8.b⟩
   ·exact⟨Uc.cl,_,_,_,DM.me,kH.mono (bB (k:=6*r+4) (r:=r) Z ff2 F8 (fun C' sp h=>yN.mono (t_parted C' sp h) (by omega)) ih G7.o) (by omega),DM.b⟩
   ·exact⟨Ud.cl,_,_,_,D25.me,kH.mono (lE (k:=6*r+8) (r:=r) Z F25 G7.o (ic r)) (by omega),D25.b⟩
 have G27:=gu 12;have G28:=gx 12;have G29:=(zY.of D29 (pD (k:=76) (r:=12) Z F29 G13.o (t_units 12)));have G58:=(Cal.of D58 (nH (k:=78) (r:=12) Z F58 G27.o G29.o G28.o));have r_kin:∀n,Cal l.prog w K mg base CX0 (2*n+2) "kind_in" (aEn (Cl5.mk Va Vb Vc Vd Ve) K n):=by
  intro n
  induction n with
  |zero=>exact Cal.of D57 (noFn (fun vs H Q E h=>by obtain⟨_,_,_,_,_,_,h,_⟩:=h;exact absurd h (by omega)))
  |succ n ih=>exact Cal.o (Cal.of D57 (aCq (k:=2*n+2) (r:=n) Z F57 ih G9.o G13.o G17.o G21.o))
 have G57:=r_kin 2;have G56:=(Cal.of D56 (pL (k:=80) (r:=12) Z F56 G57.o G55.o G26.o G58.o));have G47:=(Cal.of D47 (nC (k:=82) (r:=12) Z F47 G48.o G52.o G26.o G53.o G56.o G30.o));have r__law_size:∀n,Cal l.prog w K mg base CX0 (2*n+2) "_law_size" (uG K vSz n):=by
  intro n
  induction n with
  |zero=>exact Cal.of D63 (noFn (fun _ _ _ _ h=>h))
  |succ n ih=>exact Cal.o (Cal.of D63 (wQ (k:=2*n+2) (r:=n) Z F63 ih))
 have G63:=r__law_size 13;have r__law_depth:∀n,Cal l.prog w K mg base CX0 (2*n+2) "_law_depth" (uG K vDp n):=by
  intro n
  induction n with
  |zero=>exact Cal.of D66 (noFn (fun _ _ _ _ h=>h))
  |succ n ih=>exact Cal.o (Cal.of D66 (tX (k:=2*n+2) (r:=n) Z F66 ih))
 have G66:=r__law_depth 13;have r_lu:∀n,Cal l.prog w K mg base CX0 (2*n+4) "_law_units" (spLU K n):=by
  intro n
  induction n with
  |zero=>exact Cal.of D64 (noFn (fun _ _ _ _ h=>h))
  |succ n ih=>exact Cal.o (Cal.of D64 (tM (k:=2*n+4) (r:=n) Z F64 ih (r__law_size (n+1)) G65.o))
 have G64:=r_lu 13;have G68:=(Cal.of D68 (aBn (k:=30) (r:=12) Z F68 G63.o G64.o G66.o));have r_kt:∀n,Cal l.prog w K mg base CX0 (2*n+2) "_law_kind_text" (spKT K n):=by
  intro n
  induction n with
  |zero=>exact Cal.of D70 (noFn (fun vs H Q E h=>by obtain⟨_,_,_,_,_,h,_⟩:=h;exact absurd h (by omega)))
  |succ n ih=>exact Cal.o (Cal.of D70 (lG (k:=2*n+2) (r:=n) Z F70 ih))
 have G70:=r_kt 2;have G71:=(Cal.of D71 (aBi (k:=6) Z F71 G70.o));have G69:=(Cal.of D69 (pP (k:=32) (r:=12) Z F69 G62.o G61.o G67.o G68.o));have G39:=(Cal.of D39 (wD (k:=2) Z F39 KS (fun C' sp h=>yN.mono (t_parted C' sp h) (by decide))));have r_may:∀n,Cal l.prog w K mg base CX0 (6*n+8) "may_have" (cO (Cl5.mk Va Vb Vc Vd Ve) K n aIn):=by
  intro n
  induction n with
  |zero=>exact(Cal.of D32 (lQ (k:=6) (r:=0) Z F32 KS G6.o (Cal.of D33 (noFn (noM9 nn1))) (Cal.of D34 (noFn (noM9 nn2))) (Cal.of D35 (noFn (noM9 nn3)))))
  |succ n ih =>
   have g1:=(Cal.of D33 (pQ (k:=6*n+8) (r:=n) Z F33 ih));have g2:=(Cal.of D34 (wA (k:=6*n+8) (r:=n) Z F34 ih));have g0:=(Cal.of D31 (iA (k:=6*n+8) (r:=n) Z F31 G13.o ih));have g3:=(Cal.of D35 (uE (k:=6*n+10) (r:=n) Z F35 G36.o g0));exact Cal.o (Cal.of D32 (lQ (k:=6*n+12) (r:=n+1) Z F32 KS G6.o g1.o g2.o g3.o))
 have G32:=r_may 9;have G31:=(Cal.of D31 (iA (k:=62) (r:=9) Z F31 G13.o G32.o));have r_fu:∀n,Cal l.prog w K mg base CX0 (2*n+4) "flat_under" (aEr (Cl5.mk Va Vb Vc Vd Ve) K n):=by
  intro n
  induction n with
  |zero=>exact Cal.of D42 (noFn (fun vs H Q E h=>by obtain⟨_,_,_,_,_,_,_,_,_,h,_⟩:=h;exact absurd h (by omega)))
  |succ n ih=>exact Cal.o (Cal.of D42 (pS (k:=2*n+4) (r:=n) Z F42 KS G7.o G13.o (fun C' sp h=>yN.mono (t_parted C' sp h) (by omega)) ih))
 have G42:=r_fu 10;have r_vf:∀n,Cal l.prog w K mg base CX0 (2*n+8) "value_from" (aEc (Cl5.mk Va Vb Vc Vd Ve) K n):=by
  intro n
  induction n with
  |zero=>exact Cal.of D45 (noFn (fun vs H Q E h=>by obtain⟨_,_,_,_,_,_,_,_,_,_,_,h,_⟩:=h;exact absurd h (by omega)))
  |succ n ih=>exact Cal.o (Cal.of D45 (pV (k:=2*n+8) (r:=n) Z F45 KS G46.o G5.o G7.o G13.o (fun C' sp h=>yN.mono (t_parted C' sp h) (by omega)) G39.o ih))
 have G45:=r_vf 10;have r_co:∀n,Cal l.prog w K mg base CX0 (2*n+4) "copied" (aFd K n):=by
  intro n
  induction n with
  |zero=>exact Cal.of D40 (noFn (fun vs H Q E h=>by obtain⟨_,_,_,_,h,_⟩:=h;exact absurd h (by omega)))
  |succ n ih=>exact Cal.o (Cal.of D40 (aHp (k:=2*n+4) (r:=n) Z F40  ih))
 have G40:=r_co 10;have r_ldr:∀n,Cal l.prog w K mg base CX0 (2*n+6) "_law_drawn" (spDr K n):=by
  intro n
  induction n with
  |zero=>exact Cal.of D73 (noFn (fun vs H Q E h=>by obtain⟨_,_,_,_,_,_,_,h,_⟩:=h;exact absurd h (by omega)))
  |succ n ih=>exact Cal.o (Cal.of D73 (uH (k:=2*n+6) (r:=n) Z F73 G72.o G61.o ih))
 have G73:=r_ldr 10;have r_lsp:∀n,Cal l.prog w K mg base CX0 (2*n+4) "_law_spoilt" (aEs K n):=by
  intro n
  induction n with
  |zero=>exact Cal.of D74 (noFn (fun vs H Q E h=>by obtain⟨_,_,_,_,h,_⟩:=h;exact absurd h (by omega)))
  |succ n ih=>exact Cal.o (Cal.of D74 (rO (k:=2*n+4) (r:=n) Z F74  ih))
 have G74:=r_lsp 10;have r_lmx:∀n,Cal l.prog w K mg base CX0 (2*n+6) "_law_mixed" (aEx K n):=by
  intro n
  induction n with
  |zero=>exact Cal.of D75 (noFn (fun vs H Q E h=>by obtain⟨_,_,_,_,_,_,h,_⟩:=h;exact absurd h (by omega)))
  |succ n ih=>exact Cal.o (Cal.of D75 (sX (k:=2*n+6) (r:=n) Z F75 G61.o ih))
 have G75:=r_lmx 10;have r_ltw:∀n,Cal l.prog w K mg base CX0 (2*n+4) "_law_twin" (aDo K n):=by
  intro n
  induction n with
  |zero=>exact Cal.of D76 (noFn (fun vs H Q E h=>by obtain⟨_,_,_,_,h,_⟩:=h;exact absurd h (by omega)))
  |succ n ih=>exact Cal.o (Cal.of D76 (aBm (k:=2*n+4) (r:=n) Z F76  ih))
 have G76:=r_ltw 10;have r_lso:∀n,Cal l.prog w K mg base CX0 (2*n+4) "_law_sorted" (aFj K n):=by
  intro n
  induction n with
  |zero=>exact Cal.of D77 (noFn (fun vs H Q E h=>by obtain⟨_,_,_,h,_⟩:=h;exact absurd h (by omega)))
  |succ n ih=>exact Cal.o (Cal.of D77 (pR (k:=2*n+4) (r:=n) Z F77  ih))
 have G77:=r_lso 10;have r_lnb:∀n,Cal l.prog w K mg base CX0 (2*n+4) "_law_numbered" (aEq K n):=by
  intro n
  induction n with
  |zero=>exact Cal.of D78 (noFn (fun vs H Q E h=>by obtain⟨_,_,_,_,_,_,h,_⟩:=h;exact absurd h (by omega)))
  |succ n ih=>exact Cal.o (Cal.of D78 (lW (k:=2*n+4) (r:=n) Z F78  ih))
 have G78:=r_lnb 10;have r_lnu:∀n,Cal l.prog w K mg base CX0 (2*n+4) "_law_numbers" (aFs K n):=by
  intro n
  induction n with
  |zero=>exact Cal.of D79 (noFn (fun vs H Q E h=>by obtain⟨_,_,_,h,_⟩:=h;exact absurd h (by omega)))
  |succ n ih=>exact Cal.o (Cal.of D79 (mY (k:=2*n+4) (r:=n) Z F79  ih))
 have G79:=r_lnu 10;have r_bl:∀n,Cal l.prog w K mg base CX0 (4*n+6) "blank_of" (aEv (Cl5.mk Va Vb Vc Vd Ve) K n)/\Cal l.prog w K mg base CX0 (4*n+8) "blank" (aEu (Cl5.mk Va Vb Vc Vd Ve) K n):=by
  intro n
  induction n with
  |zero=>exact⟨Cal.of D38 (noFn (fun vs H Q E h=>by obtain⟨_,_,_,_,_,h,_⟩:=h;exact absurd h (by omega))),Cal.of D37 (noFn (fun vs H Q E h=>by obtain⟨_,_,_,_,_,h,_⟩:=h;exact absurd h (by omega)))⟩
  |succ n ih =>
   have g1:=(Cal.of D38 (aAo (k:=4*n+8) (r:=n) Z F38 KS (fun C' sp h=>yN.mono (t_parted C' sp h) (by omega)) G39.o ih.2 ih.1.o));have g2:=(Cal.of D37 (aKp (k:=4*n+10) (r:=n) Z F37 G13.o g1.o));exact⟨Cal.o g1,Cal.o g2⟩
 have G37:=(r_bl 10).2;have G80:=(Cal.of D80 (rM (k:=24) (r:=9) Z F80 G78.o G79.o));have G41:=(Cal.of D41 (aLs (k:=64) (r:=9) Z F41 G31.o G42.o G13.o));have G43:=(Cal.of D43 (aDi (k:=28) (r:=9) Z F43 G44.o G45.o G13.o));have G81:=(Cal.of D81 (tZ (k:=66) (r:=9) Z F81 G61.o G77.o G40.o G31.o G74.o G80.o G37.o G76.o G41.o G43.o));have G82:=(aPu (k:=84) (r:=12) Z ⟨by decide,by decide⟩ F82 G59.o G60.o G69.o G71.o G47.o G61.o G75.o G73.o G81.o);exact G82
theorem walk{l:PySem.W.OpenLaw}{YP:oo->mv->Prop}{d:DefRec}{K:Params->Ξ}(hn:l.most=some 63)(hdf:d.params.defaults=[])
  (hY:∀(w:oo) (h:mv),YP w h->(K w.params).In h)
  (F:∀(w:oo) (mg:Str->Option Value) (fa:Addr) (h:mv),(K w.params).In h->h.Ns iq mg->mg d.name=some (.ref fa) →
   ∃fd:uo,(∀(s:ω) (u:Value),BindsTo s fd ⟨[u],[]⟩ [("_law_script",u)])/\∀base:mv,(K w.params).In base->base.Ns iq mg->kH l.prog w (K w.params) mg base CX0 86 fa fd ["_law_script"] (aFo (K w.params))):
  PySem.W.WalkO q loose XP YP l.row.toRowW d [] (fun f vs=>PySem.call f vs) :=
 L2.aNr (n:=63) (k:=86) (x:="_law_script") (CX:=fun _=>CX0) (sp:=fun w=>aFo (K w.params)) hn (by decide) hdf ⟨rfl,by decide,by decide,rfl⟩ hY F (fun _ _ a ns hl _ hS=>⟨a,ns,rfl,hS,hl,fun _=>rfl⟩) fun _ _ _ _ _ z=>z
end K19
namespace PySem.W.Fast
def tw10528726208751164583:=0
def tw17446875677394445071:=0
def tw6211446057320267610:=0
def tw3255009073241791006:=0
def tw4325288858076346261:=0
def tw13775082102936538696:=0
def tw12943079841764355407:=0
def tw5725547138858081966:=0
def tw9583933286154362586:=0
def tw11890356997407465827:=0
def tw13915415100943101359:=0
def tw15268838875254614525:=0
def tw10632122455391456752:=0
def tw751713432578317618:=0
def tw7966067227498557782:=0
def tw14559401410589513035:=0
def tw356997149660705773:=0
def tw13944690259462790753:=0
def tw7584025525972086566:=0
def tw8942089234015055297:=0
def tw3449728830925118669:=0
def tw7556287363879886291:=0
def tw7182988885959044483:=0
def tw11361327210433897464:=0
def tw4231624340331969445:=0
def tw4915084780122987253:=0
def tw17084323855864745:=0
def tw14504500301718027416:=0
def tw10504547518936082371:=0
def tw10578118225390283709:=0
def tw7268227247238634433:=0
def tw8235417253451939812:=0
def tw10854800943819029103:=0
def tw17268048032054865395:=0
def tw10601208125799747528:=0
def tw8869220163316110858:=0
def tw12527760466236433386:=0
def tw14688542879880645851:=0
def tw9422393946601072850:=0
def tw157092989730585326:=0
def tw13871995037596810733:=0
def tw5651427267118174231:=0
def tw98253402001777697:=0
def tw13183923799630813563:=0
def tw12225192821512412118:=0
def tw7000589025585943235:=0
def tw12037822798263378975:=0
def tw14658928113672715533:=0
def tw15722773502078855933:=0
def tw8205132527589441176:=0
def tw12397645603583289375:=0
def tw9504032135157812733:=0
def tw725122232084655473:=0
def tw17823920551649078956:=0
def tw1675880163625910917:=0
def tw9886857332231812385:=0
def tw7576764753650957353:=0
def tw12241048551571766430:=0
def tw1372791113442571428:=0
def tw370404607992660218:=0
def tw11933679026973320086:=0
def tw14759356218956102435:=0
def tw10919529117066420120:=0
def tw4469685728299120819:=0
def tw2024960386489320682:=0
def tw14956507995223227128:=0
def tw15887901151467989004:=0
def tw2930425666109044446:=0
def tw6389645307248617894:=0
def tw7877176597161370964:=0
def tw1192987115732575362:=0
def tw429944169633108515:=0
def tw4796595835952455635:=0
def tw5770269352544885769:=0
def tw15071312940764545885:=0
def tw9949158563429767132:=0
def tw6543854720837574757:=0
def tw9645363920869731877:=0
def tw5233725240221405152:=0
def tw18078665502007407643:=0
def tw17839765352022079699:=0
def tw7341240192643992437:=0
def tw12929252480831845886:=0
def tw7996937617020734387:=0
def tw3899730451448193500:=0
def tw14696674041016676657:=0
def tw3761051852473054937:=0
def tw16851620091622138431:=0
def tw17237557997769231155:=0
def tw11680237083307390828:=0
def tw4240769983359824522:=0
def tw6975954612053886423:=0
def tw449673345010513724:=0
def tw3289936960549550979:=0
def tw11477851779188998682:=0
def tw14528397211925852530:=0
def tw16791911985343153118:=0
def tw12644686011634466003:=0
def tw4167875731949887569:=0
def tw15984223039429692991:=0
def tw4193674490433111295:=0
def tw6267824338121149847:=0
def tw15224358280787752063:=0
def tw7926574404387372609:=0
def tw3906381633618317922:=0
def tw14286720772674752562:=0
def tw5107606388467936079:=0
def tw5479494382850613043:=0
def tw7131668529795058135:=0
def tw10055785212844438480:=0
def tw11404004902735373384:=0
def tw9650376273980834638:=0
def tw8733303154828832869:=0
def tw9953142390868727762:=0
def tw17978474644102001220:=0
def tw452263715105560190:=0
def tw17492182565210957822:=0
def tw5672120920836349166:=0
def tw435498491504677591:=0
def tw10622969069730606109:=0
def tw2625651723861544129:=0
def tw12590451830318856400:=0
def tw1462847058767466865:=0
def tw6355942978124943140:=0
def tw6374858834943413482:=0
def tw7416080696453003041:=0
def tw6311418049156196392:=0
def tw17857439688388443547:=0
def tw14367328725318765038:=0
def tw11446257017804256266:=0
def tw10570963214108661840:=0
def tw3160853431795081163:=0
def tw3570988254667287160:=0
def tw12674138206726868986:=0
def tw9572076652199798115:=0
def tw2297758205119370489:=0
def tw11056388748262662527:=0
def tw14117493168317550662:=0
def tw9199644922532417885:=0
def tw14535959255248073382:=0
def tw18386901837743068453:=0
def tw4281968074774858749:=0
def tw10781767587889267983:=0
def tw5247698458444250682:=0
def tw6690099408876491746:=0
def tw5282487587285803945:=0
def tw9165326729768102558:=0
def tw4817907794909009897:=0
def tw7584849581868787608:=0
def tw6117535261518443250:=0
def tw12857621823143267146:=0
def tw5801188380384289325:=0
def tw17800935086232249220:=0
def tw16139601563648047655:=0
def tw1033855576086384239:=0
def tw536641320351319475:=0
def tw8553314099829141625:=0
def tw15280289365825128602:=0
def tw16198787278553300723:=0
def tw2925347393732426748:=0
def tw427276055552193324:=0
def tw7283212005913003498:=0
def tw1123049877988272632:=0
def tw17354019233143304212:=0
def tw10563560352980408934:=0
def tw2280695955753710241:=0
def tw9242614618755131340:=0
def tw13777783273053823138:=0
def tw14681870455736245129:=0
def tw17974820042911213700:=0
def tw1578881085108841932:=0
def tw5018904601058440100:=0
def tw18216395634499100475:=0
def tw16986148101481744304:=0
def tw16138464492837723948:=0
def tw10412986817163528011:=0
def tw7307238475632164661:=0
def tw14429494213413976156:=0
def tw11436398444375357415:=0
def tw18131261558832435146:=0
def tw9789349626463479087:=0
def tw3112280055247394931:=0
def tw2929012741281150423:=0
def tw378144098082029386:=0
def tw18356718522019780820:=0
def tw12367228431073999604:=0
def tw9592347712398942957:=0
def tw3638657473194922787:=0
def tw8613599739098860590:=0
def tw9835096383833867871:=0
def tw3717569490208764112:=0
def tw13834422474268341370:=0
def tw476952391253731167:=0
def tw16111936587202820435:=0
def tw18389667208011811736:=0
def tw15126953708248126556:=0
def tw2948658942735384172:=0
def tw15020632727746453947:=0
def tw11437899374101501968:=0
def tw10943635014862696614:=0
def tw11599333348739634220:=0
def tw5048160157299770331:=0
def tw5225053254561706908:=0
def tw6151626082452957606:=0
def tw4000242874135019957:=0
def tw8556672628411082662:=0
def tw14419172112212300714:=0
def tw18282075073550713456:=0
def tw12356456396240421758:=0
def tw16253851678416422616:=0
def tw10601961087062079025:=0
def tw7142646096955135673:=0
def tw8604353597732309669:=0
def tw4965248774198025710:=0
def tw8252024497371904260:=0
def tw4560068132202401518:=0
def tw2342396265213702378:=0
def tw12913972526564542001:=0
def tw4096305665564712489:=0
def tw18267205747651740517:=0
def tw3168437861879628:=0
def tw4356084306969783506:=0
def tw11744326337485945207:=0
def tw5828310485597395725:=0
def tw6383052983330267316:=0
def tw16673919021345995185:=0
def tw18333788147374600048:=0
def tw9077251149373541146:=0
def tw3969301388297257996:=0
def tw13227930592603384000:=0
def tw14618293808696813918:=0
def tw10042341352166225086:=0
def tw11491616866019411123:=0
def tw9693287935611219575:=0
def tw4330788298339022242:=0
def tw17990540710339288887:=0
def tw15460323334276801461:=0
def tw2109033125353645723:=0
def tw13510000676249925845:=0
def tw9011525270106189385:=0
def tw12881850488673223226:=0
def tw9462880412012736186:=0
def tw16827480225447697818:=0
def tw10656103687892705857:=0
def tw17131647649371825313:=0
def tw3399371964678354216:=0
def tw5925128576040934941:=0
def tw657496768652593787:=0
def tw7538542910678682866:=0
def tw4303523714272688432:=0
def tw11446313316878455189:=0
def tw7719939962218542891:=0
def tw6474379167341106497:=0
def tw7067359668634557079:=0
def tw966861588761200943:=0
def tw1014277222624259205:=0
def tw885730405738421509:=0
def tw11776955966817949148:=0
def tw6708669145754557293:=0
def tw6746063995905243251:=0
def tw1416609791184481947:=0
def tw13594925655748540294:=0
def tw15582462200403857936:=0
def tw13281254554656455896:=0
def tw17527786103205850239:=0
def tw3129973039126529836:=0
def tw11229763536714499701:=0
def tw10822552824025134294:=0
def tw15264804998652291253:=0
def tw7988507679376570985:=0
def tw168011626900671844:=0
def tw1573635638717714399:=0
def tw10174639287495476770:=0
def tw12686421989723325483:=0
def tw12896330713269772064:=0
def tw6197343638727100138:=0
def tw14398301845193179928:=0
def tw12924126399933080388:=0
def tw12422736626904525224:=0
def tw11242669628135147285:=0
def tw4581059210491152415:=0
def tw4491567594365618154:=0
def tw1701618358962054149:=0
def tw16011192192763065471:=0
def tw2494269105548629471:=0
def tw6862972850837931782:=0
def tw10460381588126996117:=0
def tw17689784593138043771:=0
def tw3437805150655965319:=0
def tw3154315431091801218:=0
def tw16347190990966820881:=0
def tw591164387519728538:=0
def tw8870922773692489541:=0
def tw2244323854697682700:=0
def tw1114821850808060352:=0
def tw5622359720264040482:=0
def tw441000143057451865:=0
def tw13122607734803205139:=0
def tw10273920327152105780:=0
def tw7290529373706404650:=0
def tw9133516213220751391:=0
def tw9300580789616904367:=0
def tw15145016102646577151:=0
def tw8358845512144808886:=0
def tw12878950115113281531:=0
def tw2584980518015214595:=0
def tw3378046363410546044:=0
def tw6036520171740841075:=0
def tw2401133942254987553:=0
def tw11541488899276973951:=0
def tw12819904814348472612:=0
def tw4997688163427166665:=0
def tw5511267167305829811:=0
def tw12449163845109966523:=0
def tw3512203773938984791:=0
def tw11747944349652373721:=0
def tw17988613418205440038:=0
def tw8505147807210494123:=0
def tw14497251852449182955:=0
def tw13353045311665063202:=0
def tw14924977115909036114:=0
def tw3906412229648514224:=0
def tw462500092711541554:=0
def tw14951392440684198219:=0
def tw11652716761885444511:=0
def tw18068613770805205338:=0
def tw14201331073575941941:=0
def tw9010384087429958514:=0
def tw1312580747578516016:=0
def tw17107786069793649885:=0
def tw4502652640576108048:=0
def tw3358504956229175774:=0
def tw4656011983702077803:=0
def tw16367305079853602936:=0
def tw9337376010599274318:=0
def tw13927556662802825096:=0
def tw11555122120837948522:=0
def tw15029622304207192846:=0
def tw6081793719386659138:=0
def tw3450066563026135520:=0
def tw5267781581091579479:=0
def tw12724257882453794194:=0
def tw8163938164135116383:=0
def tw3502901083046248813:=0
def tw13776805627428749997:=0
def tw14674805502686422035:=0
def tw15667106413684301771:=0
def tw10896754862478296573:=0
def tw16982164225315643810:=0
def tw15574937812561683095:=0
def tw17976351908871511730:=0
def tw1882034494164210323:=0
def tw5750843886829783898:=0
def tw652774881639855136:=0
def tw474208129626129313:=0
def tw8193007844071696341:=0
def tw9989805487414438210:=0
def tw7924615829654803482:=0
def tw15249599455484278571:=0
def tw17488376904663835122:=0
def tw4705381221879930857:=0
def tw3176273876919378884:=0
def tw8486561142795651041:=0
def tw3200654509750497821:=0
def tw10355829721525708324:=0
def tw1525218907423509895:=0
def tw3968236781276188488:=0
def tw8098587783403540360:=0
def tw16786193633974514900:=0
def tw13348463090109999549:=0
def tw8807032270804030563:=0
def tw4785898651148102073:=0
def tw11806324081105636541:=0
def tw8244584266317929813:=0
def tw4388048137052391030:=0
def tw12653211890476746947:=0
def tw9350032854196395545:=0
def tw17353862092959213824:=0
def tw10739145140527067623:=0
def tw10090009556508561566:=0
def tw496081343697768126:=0
def tw8784945291345862570:=0
def tw14187516413664983601:=0
def tw5846280011134451770:=0
def tw1057855313199948496:=0
def tw16135528411398109665:=0
def tw6762232452028991998:=0
def tw8784629252363242712:=0
def tw178930186016346781:=0
def tw12451262067485206377:=0
def tw4256642618656538797:=0
def tw5665314017353754202:=0
def tw194159634666997142:=0
def tw10291496445682305643:=0
def tw10538343455859033997:=0
def tw2050603242987709943:=0
def tw6555259489465862540:=0
def tw9219845134567245823:=0
def tw17332181272006327708:=0
def tw11193806659982758429:=0
def tw16170163063089405762:=0
def tw3870525245701715924:=0
def tw12166342233901142579:=0
def tw16044677452046997346:=0
def tw11483344895823106654:=0
def tw11171764804752026560:=0
def tw5320578584655119336:=0
def tw4609804098795880461:=0
def tw16180426983951832943:=0
def tw8381166036932301164:=0
def tw6132846779925756542:=0
def tw2356767697020110387:=0
def tw8948096767653068448:=0
def tw6156709753575062705:=0
def tw4775633925334847997:=0
def tw14488861558913157904:=0
def tw6518275120431762276:=0
def tw2094325385230825488:=0
def tw17402810808633185893:=0
def tw5878818938409298435:=0
def tw10008578975180232484:=0
def tw9479936013332303361:=0
def tw16549042901377574354:=0
def tw1061253152607529372:=0
def tw14715434602079891273:=0
def tw6187511467324020395:=0
def tw1985909477348505339:=0
def tw6641968716231429140:=0
def tw5635442107666292498:=0
def tw6088826996017756148:=0
def tw6079858140861135287:=0
def tw2113428289239906616:=0
def tw8765396012890059000:=0
def tw649508672058551564:=0
def tw4010094462212074923:=0
def tw2424665502738151182:=0
def tw5084353276431590062:=0
def tw232777266302301776:=0
def tw8949680042425956884:=0
def tw1529175746324653277:=0
def tw17553573430931038288:=0
def tw4559448276609651193:=0
def tw16355998541470128533:=0
def tw8883373683757116056:=0
def tw4731231769775810996:=0
def tw5786927657835805945:=0
def tw9524953514805245944:=0
def tw811091039915078108:=0
def tw16708323645483227521:=0
def tw3753589187858937979:=0
def tw14975085808843985299:=0
def tw15643087958007851977:=0
def tw12058533837846992875:=0
def tw3351091420850042727:=0
def tw2527890199543329781:=0
def tw3785584504649613783:=0
def tw18186539912718573983:=0
def tw9555266666112197280:=0
def tw16101838176105813556:=0
def tw4575548428386971104:=0
def tw2431907596690059132:=0
def tw3822827286005935713:=0
def tw7340380058201226291:=0
def tw16721013815918114069:=0
def tw13993555573814645604:=0
def tw284120837614428825:=0
def tw11047337354712347859:=0
def tw16074382797884788106:=0
def tw1601078599425507937:=0
def tw12075597213203956228:=0
def tw213301909477426902:=0
def tw3902348256284574495:=0
def tw4483099951335148562:=0
def tw14328399856117703748:=0
def tw12954737947953336255:=0
def tw16322828016684817830:=0
def tw9103104994844463953:=0
def tw17355257320932846044:=0
def tw15025447264047129020:=0
def tw15109199865039550394:=0
def tw8185318411877120088:=0
def tw6891810104265514418:=0
def tw14012146732641764915:=0
def tw7975437452341827019:=0
def tw5058464055564944116:=0
def tw17549546249386096936:=0
def tw1589453534074724582:=0
def tw11810158138285336116:=0
def tw6699527646935766980:=0
def tw15282270744444309326:=0
def tw5289752353680445207:=0
def tw5443371049252251910:=0
def tw18011691888445283832:=0
def tw13839216630602848763:=0
def tw3036882751267310976:=0
def tw14950659497063938461:=0
def tw8522836105841745883:=0
def tw7318162550284865366:=0
def tw9331624589975967977:=0
def tw5104046080278279440:=0
def tw11550980506171323885:=0
def tw10088756283548907184:=0
def tw2299227481815636478:=0
def tw1258233131440054730:=0
def tw10889740161591364269:=0
def tw17762319481505032944:=0
def tw18299670975126786282:=0
def tw8397723196619253424:=0
def tw12170043756561847555:=0
def tw6415476557421910463:=0
def tw14156635680829080487:=0
def tw8916248363563248608:=0
def tw13707960563075848641:=0
def tw17691017389531769463:=0
def tw8661007144488754575:=0
def tw15171606030347409563:=0
def tw10863077860377154257:=0
def tw15724486269369090117:=0
def tw11835744772213879947:=0
def tw14468806842190482817:=0
def tw2572767945170801573:=0
def tw16106886791528591131:=0
def tw5417719929971300841:=0
def tw12611889284937241101:=0
def tw5244644979715261644:=0
def tw12734731306958018026:=0
def tw13859780401074267980:=0
def tw17701495002442426794:=0
def tw10909621608585932494:=0
def tw11035110152191233720:=0
def tw8803884094392663937:=0
def tw15285650450371209240:=0
def tw10336082042941555159:=0
def tw9841730564360137114:=0
def tw8123745644426144210:=0
def tw5749320166429484610:=0
def tw14444587707699964828:=0
def tw13214880079188043129:=0
def tw8150749131648104901:=0
def tw12976924408115290518:=0
def tw7913230209268173426:=0
def tw9523245064322685612:=0
def tw16400803286254039600:=0
def tw14654496547931193868:=0
def tw3466791931035741426:=0
def tw4391143212393050033:=0
def tw11010045696860421899:=0
def tw18153453087884756540:=0
def tw9465334318892803944:=0
def tw1076262743694990065:=0
def tw10797192216998323230:=0
def tw5383148502748605677:=0
def tw381835348422901780:=0
end PySem.W.Fast
open PySem PySem.W PyProof.Rows
set_option maxRecDepth 100000 in
set_option maxHeartbeats 0 in
theorem PySem.Challenge.cw_roomslaid_k19_copies_share_nothing_holds : PySem.Challenge.rw_roomslaid_k19_copies_share_nothing.Holds := by
 w_on;o_law;k_head; (case hw=>w_witness2)
 k_fill
 refine K19.walk (l := PySem.Challenge.rw_roomslaid_k19_copies_share_nothing) rfl rfl (fun w h Y => PySem.W.kIn_of Y) ?F
 case F =>
  intro w mg fa h KX G hmg
  refine' K19.all_mk KX G hmg ?_ ?_ ?_ ?_ ?_ ?_ ?_ ?_ ?_ ?_ ?_ ?_ ?_ ?_ ?_ ?_ ?_ ?_ ?_ ?_ ?_ ?_ ?_ ?_ ?_ ?_ ?_ ?_ ?_ ?_ ?_ ?_ ?_ ?_ ?_ ?_ ?_ ?_ ?_ ?_ ?_ ?_ ?_ ?_ ?_ ?_ ?_ ?_ ?_ ?_ ?_ ?_ ?_ ?_ ?_ ?_ ?_ ?_ ?_ ?_ ?_ ?_ ?_ ?_ ?_ ?_ ?_ ?_ ?_ ?_ ?_ ?_ ?_ ?_ ?_ ?_ ?_ ?_ ?_ ?_ ?_ ?_ ?_ ?_ ?_ ?_ ?_ ?_ ?_ ?_ ?_ ?_ ?_ ?_ ?_ ?_ ?_ ?_ ?_ ?_ ?_ ?_ ?_ ?_ ?_ ?_ ?_ ?_ ?_ ?_ ?_ ?_ ?_ ?_ ?_ ?_ ?_ ?_ ?_ ?_ ?_ ?_ ?_ ?_ ?_ ?_ ?_ ?_ ?_ ?_ ?_ ?_ ?_ ?_ ?_ ?_ ?_ ?_ ?_ ?_ ?_ ?_ ?_ ?_ ?_ ?_ ?_ ?_ ?_ ?_
  all_goals (first|refine' K19.FG.mk ?_ ⟨_,L2.aIi ?_ ?_ ?_⟩|refine' K19.FM.mk ?_ ?_ ⟨_,L2.aIi ?_ ?_ ?_⟩|refine' K19.CK.mk ?_ ⟨?_,?_,?_,?_⟩ ?_ ?_ ?_|skip)
  all_goals (repeat' (first|exact K19.na0|refine' K19.na1 ?_ ?_))
  all_goals (first|k_is|exact K19.na0|exact Eq.refl true|exact Eq.refl (some true)|exact Eq.refl (some false)|kernel_rfl|ac_rfl|skip)
