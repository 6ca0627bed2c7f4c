import PyProof.Rows.All
import Wide.All
import OpenK.AllK
import Wide.FinOn
import PySem.Challenge.RW_roomslaid_k14_blank_and_records
set_option hygiene false
set_option autoImplicit true
set_option Elab.async false
set_option linter.all false
set_option maxRecDepth 100000
local macro_rules|`(tactic|ac_rfl)=>`(tactic|decide +kernel)
theorem hide_{p:Prop}(h:let g:=p;g):p:=h
def LpL (p:Prop):Prop:=p
theorem LpL.i{p:Prop}(h:p):LpL p:=h
local macro_rules | `(tactic| obtain $p:rcasesPatMed := $e) => `(tactic| (refine hide_ ?_;intro G_; (rcases $e:term with $p) <;> (unfold G_;try clear G_;try (with_reducible refine LpL.i ?_;intro D_))))
local macro_rules | `(tactic| omega) => `(tactic| lia)
open PySem.W (Frag keepIn findIn codeIn nsIn fnOf mg_of isFn mg_none_of)
open List renaming length_map->δ,getElem?_eq_getElem->η,getElem?_eq_some_iff->θ,mem_of_getElem?->ι,length_append->ξ,mem_cons_of_mem->ρ,map_append->τ,mem_cons->υ,mem_cons_self->ψ,getD_eq_getElem?_getD->Θ,size_toArray->Ξ,mem_singleton->Φ,length_take->Ω,length_cons->gj,mem_append_right->gq,getElem?_append_right->gr,getElem?_map->gu,all_eq_true->ia,mem_map->ib,getElem?_append_left->ig,not_mem_nil->il,range->ir,zipWith->iw,mem_append->iz,map_map->jf,nodup_cons->jh,take_add_one->jk,length_range->jo,map_cons->jp,getElem_mem->ju,mem_iff_getElem?->jz,mem_append_left->ke,append_assoc->kj,length_singleton->lj,take_of_length_le->mh,append_nil->mi,length_eq_zero_iff->mv,length_take_le->nh,length_replicate->nj,take_append_drop->nq,getElem?_take_of_lt->oe,cons_append->oo,filter_cons_of_neg->oq,flatMap_append->pe,pairwise_iff_getElem->pq,reverse_cons->qm,length_pos_iff->qu,length_reverse->qv,getElem?_range->qw,flatMap_singleton->qz,zipWith_cons_cons->rf,getElem?_eq_none->se,find?_cons->si,pairwise_singleton->uc,range'->ud,range_succ->uj,sum_cons->uv,pairwise_map->va,mem_range->vb,replicate->ve,nodup_nil->vg,getElem?_of_mem->vh,filter_cons->vn,map_congr_left->wb,mem_filterMap->wo,lookup->wz,flatMap_cons->xk,nodup_append->xq,getElem?_zipWith->xu,eq_nil_or_concat->xw,concat_eq_append->xx,length_drop->yd,any_eq_true->ye,getElem_map->yg,map_reverse->yh,any_cons->yj,Pairwise->yk,reverse_reverse->yp
open PySem renaming wpAny_bind->ε,PyData->ν,wpAny_pure->π,Shared->ς,sizeLine->χ,wpAny->gp,mainGlobals->gv,sizeLine_eq->ic,model->ik,Program->io,starEach->ip,boot_len->iq,sysModules->ja,World->jl,wpAny_truthy_bool->kg,strLen_append->ki,Around->km,compareOp->kn,Heap->kq,wpAny_holding->lh,bootBuiltins->lr,mem_of_lookup->lu,Spec->lw,wpAny_mono->md,wpAny_loadPart'->mj,wpAny_call_entry->mn,wpAny_dictEntries->mr,Builtin->oy,wpAny_dictEpoch->ph,cLine->pw,wpAny_field->qg,wpAny_seqItems->qh,wpAny_typeNameOfWhole_keyiter->qj,wpAny_pyIter_list->qk,wpAny_newObj_type->qo,binaryOp->qt,wpAny_richCompare_same_room->rg,wpAny_pyIter_tuple->rn,wpAny_setField_rec->sd,wpAny_typeNameOf_keyiter->tq,FuncData->tw,wpAny_getItem_str_slice->tx,wpAny_isInstance->ub,reprText->ul,behindInMarks->uu,wpAny_notOrdered_dict->ux,assignEach->vc,DictEntry->vj,valueAt->vm,wpAny_forIn_list->vq,backTo->vy,wpAny_getItem_list_slice->wg,letOwnedTupleGo->wl,wpAny_passesOwn->wm,wpAny_Call_Name_kw->wq,tupleKind_room_in1->wu,wpAny_rule->wx,sliceBounds->xb,foldedSetIterable->xf,slot_list_getitem->xh,call_meetsIn->xn,placesWithHash->xo,attributeBase->yi,wpAny_updateSeq_pair->ym
open PySem.Str renaming ofString->ζ,join->je,cps_append->og,append_assoc->vw
open Nat renaming le_refl->μ,lt_of_lt_of_le->Γ,le_trans->Ψ,zero_le->gw,ne_of_lt->ii,min_le_left->jq,le_of_lt->jw,not_succ_le_zero->kf,lt_of_le_of_lt->mw,sub_self->my,max_le->oz,lt_irrefl->qb,le_succ->rj,lt_succ_self->tu,succ_le_succ->ua,lt_or_ge->uf,not_lt_zero->ui,ne_of_gt->vi,le_add_right->vp,sub_zero->xl
open Bool renaming false_ne_true->ο,and_eq_true_iff->jd,and_eq_true->jt,false_eq_true->li,true_and->ow,eq_iff_iff->qr,false_and->rm,eq_false_iff->xp
open PySem.Heap renaming get?_push_of_some->ω,get?_push_size->gm,lt_size->gx,SameBut->qc,get?_update_other->qy,size_push->rp,get?_update_self->uw,IsTuple->xm
open PySem.W renaming Frag->Δ,kitOne->jy,mg_none_of->mf,kia_one->mx,instObj->qq,findIn->sf,mroIn->we,methodCall_KW->xr,plainGet->yc
open PyProof.Rows renaming boot_isinstance->ie,callWith_type1->qx,boot_list->rl,boot_tuple->ug
open True renaming intro->iu
open Array renaming getElem?_eq_getElem->iy,length_toList->jb,toList_append->nc,getElem?_toList->px,mem_toList_iff->vd
open Option.some renaming inj->jg
open PySem.PyData renaming depthAll->ji,weightAll->mq,leavesShortAll->nr,showableAll->qa,depthKv->qi,weightKv->sr,leavesShortKv->su,dict->ue,showableKv->uz,tuple->vt
open PySem.Value renaming ref->jm,none->mz,type->wn
open Nat.succ renaming inj->jr
open PySem.PassesOwn renaming never->jv
open PySem.Builtin.SmallTypes renaming nextOf->jx,ownedTupleIsFree->oh,ownedTupleHandOut->wc
open False renaming elim->kc
open Ne renaming symm->kh
open PySem.SeqAt renaming EqAt->lc,shaped->vo
open Option renaming isSome_iff_exists->nv,map_some->sq,isSome_map->xj
open PySem.F renaming slot_dict_keyiterator_next->ol,plainAttrs_list->ou,slot_list_append->qd,type_list_append->qe,plainAttrs_dict->qp,plainAttrs_str->rh,slot_tuple_iterator_next->rq,slot_dict_pop->uy,args_tuple_add_2->wf,entry_tuple_add->xa,slot_tuple_add->xg,slot_str_join->xy,type_str_join->ya,type_dict_pop->yb
open PySem.Builtin.Str renaming occurrences->om,reprChar->yo
open PySem.Txt renaming split->pz
open Sum.inr renaming inj->qf
open Int renaming toNat_natCast->ql,zero_add->sy,natCast_add->uq,eq_ofNat_of_zero_le->xc
open PySem.Builtin.Dict renaming dictSlotArgs->sg,showsAll->xt
open List.cons renaming inj->tf
open ForInStep renaming yield->uh
open PySem.Shared renaming heap->vf
open PySem.Heap.SameBut renaming update->vz
open PySem.Paired renaming length->wd
open PySem.Builtin.List renaming listTooLong->wj
open Sum renaming inr->wk
open PySem.Obj renaming data_mapFields->ww
open List.Pairwise renaming nil->xi
open PySem.Builtin.Dict_items renaming ownsTuple->yr
namespace L2
open PySem PySem.Spec PyProof.Rows
abbrev Key:=Sum Int Str
def eV:Key->Value->Bool
 |.inl k,v=>Value.isInt k v
 |.inr x,v=>Value.isStrOf x v
def keyH (w:jl):Key->Int
 |.inl k=>hashInt k
 |.inr x=>hashStr w x
theorem qJ:∀{k:Key}{v:Value},eV k v=true->(∃i t,k=Sum.inl i/\v=Value.int i t)\/(∃x t,k=wk x/\v=Value.str x t)
 |.inl i,v,h=>by
  obtain⟨t,e⟩:=Value.isInt_shape (k:=i) (v:=v) h;exact .inl ⟨i,t,rfl,e⟩
 |.inr x,v,h=>by
  obtain⟨t,e⟩:=Value.isStrOf_shape (x:=x) (v:=v) h;exact .inr ⟨x,t,rfl,e⟩
theorem aGx(i:Int)(t:Tok):eV (.inl i) (.int i t)=true:=by simp[eV,Value.isInt]
theorem aGn(x:Str)(t:Tok):eV (.inr x) (.str x t)=true:=by simp[eV,Value.isStrOf]
theorem aQt(a b:Int):decide ((Sum.inl a:Key)=Sum.inl b)=(a == b):=by
 by_cases e:a=b
 ·subst e;simp
 ·have h:¬ (Sum.inl a:Key)=Sum.inl b:=fun q=>e (Sum.inl.inj q);rw[decide_eq_false h];exact(beq_eq_false_iff_ne.mpr e).symm
theorem aQo(a b:Str):decide ((wk a:Key)=wk b)=decide (a=b):=by
 by_cases e:a=b
 ·subst e;simp
 ·have h:¬ (wk a:Key)=wk b:=fun q=>e (qf q);rw[decide_eq_false h,decide_eq_false e]
theorem aRo(a:Int)(b:Str):decide ((Sum.inl a:Key)=wk b)=false:=decide_eq_false (fun q=>nomatch q)
theorem aPp(a:Str)(b:Int):decide ((wk a:Key)=Sum.inl b)=false:=decide_eq_false (fun q=>nomatch q)
def kT (prog:io) (w:jl):PySem.KeyKind prog w Key where
 is:=eV
 hash:=keyH w
 inj:=fun v a b ha hb=>by
  rcases qJ ha with⟨i,t,rfl,rfl⟩|⟨x,t,rfl,rfl⟩
  ·rcases qJ hb with⟨j,u,rfl,e⟩|⟨y,u,rfl,e⟩
   ·injection e with e1 _;rw[e1]
   ·exact nomatch e
  ·rcases qJ hb with⟨j,u,rfl,e⟩|⟨y,u,rfl,e⟩
   ·exact nomatch e
   ·injection e with e1 _;rw[e1]
 byValue:=fun k v h=>by
  rcases qJ h with⟨i,t,rfl,rfl⟩|⟨x,t,rfl,rfl⟩ <;> rfl
 pyHash:=fun hv h=>by
  rcases qJ hv with⟨i,t,rfl,rfl⟩|⟨x,t,rfl,rfl⟩
  ·exact wpAny_pyHash_int h
  ·exact wpAny_pyHash_str h
 eqBool:=fun hu hv h=>by
  rcases qJ hu with⟨i,t,rfl,rfl⟩|⟨x,t,rfl,rfl⟩
  ·rcases qJ hv with⟨j,u,rfl,rfl⟩|⟨y,u,rfl,rfl⟩
   ·rw[aQt]at h;exact wpAny_eqBool_int h
   ·rw[aRo]at h;exact lc.int_str i t y u _ _ _ _ h
  ·rcases qJ hv with⟨j,u,rfl,rfl⟩|⟨y,u,rfl,rfl⟩
   ·rw[aPp]at h;exact lc.str_int x t j u _ _ _ _ h
   ·rw[aQo]at h;exact wpAny_eqBool_str h
 «strs»:=fun k x t v h=>by
  rcases qJ h with⟨i,u,rfl,e⟩|⟨y,u,rfl,e⟩
  ·exact nomatch e
  ·injection e with e1 _;subst e1;cases v <;> rfl
theorem aAi(prog:io)(w:jl)(i:Int)(t:Tok):(kT prog w).is (.inl i) (.int i t)=true:=aGx i t
theorem wR(prog:io)(w:jl)(x:Str)(t:Tok):(kT prog w).is (.inr x) (.str x t)=true:=aGn x t
inductive V where
 |non|bl (b:Bool)|int (i:Int)|str (x:Str)|byt (b:Array UInt8)|flt (b:UInt64)|ref (a:Addr)|ty (n:String)
 deriving DecidableEq
def RelV:V->Value->Prop
 |.non,u=>u=mz
 |.bl b,u=>u=Value.bool b
 |.int i,u=>∃t,u=Value.int i t
 |.str x,u=>∃t,u=Value.str x t
 |.byt b,u=>∃t,u=Value.bytes b t
 |.flt b,u=>∃t,u=Value.float b t
 |.ref a,u=>u=jm a
 |.ty n,u=>u=wn n
abbrev kO:List V->List Value->Prop:=Paired RelV
theorem kO.length{xs:List V}{us:List Value}(r:kO xs us):xs.length=us.length:=wd r
theorem kO.get:∀{xs:List V}{us:List Value}{i:Nat}{x:V},kO xs us->xs[i]?=some x->∃u,us[i]?=some u/\RelV x u
 |_,_,_,_,.nil,e=>by simp at e
 |_,_,0,_,.cons r _,e=>by simp at e;subst e;exact⟨_,rfl,r⟩
 |_,_,i+1,x,.cons _ t,e=>by
  obtain⟨u,h1,h2⟩:=kO.get (i:=i) (x:=x) t (by simpa using e);exact⟨u,by simpa using h1,h2⟩
theorem kO.set(r:RelV x u):∀{xs:List V}{us:List Value}(i:Nat),kO xs us->kO (xs.set i x) (us.set i u)
 |_,_,_,.nil=>.nil
 |_,_,0,.cons _ t=>.cons r t
 |_,_,i+1,.cons q t=>.cons q (kO.set r i t)
theorem kO.append:∀{xs ys:List V}{us ws:List Value},kO xs us->kO ys ws->kO (xs++ys) (us++ws)
 |_,_,_,_,.nil,s=>s
 |_,_,_,_,.cons r t,s=>.cons r (kO.append t s)
theorem kO.take:∀{xs:List V}{us:List Value}(n:Nat),kO xs us->kO (xs.take n) (us.take n)
 |_,_,0,_=>.nil
 |_,_,_+1,.nil=>.nil
 |_,_,n+1,.cons r t=>.cons r (kO.take n t)
theorem kO.drop:∀{xs:List V}{us:List Value}(n:Nat),kO xs us->kO (xs.drop n) (us.drop n)
 |_,_,0,r=>r
 |_,_,_+1,.nil=>.nil
 |_,_,n+1,.cons _ t=>kO.drop n t
theorem kO.none_of:∀{xs:List V}{us:List Value}{i:Nat},kO xs us->xs[i]?=none->us[i]?=none:=fun {xs us i} r e=>by
 have h1:=r.length;have h2:xs.length<=i:=List.getElem?_eq_none_iff.mp e;exact List.getElem?_eq_none_iff.mpr (by omega)
def bS:Option V->Option Value->Prop
 |some v,some u=>RelV v u
 |none,none=>True
 |_,_=>False
def KV {κ : Type} : List (κ×V)->List (κ×Value)->Prop:=Paired fun (p : κ×V) (q : κ×Value)=>p.1=q.1/\RelV p.2 q.2
def kV:Key->V
 |.inl i=>.int i
 |.inr x=>.str x
inductive HO where
 /-- a list -/
 |lst (xs:List V)
 /-- a tuple (never changes) -/
 |tup (xs:List V)
 /-- a dict whose keys are ints and texts;one whose keys are tuples of ints and texts (the empty one is both) -/
 |dK (kvs:List (Key×V))|dT (kvs:List (List Key×V))
 /-- a set of ints: its members,its size -/
 |set (S:Int->Bool) (n:Nat)
 /-- an instance of the class at C,its dict at dx,its attributes -/
 |ins (C dx:Addr) (fs:List (Str×V))
 /-- the dict of the instance at x -/
 |own (x:Addr)
 /-- the dict of an exception -/
 |xd (fs:List (Str×V))
 /-- a bound method,f of x -/
 |met (f x:Addr)
 /-- a range object lo,lo+1,.. below hi -/
 |rng (lo hi:Int)
 /-- a thing that is known to the object (the script;a dict while a loop walks it): read,never written while it is so -/
 |frz (o:Obj) (u:HO)
 /-- a code object's table -/
 |tbl (ps:Array Value)
 /-- any other thing,by what is true of its one object (a def of one's own: SetO a S n := HO.ext fun h => ..) -/
 |ext (φ : kq->Prop)
abbrev Hp:=Addr->Option HO
def upd (H:Hp) (a:Addr) (o:HO):Hp:=fun b=>if b=a then some o else H b
theorem jR : upd H a o a=some o:=by unfold upd;rw[if_pos rfl]
theorem jS{H:Hp}{a b:Addr}(h:b≠a):upd H a o b=H b:=by unfold upd;rw[if_neg h]
theorem aMp : upd (upd H a o) a u=upd H a u:=by
 funext b;unfold upd;split <;> rfl
theorem hJ{H:Hp}(h:H a=some o)(h':H b=some u)(d:o≠u):a≠b:=by
 intro e;subst e;rw[h]at h';exact d (jg h')
theorem jM{H:Hp}(h:H a=some o)(h':H b=none):a≠b:=by
 intro e;subst e;rw[h]at h';cases h'
section
variable (P:io) (w:jl)
def qO (H:Hp) (h:kq) (a:Addr):HO->Prop
 |.lst xs=>xs.length<=χ/\∃(its:List Value) (n:Nat),kO xs its/\h.get? a=some { cls:=.type "list",data:=.seq its.toArray n }
 |.tup xs=>xs.length<=χ/\∃its:List Value,kO xs its/\IsTup h a its.toArray
 |.dK kvs=>kvs.length<=χ/\(a == ja)=false/\∃vs,KV kvs vs/\h.DictOf (kT P w) a vs
 |.dT kvs=>kvs.length<=χ/\(a == ja)=false/\∃xs:List (List Key×Addr×Value),
   Paired (fun (p:List Key×V) (q:List Key×Addr×Value)=>p.1=q.1/\H q.2.1=some (.tup (p.1.map kV))/\RelV p.2 q.2.2) kvs xs ∧
   ∃o es ep,h.get? a=some o/\o.ExactDict/\o.data=.dict es ep/\es.toList=xs.map (entryOfKey (tupleKind (kT P w)))/\(xs.map (·.1)).Nodup
 |.set S n=>h.SetOf (intKind P w) a S n
 |.ins C dx fs=>H dx=some (.own a)/\fs.length<=1000/\dx≠a/\h.get? a=some (qq C dx) ∧
   ∃mA,h.Ns1 dx mA/\(∀f,bS (fs.lookup f) (mA f))/\PySem.Within mA (fs.map (·.1))
 |.own _=>∃o,h.get? a=some o
 |.xd fs=>∃mA,h.Ns1 a mA/\∀f,bS (fs.lookup f) (mA f)
 |.rng lo hi=>∃t u v,h.get? a=some { cls:=.type "range",data:=.fields #[.int lo t,.int hi u,.int 1 v] }
 |.frz o u=>h.get? a=some o/\qO H h a u
 |.tbl ps=>h.get? a=some { cls:=.none,data:=.fields ps }
 |.met f x=>h.get? a=some (PySem.W.methodObj (.ref f) (.ref x))
 |.ext φ=>φ h/\(∃o,h.get? a=some o)/\∀h1 h2:kq,φ h1->(∀o,h1.get? a=some o->h2.get? a=some o)->φ h2
def HOk (H:Hp) (h:kq):Prop:=∀a o,H a=some o->qO P w H h a o
end
section
variable {P:io}{w:jl}{H H':Hp}{h h':kq}{a:Addr}{o:HO}
theorem qO.lt(x:qO P w H h a o):a<h.objs.size:=by
 cases o with
 |lst xs=>obtain⟨_,_,_,_,e⟩:=x;exact gx e
 |tup xs=>obtain⟨_,_,_,p⟩:=x;exact p.lt
 |dK kvs=>obtain⟨_,_,_,_,o,_,_,e,_⟩:=x;exact gx e
 |dT kvs=>obtain⟨_,_,_,_,o,_,_,e,_⟩:=x;exact gx e
 |set S n=>obtain⟨o,_,_,_,e,_⟩:=x;exact gx e
 |ins C dx fs=>obtain⟨_,_,_,e,_⟩:=x;exact gx e
 |own y=>obtain⟨_,e⟩:=x;exact gx e
 |xd fs=>obtain⟨_,⟨_,_,_,e,_⟩,_⟩:=x;exact gx e
 |rng lo hi=>obtain⟨_,_,_,e⟩:=x;exact gx e
 |frz ob u=>obtain⟨e,_⟩:=x;exact gx e
 |tbl ps=>exact gx (show h.get? a=some _ from x)
 |met f y=>exact gx (show h.get? a=some _ from x)
 |ext φ=>obtain⟨_,⟨_,e⟩,_⟩:=x;exact gx e
theorem Paired.mapP{α β : Type}{F G : α->β->Prop}: ∀{l₁ : List α}{l₂ : List β},Paired F l₁ l₂->(∀a b,F a b->G a b)->Paired G l₁ l₂
 |_,_,.nil,_=>.nil
 |_,_,.cons r t,f=>.cons (f _ _ r) (Paired.mapP t f)
theorem qO.stay(x:qO P w H h a o)(k:∀b u,(b=a\/H b=some (.own a))->h.get? b=some u->h'.get? b=some u)
  (ho:∀b,H b=some (.own a)->H' b=some (.own a))(ht:∀b xs,H b=some (.tup xs)->H' b=some (.tup xs)):qO P w H' h' a o:=by
 induction o with
 |lst xs=>obtain⟨z,its,n,r,e⟩:=x;exact⟨z,its,n,r,k _ _ (.inl rfl) e⟩
 |tup xs=>obtain⟨z,its,r,ob,e,c⟩:=x;exact⟨z,its,r,ob,k _ _ (.inl rfl) e,c⟩
 |dK kvs=>obtain⟨z,y,vs,r,ob,es,ep,e,c⟩:=x;exact⟨z,y,vs,r,ob,es,ep,k _ _ (.inl rfl) e,c⟩
 |dT kvs =>
  obtain⟨z,y,xs,r,ob,es,ep,e,c⟩:=x;exact⟨z,y,xs,Paired.mapP r fun p q z=>⟨z.1,ht _ _ z.2.1,z.2.2⟩,ob,es,ep,k _ _ (.inl rfl) e,c⟩
 |set S n=>obtain⟨ob,es,ep,t,e,c⟩:=x;exact⟨ob,es,ep,t,k _ _ (.inl rfl) e,c⟩
 |ins C dx fs =>
  obtain⟨d,z,ne,e,mA,⟨od,es,ep,e2,c⟩,r⟩:=x;exact⟨ho _ d,z,ne,k _ _ (.inl rfl) e,mA,⟨od,es,ep,k _ _ (.inr d) e2,c⟩,r⟩
 |own y=>obtain⟨ob,e⟩:=x;exact⟨ob,k _ _ (.inl rfl) e⟩
 |xd fs=>obtain⟨mA,⟨od,es,ep,e,c⟩,r⟩:=x;exact⟨mA,⟨od,es,ep,k _ _ (.inl rfl) e,c⟩,r⟩
 |rng lo hi=>obtain⟨t,u,v,e⟩:=x;exact⟨t,u,v,k _ _ (.inl rfl) e⟩
 |frz ob u ih=>obtain⟨e,q⟩:=x;exact⟨k _ _ (.inl rfl) e,ih q⟩
 |tbl ps =>
  have e:h.get? a=some { cls:=.none,data:=.fields ps }:=x;show h'.get? a=some { cls:=.none,data:=.fields ps };exact k a _ (.inl rfl) e
 |met f y =>
  have e:h.get? a=some (PySem.W.methodObj (.ref f) (.ref y)):=x;show h'.get? a=some (PySem.W.methodObj (.ref f) (.ref y));exact k a _ (.inl rfl) e
 |ext φ=>obtain⟨p,⟨o,e⟩,st⟩:=x;exact⟨st _ _ p fun o q=>k _ _ (.inl rfl) q,⟨o,k _ _ (.inl rfl) e⟩,st⟩
theorem HOk.lt(x:HOk P w H h)(e:H a=some o):a<h.objs.size:=(x a o e).lt
theorem HOk.fresh(x:HOk P w H h)(e:h.objs.size<=a):H a=none:=by
 cases q:H a with
 |none=>rfl
 |some u=>exact absurd (Γ (x.lt q) e) (qb _)
theorem HOk.kept(x:HOk P w H h)(k:∀b u,h.get? b=some u->h'.get? b=some u):HOk P w H h':=fun a o e =>
 (x a o e).stay (fun b u _ q=>k b u q) (fun _ q=>q) fun _ _ q=>q
theorem HOk.laid(x:HOk P w H h)(k:∀b u,h.get? b=some u->h'.get? b=some u)(hp:h.objs.size<=a)(new:qO P w (upd H a o) h' a o):HOk P w (upd H a o) h':=fun b u e=>by
 have hn:=x.fresh hp
 by_cases hb:b=a
 ·subst hb;rw[jR]at e;cases e;exact new
 ·rw[jS hb]at e;exact(x b u e).stay (fun c v _ q=>k c v q) (fun c q=>by rw[jS (jM q hn)];exact q) fun c xs q=>by rw[jS (jM q hn)];exact q
end
def Rd (H:Hp) (a:Addr) (u:HO):Prop:=H a=some u\/∃o,H a=some (.frz o u)
theorem Rd.of{H:Hp}(h:H a=some u):Rd H a u:=.inl h
theorem Rd.ok(r:Rd H a u)(x:HOk P w H h):qO P w H h a u:=by
 rcases r with r|⟨o,r⟩
 ·exact x a u r
 ·obtain⟨_,q⟩:=x a _ r;exact q
def Mut:Option HO->Prop
 |some (.lst _)=>True
 |some (.dK _)=>True
 |some (.dT _)=>True
 |some (.set _ _)=>True
 |some (.ins _ _ _)=>True
 |some (.ext _)=>True
 |_=>False
section
variable {P:io}{w:jl}{H:Hp}{h h':kq}{x e:Addr}{o':HO}
theorem HOk.write(ok:HOk P w H h)(mu:Mut (H x))(he:e=x\/H e=some (.own x))(k:∀b u,b≠e->h.get? b=some u->h'.get? b=some u)(heo:∃u,h'.get? e=some u)
  (new:qO P w (upd H x o') h' x o'):HOk P w (upd H x o') h':=fun b u q=>by
 have nown:∀c y,H c=some (.own y)->c≠x:=fun c y r z=>by subst z;rw[r]at mu;exact mu
 have ntup:∀c xs,H c=some (.tup xs)->c≠x:=fun c xs r z=>by subst z;rw[r]at mu;exact mu
 by_cases hb:b=x
 ·subst hb;rw[jR]at q;cases q;exact new
 ·rw[jS hb]at q
  by_cases hbe:b=e
  ·have q':H b=some (.own x):=by
    rcases he with z|z
    ·exact absurd (hbe.trans z) hb
    ·rw[hbe];exact z
   rw[q]at q';cases q';obtain⟨v,hv⟩:=heo;exact⟨v,by rw[hbe];exact hv⟩
  ·refine(ok b u q).stay (fun c v hc r=>k c v ?_ r) (fun c r=>by rw[jS (nown c b r)];exact r) fun c xs r=>by rw[jS (ntup c xs r)];exact r
   rcases hc with rfl|hc
   ·exact hbe
   ·rintro rfl;rcases he with z|z
    ·exact nown c b hc z
    ·rw[hc]at z;cases z;exact hb rfl
end
structure Un (fs ex:List Addr) (H H':Hp) (h h':kq):Prop where
 keep:∀b o,h.get? b=some o->H b=none->b∉fs->b∉ex->h'.get? b=some o
 slot:∀b o,h.get? b=some o->H b=none->b∈fs->b∉ex->∃sl,h'.get? b=some { o with slots:=sl }
 free:∀b o,h.get? b=some o->H b=none->b∉ex->H' b=none
 there:∀b o,h.get? b=some o->b∉ex->∃o',h'.get? b=some o'
 tups:∀b xs,H b=some (.tup xs)->H' b=some (.tup xs)
 frzs:∀b o u,H b=some (.frz o u)->H' b=some (.frz o u)
 tbls:∀b ps,H b=some (.tbl ps)->∃more,H' b=some (.tbl (ps++more))
section
variable {fs fs' ex ex':List Addr}{H H1 H2:Hp}{h h1 h2 h':kq}{a x e:Addr}{o:HO}
theorem Un.any(u:Un fs ex H H1 h h1){b:Addr}{ob:Obj}(q:h.get? b=some ob)(n:H b=none)(hx:b∉ex):∃sl,h1.get? b=some { ob with slots:=sl }:=by
 by_cases hb:b∈fs
 ·exact u.slot b ob q n hb hx
 ·exact⟨ob.slots,u.keep b ob q n hb hx⟩
theorem Un.trans(a:Un fs ex H H1 h h1)(b:Un fs ex H1 H2 h1 h2):Un fs ex H H2 h h2 where
 keep:=fun c ob q n hc hx=>b.keep c ob (a.keep c ob q n hc hx) (a.free c ob q n hx) hc hx
 slot:=fun c ob q n hc hx=>by
  obtain⟨sl,e1⟩:=a.slot c ob q n hc hx;obtain⟨sl',e2⟩:=b.slot c _ e1 (a.free c ob q n hx) hc hx;exact⟨sl',e2⟩
 free:=fun c ob q n hx=>by
  obtain⟨o',e1⟩:=a.there c ob q hx;exact b.free c o' e1 (a.free c ob q n hx) hx
 there:=fun c ob q hx=>by
  obtain⟨o',e1⟩:=a.there c ob q hx;exact b.there c o' e1 hx
 tups:=fun c xs q=>b.tups c xs (a.tups c xs q)
 frzs:=fun c ob xs q=>b.frzs c ob xs (a.frzs c ob xs q)
 tbls:=fun c ps q=>by
  obtain⟨m1,e1⟩:=a.tbls c ps q;obtain⟨m2,e2⟩:=b.tbls c _ e1;exact⟨m1++m2,by rw[e2,Array.append_assoc]⟩
theorem Un.kept(k:∀b u,h.get? b=some u->h'.get? b=some u):Un fs ex H H h h' :=
 ⟨fun b ob q _ _ _=>k b ob q,fun b ob q _ _ _=>⟨ob.slots,k b ob q⟩,fun _ _ _ n _=>n,fun b ob q _=>⟨ob,k b ob q⟩,fun _ _ q=>q,fun _ _ _ q=>q,fun _ ps q=>⟨#[],by rw[q];simp⟩⟩
theorem Un.refl:Un fs ex H H h h:=Un.kept fun _ _ q=>q
theorem Un.laid(k:∀b u,h.get? b=some u->h'.get? b=some u)(hp:h.objs.size<=a)(hn:H a=none):Un fs ex H (upd H a o) h h' where
 keep:=fun b u q _ _ _=>k b u q
 slot:=fun b u q _ _ _=>⟨u.slots,k b u q⟩
 free:=fun b u q n _=>by rw[jS (ii (Γ (gx q) hp))];exact n
 there:=fun b u q _=>⟨u,k b u q⟩
 tups:=fun b xs q=>by rw[jS (jM q hn)];exact q
 frzs:=fun b u xs q=>by rw[jS (jM q hn)];exact q
 tbls:=fun b ps q=>⟨#[],by rw[jS (jM q hn),q];simp⟩
theorem Un.write(mu:Mut (H x))(he:e=x\/H e=some (.own x))(k:∀b u,b≠e->h.get? b=some u->h'.get? b=some u)(heo:∃u,h'.get? e=some u):Un fs ex H (upd H x o) h h':=by
 have hx:∀b,H b=none->b≠x:=fun b n z=>by subst z;rw[n]at mu;exact mu
 have hb:∀b,H b=none->b≠e:=fun b n z=>by
  subst z;rcases he with r|r
  ·exact hx b n r
  ·rw[n]at r;cases r
 have hm:∀b u,H b=some u->¬ Mut (some u)->b≠x:=fun b u q nm z=>by subst z;rw[q]at mu;exact nm mu
 refine⟨fun b u q n _ _=>k b u (hb b n) q,fun b u q n _ _=>⟨u.slots,k b u (hb b n) q⟩,fun b u q n _=>by rw[jS (hx b n)];exact n,fun b u q _=>?_,
  fun b xs q=>by rw[jS (hm b _ q fun z=>z)];exact q,fun b u xs q=>by rw[jS (hm b _ q fun z=>z)];exact q,fun b ps q=>⟨#[],by rw[jS (hm b _ q fun z=>z),q];simp⟩⟩
 by_cases hbe:b=e
 ·subst hbe;exact heo
 ·exact⟨u,k b u hbe q⟩
theorem Un.mono(u:Un fs ex H H1 h h1)(hs:∀b∈fs,b∈fs')(hx:∀b∈ex,b∈ex'):Un fs' ex' H H1 h h1 :=
 ⟨fun b ob q n hb he=>u.keep b ob q n (fun z=>hb (hs b z)) fun z=>he (hx b z),fun _ _ q n _ he=>u.any q n fun z=>he (hx _ z),fun b ob q n he=>u.free b ob q n fun z=>he (hx b z),fun b ob q he=>u.there b ob q fun z=>he (hx b z),u.tups,u.frzs,u.tbls⟩
end
def trk (h:kq) (H:Hp):List Addr:=(ir h.objs.size).filter fun a=>(H a).isSome
def uO (h:kq) (H:Hp):kq:=PySem.W.hideAll h (trk h H)
theorem aGk(h:kq)(H:Hp):(uO h H).objs.size=h.objs.size:=PySem.W.hideAll_size _ _
theorem aLm{h:kq}{H:Hp}{b:Addr}(e:h.get? b=some o)(n:H b=none):(uO h H).get? b=some o :=
 PySem.W.hideAll_get _ e fun hm=>by
  have q:(H b).isSome=true:=(List.mem_filter.mp hm).2;rw[n]at q;simp at q
theorem aNd{H:Hp}{b:Addr}(e:(uO h H).get? b=some o):h.get? b=some o/\H b=none:=by
 have e':h.get? b=some o:=PySem.W.of_hideAll (trk h H) e;refine⟨e',?_⟩;cases q:H b with
 |none=>rfl
 |some x =>
  have hm:b∈trk h H:=List.mem_filter.mpr ⟨vb.mpr (gx e'),by simp[q]⟩;have z:(uO h H).get? b=none:=PySem.W.hideAll_none (trk h H) hm;rw[z]at e;cases e
def aMt (g h:kq) (L:Addr):List (Addr×Obj):=(ir h.objs.size).filterMap fun a=>if a=L\/(g.get? a).isSome=true then none else (h.get? a).map fun o=>(a,o)
def rest (g h:kq) (L d:Addr):List (Addr×Obj):=(aMt g h L).filter fun p=>decide (p.1≠d)
structure Mod (K:Δ) (mg:Str->Option Value) (base:kq):Prop where
 kin:K.In base
 glob:base.Ns gv mg
 blt:∃mb,base.Ns builtinsNs mb/\∀x:Str,x ≠ "__name__"->mb x=lr x
 nolimit:base.NoLimit
structure Cx where
 prog:io
 w:jl
 K:Δ
 mg:Str->Option Value
 base:kq
 A:km
 N:List Str
 s₀ : ς
 H₀ : Hp
 env:Env
 outer:List Env
 stack:List Env
 ex:List Addr
 fn:Str->Bool
 calm:Bool
 pn:List (Addr×Obj)
 xe:Value->ς->Prop
def frs (l:List Env):List Addr:=l.filterMap (·.frame)
abbrev Cx.fs (X:Cx):List Addr:=frs X.outer
def Vis (sc:Scope) (x:Str):Prop:=sc.names.lookup x=some .local\/sc.names.lookup x=some .cell\/sc.names.lookup x=some .free
def Loc (sc:Scope) (x:Str):Prop:=sc.names.lookup x=some .local\/sc.names.lookup x=some .cell
def Look (env:Env) (h:kq) (m:Str->Option Value) (x:Str) (u:Value):Prop :=
 (env.kindOf x=some .local/\m x=some u)\/((env.kindOf x=some .cell\/env.kindOf x=some .free)/\∃c,env.cells.lookup x=some c/\h.IsCell c (some u))
structure Cx.Ok (X:Cx):Prop where
 mod:Mod X.K X.mg X.base
 kind:X.env.scope.kind=.function
 glob:X.env.globals=gv
 blt:X.env.builtins=builtinsNs
 above:X.s₀.heap.objs.size<=X.env.locals
 inj:∀x y c,X.env.cells.lookup x=some c->X.env.cells.lookup y=some c->x=y
 has:∀x,(X.env.kindOf x=some .cell\/X.env.kindOf x=some .free)->∃c,X.env.cells.lookup x=some c
 cab:∀x c,X.fn x=true->X.env.cells.lookup x=some c->X.s₀.heap.objs.size<=c
 hd:X.calm=true->X.A.handled=none
 frames:X.A.frames=some X.stack
 stk:X.stack=X.outer\/(X.stack=X.env::X.outer/\X.env.frame=some X.env.locals)
 exf:∀b∈X.ex,b≠X.env.locals/\∀x c,X.env.cells.lookup x=some c->c≠b
 bs:∀b o,X.base.get? b=some o->X.s₀.heap.get? b=some o/\X.H₀ b=none
 bsz:X.base.objs.size<=X.s₀.heap.objs.size
 noex:∀b o,X.base.get? b=some o->b∉X.ex
 exfs:∀b∈X.ex,b∉X.fs
 funs:X.s₀.heap.FunFrames X.base X.outer
 frf:∀b∈X.fs,X.H₀ b=none
structure Inv (X:Cx) (pins:List (Addr×Obj)) (σ:List (Option V)) (H:Hp) (s:ς):Prop where
 ok:X.Ok
 os:s.os=X.s₀.os
 bare:AllBare s.gens
 base:Un X.fs X.ex X.H₀ H X.s₀.heap s.heap
 loc:∃m,s.heap.Ns X.env.locals m/\∀(i:Nat) (x:Str) (v:V),X.N[i]?=some x->σ[i]?=some (some v)->Vis X.env.scope x->∃u,RelV v u/\Look X.env s.heap m x u
 cell:∀x c,X.env.cells.lookup x=some c->∃v,s.heap.IsCell c v
 free:H X.env.locals=none
 freeC:∀x c,X.env.cells.lookup x=some c->H c=none
 pin:∀p∈X.pn++pins,s.heap.get? p.1=some p.2/\H p.1=none/\p.1≠X.env.locals/\p.1∉X.fs/\∀v,p.2.data≠.cell v
 hok:HOk X.prog X.w H s.heap
 len : σ.length=X.N.length
section
variable {X:Cx}{pins:List (Addr×Obj)}{σ:List (Option V)}{H H':Hp}{s:ς}{h':kq}
theorem Cx.Ok.nofr(ok:X.Ok){b:Addr}(e:X.base.get? b=some o):b∉X.fs:=fun hb=>by
 have:=(ok.funs.mem hb).1;rw[e]at this;cases this
theorem Inv.bs(I:Inv X pins σ H s):∀b o,X.base.get? b=some o->s.heap.get? b=some o/\H b=none:=fun b o e =>
 ⟨I.base.keep b o (I.ok.bs b o e).1 (I.ok.bs b o e).2 (I.ok.nofr e) (I.ok.noex b o e),I.base.free b o (I.ok.bs b o e).1 (I.ok.bs b o e).2 (I.ok.noex b o e)⟩
theorem Inv.bk(I:Inv X pins σ H s):∀b o,X.base.get? b=some o->s.heap.get? b=some o:=fun b o e=>(I.bs b o e).1
theorem Inv.mod(I:Inv X pins σ H s):Mod X.K X.mg X.base:=I.ok.mod
theorem Inv.kIn(I:Inv X pins σ H s):X.K.In s.heap:=I.ok.mod.kin.keeps I.bk
theorem Inv.nolimit(I:Inv X pins σ H s):s.heap.NoLimit:=I.ok.mod.nolimit.keeps I.bk
theorem Inv.fr(I:Inv X pins σ H s):∃m,Fr X.base X.env.locals s.heap m :=
 let ⟨m,hn,_⟩:=I.loc
 ⟨m,hn,I.bk,Ψ I.ok.bsz I.ok.above⟩
theorem Inv.lt(I:Inv X pins σ H s):X.env.locals<s.heap.objs.size:=let ⟨_,hn,_⟩:=I.loc;hn.lt
theorem Inv.sz(I:Inv X pins σ H s):X.s₀.heap.objs.size<=s.heap.objs.size:=Ψ I.ok.above (jw I.lt)
theorem Inv.nofs(I:Inv X pins σ H s){a:Addr}(h:s.heap.objs.size<=a):a∉X.fs:=fun hb=>by
 obtain⟨_,o,ho,_⟩:=I.ok.funs.mem hb;exact absurd (Γ (gx ho) (Ψ I.sz h)) (qb _)
theorem Inv.cne(I:Inv X pins σ H s):∀x c,X.env.cells.lookup x=some c->c≠X.env.locals:=fun x c e z=>by
 obtain⟨v,o,ho,hd⟩:=I.cell x c e;obtain⟨m,⟨o',es,ep,ho',hd',_⟩,_⟩:=I.loc;rw[z,ho']at ho;cases ho;rw[hd']at hd;cases hd
theorem Inv.funs(I:Inv X pins σ H s):s.heap.FunFrames X.base X.outer:=by
 have all:∀(l:List Env),(∀b∈frs l,b∈X.fs)->X.s₀.heap.FunFrames X.base l->s.heap.FunFrames X.base l:=by
  intro l
  induction l with
  |nil=>intro _ _;trivial
  |cons env r ih =>
   intro hs hl;obtain⟨hk,⟨L,o,hf,hn,ho,hd⟩,hr⟩:=hl;have hL:L∈X.fs:=hs L (by unfold frs;rw[List.filterMap_cons,hf];exact ψ);obtain⟨sl,e⟩:=I.base.slot L o ho (I.ok.frf L hL) hL fun z=>I.ok.exfs L z hL;exact⟨hk,⟨L,_,hf,hn,e,hd⟩,ih (fun b hb=>hs b (by unfold frs;rw[List.filterMap_cons,hf];exact ρ _ hb)) hr⟩
 exact all X.outer (fun _ hb=>hb) I.ok.funs
theorem Inv.stack(I:Inv X pins σ H s):s.heap.FunFrames X.base X.stack:=by
 rcases I.ok.stk with e|⟨e,hf⟩
 ·rw[e];exact I.funs
 ·rw[e];obtain⟨m,hn,_⟩:=I.loc;refine .cons (by rw[I.ok.kind];decide) hf hn ?_ I.funs;exact kq.get?_none_of_le (Ψ I.ok.bsz I.ok.above)
theorem Inv.stkSub(I:Inv X pins σ H s):∀b∈frs X.stack,b∈X.env.locals::X.fs:=fun b hb=>by
 rcases I.ok.stk with e|⟨e,hf⟩
 ·rw[e]at hb;exact ρ _ hb
 ·rw[e]at hb;unfold frs at hb;rw[List.filterMap_cons,hf]at hb;exact hb
theorem Inv.stkFree(I:Inv X pins σ H s):∀b∈frs X.stack,H b=none:=fun b hb=>by
 rcases υ.mp (I.stkSub b hb) with e|hb
 ·rw[e];exact I.free
 ·obtain⟨_,o,ho,_⟩:=I.ok.funs.mem hb;exact I.base.free b o ho (I.ok.frf b hb) fun z=>I.ok.exfs b z hb
theorem Inv.step{t':Nat}{d':Drawn}{ch:List Addr}(I:Inv X pins σ H s)
  (hch:∀b∈ch,(b∈X.ex\/X.s₀.heap.objs.size<=b)/\b≠X.env.locals/\(∀x c,X.env.cells.lookup x=some c->c≠b)/\∀p∈X.pn++pins,p.1≠b)
  (keep:∀b o,b≠X.env.locals->b∉X.fs->b∉ch->s.heap.get? b=some o->H b=none->h'.get? b=some o)
  (slot:∀b o,b≠X.env.locals->b∈X.fs->b∉ch->s.heap.get? b=some o->H b=none->∃sl,h'.get? b=some { o with slots:=sl })(free:∀b o,b∉ch->s.heap.get? b=some o->H b=none->H' b=none)
  (there:∀b o,b∉ch->s.heap.get? b=some o->∃o',h'.get? b=some o')
  (tups:∀b xs,H b=some (.tup xs)->H' b=some (.tup xs))(frzs:∀b o u,H b=some (.frz o u)->H' b=some (.frz o u))(tbls:∀b ps,H b=some (.tbl ps)->∃more,H' b=some (.tbl (ps++more)))
  (ns:∀m,s.heap.Ns X.env.locals m->h'.Ns X.env.locals m)(hok:HOk X.prog X.w H' h')(hg:AllBare g'):
  Inv X pins σ H' { s with heap:=h',gens:=g',drawn:=d',toks:=t' }:=by
 have neL:∀b o,X.s₀.heap.get? b=some o->b≠X.env.locals:=fun b o e=>ii (Γ (gx e) I.ok.above);have neC:∀b o,X.s₀.heap.get? b=some o->b∉X.ex->b∉ch:=fun b o e hx hb=>by
  rcases (hch b hb).1 with z|z
  ·exact hx z
  ·exact absurd (Γ (gx e) z) (qb _)
 have cellK:∀x c,X.env.cells.lookup x=some c->∀v,s.heap.IsCell c v->h'.IsCell c v:=fun x c e v ⟨o,ho,hd⟩=>by
  have nch:c∉ch:=fun z=>(hch c z).2.2.1 x c e rfl
  by_cases hc:c∈X.fs
  ·obtain⟨sl,q⟩:=slot c o (I.cne x c e) hc nch ho (I.freeC x c e);exact⟨_,q,hd⟩
  ·exact⟨o,keep c o (I.cne x c e) hc nch ho (I.freeC x c e),hd⟩
 refine⟨I.ok,I.os,hg,⟨fun b o e n hb hx=>?_,fun b o e n hb hx=>?_,fun b o e n hx=>?_,fun b o e hx=>?_,fun b xs e=>tups b xs (I.base.tups b xs e),fun b o xs e=>frzs b o xs (I.base.frzs b o xs e),fun b ps e=>?_⟩,?_,fun x c e=>?_,?_,fun x c e=>?_,fun p hp=>?_,hok,I.len⟩
 ·exact keep b o (neL b o e) hb (neC b o e hx) (I.base.keep b o e n hb hx) (I.base.free b o e n hx)
 ·obtain⟨sl,e1⟩:=I.base.slot b o e n hb hx;obtain⟨sl',e2⟩:=slot b _ (neL b o e) hb (neC b o e hx) e1 (I.base.free b o e n hx);exact⟨sl',e2⟩
 ·obtain⟨o',e1⟩:=I.base.there b o e hx;exact free b o' (neC b o e hx) e1 (I.base.free b o e n hx)
 ·obtain⟨o',e1⟩:=I.base.there b o e hx;exact there b o' (neC b o e hx) e1
 ·obtain⟨m1,e1⟩:=I.base.tbls b ps e;obtain⟨m2,e2⟩:=tbls b _ e1;exact⟨m1++m2,by rw[e2,Array.append_assoc]⟩
 ·obtain⟨m,hn,hl⟩:=I.loc;refine⟨m,ns m hn,fun i x v e1 e2 e3=>?_⟩;obtain⟨u,r,l⟩:=hl i x v e1 e2 e3;refine⟨u,r,?_⟩;rcases l with l|⟨k,c,e,z⟩
  ·exact .inl l
  ·exact .inr ⟨k,c,e,cellK x c e _ z⟩
 ·obtain⟨v,z⟩:=I.cell x c e;exact⟨v,cellK x c e v z⟩
 ·obtain⟨m,⟨o,_,_,ho,_⟩,_⟩:=I.loc;exact free _ o (fun z=>(hch _ z).2.1 rfl) ho I.free
 ·obtain⟨v,o,ho,hd⟩:=I.cell x c e;exact free c o (fun z=>(hch c z).2.2.1 x c e rfl) ho (I.freeC x c e)
 ·obtain⟨e,n,ne,nf,d⟩:=I.pin p hp;have nch:p.1∉ch:=fun z=>(hch p.1 z).2.2.2 p hp rfl;exact⟨keep p.1 p.2 ne nf nch e n,free p.1 p.2 nch e n,ne,nf,d⟩
theorem Inv.un{t':Nat}(I:Inv X pins σ H s)(u:Un X.fs [] H H' s.heap h')(hok:HOk X.prog X.w H' h'):Inv X pins σ H' { s with heap:=h',toks:=t' }:=by
 obtain⟨m,⟨o,es,ep,ho,r⟩,_⟩:=id I.loc;obtain⟨sl,hL⟩:=u.any ho I.free (by simp);exact I.step (g':=s.gens) (d':=s.drawn) (ch:=[]) (fun _ z=>nomatch z) (fun b o _ hb _ e n=>u.keep b o e n hb (by simp)) (fun b o _ hb _ e n=>u.slot b o e n hb (by simp)) (fun b o _ e n=>u.free b o e n (by simp)) (fun b o _ e=>u.there b o e (by simp)) u.tups u.frzs u.tbls (fun m' hm=>by
  obtain⟨o',es',ep',ho',r'⟩:=hm;rw[ho]at ho';cases ho';exact⟨_,es',ep',hL,r'⟩) hok I.bare
theorem Inv.call{t':Nat}{d':Drawn}(I:Inv X pins σ H s)(u:Un (frs X.stack) ch H H' s.heap h')(hok:HOk X.prog X.w H' h')(hg:AllBare g')
  (hch:∀b∈ch,(b∈X.ex\/X.s₀.heap.objs.size<=b)/\b≠X.env.locals/\(∀x c,X.env.cells.lookup x=some c->c≠b)/\∀p∈X.pn++pins,p.1≠b):
  Inv X pins σ H' { s with heap:=h',gens:=g',drawn:=d',toks:=t' }:=by
 obtain⟨m,⟨o,es,ep,ho,r⟩,_⟩:=id I.loc;obtain⟨sl,hL⟩:=u.any ho I.free fun z=>(hch _ z).2.1 rfl;exact I.step (ch:=ch) hch (fun b o hL hb hc e n=>u.keep b o e n (fun z=>(υ.mp (I.stkSub b z)).elim hL hb) hc) (fun b o _ _ hc e n=>u.any e n hc) (fun b o hc e n=>u.free b o e n hc) (fun b o hc e=>u.there b o e hc) u.tups u.frzs u.tbls (fun m' hm=>by
  obtain⟨o',es',ep',ho',r'⟩:=hm;rw[ho]at ho';cases ho';exact⟨_,es',ep',hL,r'⟩) hok hg
theorem Inv.turned{t':Nat}{it:Addr}(I:Inv X pins σ H s)(k:∀b o,b≠it->s.heap.get? b=some o->h'.get? b=some o)(hn:H it=none)(hL:it≠X.env.locals)
  (h1:it∈X.ex\/X.s₀.heap.objs.size<=it)(h2:∀x c,X.env.cells.lookup x=some c->c≠it)(h3:∀p∈X.pn++pins,p.1≠it):Inv X pins σ H { s with heap:=h',toks:=t' }:=by
 have nit:∀b u,H b=some u->b≠it:=fun b u e z=>by rw[z,hn]at e;cases e
 refine I.step (g':=s.gens) (d':=s.drawn) (ch:=[it]) (fun b hb=>?_) (fun b o _ _ hc e _=>k b o (fun z=>hc (by simp[z])) e) (fun b o _ _ hc e _=>⟨o.slots,k b o (fun z=>hc (by simp[z])) e⟩) (fun _ _ _ _ n=>n)
  (fun b o hc e=>⟨o,k b o (fun z=>hc (by simp[z])) e⟩) (fun _ _ e=>e) (fun _ _ _ e=>e) (fun b ps e=>⟨#[],by rw[e];simp⟩) (fun m hm=>?_) (fun b u e=>?_) I.bare
 ·have e:b=it:=by simpa using hb
  subst e;exact⟨h1,hL,h2,h3⟩
 ·obtain⟨o,es,ep,ho,r⟩:=hm;exact⟨o,es,ep,k _ o (kh hL) ho,r⟩
 ·refine(I.hok b u e).stay (fun c v hc q=>k c v ?_ q) (fun _ q=>q) fun _ _ q=>q;rcases hc with z|z
  ·rw[z];exact nit b u e
  ·exact nit c _ z
theorem Inv.tok(I:Inv X pins σ H s)(t:Nat):Inv X pins σ H { s with toks:=t }:=I.un (h':=s.heap) (t':=t) Un.refl I.hok
theorem Inv.kept{t':Nat}(I:Inv X pins σ H s)(k:∀b u,s.heap.get? b=some u->h'.get? b=some u):Inv X pins σ H { s with heap:=h',toks:=t' }:=I.un (Un.kept k) (I.hok.kept k)
theorem Inv.laid{a:Addr}{t':Nat}(I:Inv X pins σ H s)(k:∀b u,s.heap.get? b=some u->h'.get? b=some u)(hp:s.heap.objs.size<=a)(new:qO X.prog X.w (upd H a o) h' a o):
  Inv X pins σ (upd H a o) { s with heap:=h',toks:=t' }:=I.un (Un.laid k hp (I.hok.fresh hp)) (I.hok.laid k hp new)
theorem Inv.write{e:Addr}{t':Nat}(I:Inv X pins σ H s)(mu:Mut (H x))(he:e=x\/H e=some (.own x))(k:∀b u,b≠e->s.heap.get? b=some u->h'.get? b=some u)(heo:∃u,h'.get? e=some u)
  (new:qO X.prog X.w (upd H x o) h' x o):Inv X pins σ (upd H x o) { s with heap:=h',toks:=t' }:=I.un (Un.write mu he k heo) (I.hok.write mu he k heo new)
theorem Inv.pins_of{pins':List (Addr×Obj)}(I:Inv X pins σ H s)(h:∀p∈pins',s.heap.get? p.1=some p.2/\H p.1=none/\p.1≠X.env.locals/\p.1∉X.fs/\∀v,p.2.data≠.cell v):Inv X pins' σ H s :=
 ⟨I.ok,I.os,I.bare,I.base,I.loc,I.cell,I.free,I.freeC,fun p hp=>(iz.mp hp).elim (fun z=>I.pin p (ke _ z)) (h p),I.hok,I.len⟩
theorem aAy{N:List Str}(hN:N.Nodup){i j:Nat}(a:N[i]?=some x)(b:N[j]?=some x):i=j:=by
 obtain⟨h1,e1⟩:=θ.mp a;obtain⟨h2,e2⟩:=θ.mp b;exact(List.getElem_inj hN).mp (e1.trans e2.symm)
theorem aHn{i:Nat}{Q:Unit->ς->Prop}(I:Inv X pins σ H s)(hN:X.N.Nodup)(hi:X.N[i]?=some x)(hx:Loc X.env.scope x)(r:RelV v u)
  (h:∀s',Inv X pins (σ.set i (some v)) H s'->(∃a,qc a s.heap s'.heap/\(a=X.env.locals\/X.env.cells.lookup x=some a))->Q () s')(hf:X.fn x=true\/X.env.scope.names.lookup x=some .local:=by first|exact .inl rfl|exact .inr rfl|assumption):gp M A (storeName X.env x u) Q E s:=by
 obtain⟨m,hn,hl⟩:=id I.loc;have hcls:(X.env.scope.kind == .class||(X.env.scope.kind == .module&&X.env.locals != X.env.globals))=false:=by rw[I.ok.kind];rfl
 have hiσ:i<σ.length:=by rw[I.len];exact(θ.mp hi).1
 have cne:=I.cne;have tracked:∀{a:Addr}{h':kq},(∃o,s.heap.get? a=some o/\H a=none)->qc a s.heap h'->HOk X.prog X.w H h':=fun {a h'} ha hs b ob e=>by
  obtain⟨_,_,hfree⟩:=ha;refine(I.hok b ob e).stay (fun c w' hc q=>(hs.2 c ?_).trans q) (fun _ q=>q) fun _ _ q=>q;rintro rfl;rcases hc with rfl|hc
  ·rw[hfree]at e;cases e
  ·rw[hfree]at hc;cases hc
 rcases hx with hk|hk
 ·refine wpAny_storeName_local hk hn (fun h' hn' hs=>?_) hcls;obtain⟨oL,_,_,hoL,_⟩:=id hn;refine h _ ⟨I.ok,I.os,I.bare,⟨fun b o e n hb hx=>?_,fun b o e n hb hx=>?_,I.base.free,fun b o e hx=>?_,I.base.tups,I.base.frzs,I.base.tbls⟩,⟨_,hn',fun j y v' e1 e2 e3=>?_⟩,fun y c e=>?_,I.free,I.freeC,fun p hp=>?_,tracked ⟨oL,hoL,I.free⟩ hs,by simpa using I.len⟩ ⟨_,hs,.inl rfl⟩
  ·exact(hs.2 b (ii (Γ (gx e) I.ok.above))).trans (I.base.keep b o e n hb hx)
  ·obtain⟨sl,e1⟩:=I.base.slot b o e n hb hx;exact⟨sl,(hs.2 b (ii (Γ (gx e) I.ok.above))).trans e1⟩
  ·obtain⟨o',e1⟩:=I.base.there b o e hx;exact⟨o',(hs.2 b (ii (Γ (gx e) I.ok.above))).trans e1⟩
  ·by_cases hj:j=i
   ·subst hj;rw[hi]at e1;cases e1;rw[List.getElem?_set_self hiσ]at e2;cases e2;exact⟨u,r,.inl ⟨hk,by simp⟩⟩
   ·rw[List.getElem?_set_ne (kh hj)]at e2;obtain⟨u',r',q⟩:=hl j y v' e1 e2 e3;refine⟨u',r',?_⟩;rcases q with⟨k,e⟩|⟨k,c,e,z⟩
    ·refine .inl ⟨k,?_⟩;have:y≠x:=fun e=>hj (aAy hN e1 (e ▸ hi));simp[this,e]
    ·exact .inr ⟨k,c,e,z.sameBut hs (cne y c e)⟩
  ·obtain⟨w',z⟩:=I.cell y c e;exact⟨w',z.sameBut hs (cne y c e)⟩
  ·obtain⟨e,n,ne,nf,d⟩:=I.pin p hp;exact⟨(hs.2 p.1 ne).trans e,n,ne,nf,d⟩
 ·have hfn:X.fn x=true:=by
   rcases hf with z|z
   ·exact z
   ·rw[z]at hk;cases hk
  obtain⟨c,hc⟩:=I.ok.has x (.inl hk);obtain⟨w',z⟩:=I.cell x c hc;refine wpAny_storeName_cell I.ok.kind hk hc z (fun h' hc' hs=>?_);obtain⟨oc,hoc,hocd⟩:=id z;refine h { s with heap:=h' } ⟨I.ok,I.os,I.bare,⟨fun b o e n hb hx=>?_,fun b o e n hb hx=>?_,I.base.free,fun b o e hx=>?_,I.base.tups,I.base.frzs,I.base.tbls⟩,⟨m,hn.sameBut hs (kh (cne x c hc)),fun j y v' e1 e2 e3=>?_⟩,fun y c' e=>?_,I.free,I.freeC,fun p hp=>?_,tracked ⟨oc,hoc,I.freeC x c hc⟩ hs,by simpa using I.len⟩ ⟨c,hs,.inr hc⟩
  ·exact(hs.2 b (ii (Γ (gx e) (I.ok.cab x c hfn hc)))).trans (I.base.keep b o e n hb hx)
  ·obtain⟨sl,e1⟩:=I.base.slot b o e n hb hx;exact⟨sl,(hs.2 b (ii (Γ (gx e) (I.ok.cab x c hfn hc)))).trans e1⟩
  ·obtain⟨o',e1⟩:=I.base.there b o e hx;exact⟨o',(hs.2 b (ii (Γ (gx e) (I.ok.cab x c hfn hc)))).trans e1⟩
  ·by_cases hj:j=i
   ·subst hj;rw[hi]at e1;cases e1;rw[List.getElem?_set_self hiσ]at e2;cases e2;exact⟨u,r,.inr ⟨.inl hk,c,hc,hc'⟩⟩
   ·rw[List.getElem?_set_ne (kh hj)]at e2;obtain⟨u',r',q⟩:=hl j y v' e1 e2 e3;refine⟨u',r',?_⟩;rcases q with q|⟨k,c',e,z'⟩
    ·exact .inl q
    ·refine .inr ⟨k,c',e,z'.sameBut hs ?_⟩;rintro rfl;exact hj (aAy hN e1 (I.ok.inj _ _ _ e hc ▸ hi))
  ·by_cases hcc:c'=c
   ·subst hcc;exact⟨_,hc'⟩
   ·obtain⟨w2,z2⟩:=I.cell y c' e;exact⟨w2,z2.sameBut hs hcc⟩
  ·obtain⟨e,n,ne,nf,d⟩:=I.pin p hp;refine⟨(hs.2 p.1 ?_).trans e,n,ne,nf,d⟩;intro q;rw[q,hoc]at e;have q':oc=p.2:=jg e;exact d w' (by rw[←q'];exact hocd)
theorem aCh{i:Nat}{Q:Unit->ς->Prop}(I:Inv X pins σ H s)(hN:X.N.Nodup)(hi:X.N[i]?=some x)(hx:Loc X.env.scope x)(r:RelV v u)
  (h:∀s',Inv X pins (σ.set i (some v)) H s'->Q () s')(hf:X.fn x=true\/X.env.scope.names.lookup x=some .local:=by first|exact .inl rfl|exact .inr rfl|assumption):gp M A (storeName X.env x u) Q E s :=
 aHn I hN hi hx r (fun s' I' _=>h s' I') hf
end
abbrev XK:=Value->Option Addr->Hp->Prop
abbrev St:=List (Option V)
abbrev VK:=V->Hp->Prop
abbrev TE:=St->Hp->VK->Prop
abbrev TT:=St->Hp->(Bool->Hp->Prop)->Prop
abbrev TA:=St->Hp->(List V->Hp->Prop)->Prop
structure Ends where
 nx:St->Hp->Prop
 rt:VK
 bk:St->Hp->Prop:=fun _ _=>False
 ct:St->Hp->Prop:=fun _ _=>False
abbrev TS:=Ends->St->Hp->Prop
def EP (X:Cx) (pins:List (Addr×Obj)) (σ:St) (Q:VK) (u:Value) (s':ς):Prop:=∃v H',Inv X pins σ H' s'/\RelV v u/\Q v H'
def TP (X:Cx) (pins:List (Addr×Obj)) (σ:St) (Q:Bool->Hp->Prop) (b:Bool) (s':ς):Prop:=∃H',Inv X pins σ H' s'/\Q b H'
def AP (X:Cx) (pins:List (Addr×Obj)) (σ:St) (Q:List V->Hp->Prop) (us:List Value) (s':ς):Prop:=∃vs H',Inv X pins σ H' s'/\kO vs us/\Q vs H'
theorem EP.el{Q:VK}{C:Prop}(h:EP X pins σ Q u s)(f:∀v H,Inv X pins σ H s->RelV v u->Q v H->C):C:=by
 obtain⟨v,H,a,b,c⟩:=h;exact f v H a b c
theorem AP.el{Q:List V->Hp->Prop}{C:Prop}(h:AP X pins σ Q u s)(f:∀v H,Inv X pins σ H s->kO v u->Q v H->C):C:=by
 obtain⟨v,H,a,b,c⟩:=h;exact f v H a b c
def SP (X:Cx) (pins:List (Addr×Obj)) (D:Ends) (f:Flow) (s':ς):Prop :=
 match f with
 |.next=>∃σ' H',Inv X pins σ' H' s'/\D.nx σ' H'
 |.brk=>∃σ' H',Inv X pins σ' H' s'/\D.bk σ' H'
 |.cont=>∃σ' H',Inv X pins σ' H' s'/\D.ct σ' H'
 |.ret u=>∃v σ' H',Inv X pins σ' H' s'/\RelV v u/\D.rt v H'
def PE (X:Cx) (e:Expr) (t:TE):Prop :=
 ∀(pins:List (Addr×Obj)) (s:ς) (σ:St) (H:Hp) (Q:VK),Inv X pins σ H s->t σ H Q->gp (ik X.prog X.w) X.A (eval e X.env) (EP X pins σ Q) X.xe s
def PT (X:Cx) (e:Expr) (t:TT):Prop :=
 ∀(pins:List (Addr×Obj)) (s:ς) (σ:St) (H:Hp) (Q:Bool->Hp->Prop),Inv X pins σ H s->t σ H Q->gp (ik X.prog X.w) X.A (isTrue e X.env (eval e X.env)) (TP X pins σ Q) X.xe s
def PW (X:Cx) (e:Expr) (t:TT):Prop :=
 ∀(whole:Sem Value) (pins:List (Addr×Obj)) (s:ς) (σ:St) (H:Hp) (Q:Bool->Hp->Prop),Inv X pins σ H s->t σ H Q->gp (ik X.prog X.w) X.A (isTrue e X.env whole) (TP X pins σ Q) X.xe s
theorem PW.pt(h:PW X e t):PT X e t:=h _
def PA (X:Cx) (es:List Expr) (t:TA):Prop :=
 ∀(pos:Pos) (pins:List (Addr×Obj)) (s:ς) (σ:St) (H:Hp) (Q:List V->Hp->Prop),Inv X pins σ H s->t σ H Q->gp (ik X.prog X.w) X.A (spliced (vy pos (ip es X.env))) (AP X pins σ Q) X.xe s
def PS (X:Cx) (st:Stmt) (t:TS):Prop :=
 ∀(pins:List (Addr×Obj)) (s:ς) (σ:St) (H:Hp) (D:Ends),Inv X pins σ H s->t D σ H->gp (ik X.prog X.w) X.A (exec st X.env) (SP X pins D) X.xe s
def PSs (X:Cx) (st:List Stmt) (t:TS):Prop :=
 ∀(pins:List (Addr×Obj)) (s:ς) (σ:St) (H:Hp) (D:Ends),Inv X pins σ H s->t D σ H->gp (ik X.prog X.w) X.A (execs st X.env) (SP X pins D) X.xe s
theorem thn{α : Type}{t:Sem α}{Q Q' : α->ς->Prop}{M:Model}{A:km}{E:Value->ς->Prop}{s:ς}(h:gp M A t Q E s)(hQ:∀a s,Q a s->Q' a s):gp M A t Q' E s:=md h hQ fun _ _ x=>x
section
variable {X:Cx}
inductive aKc (i:Nat) (σ:St) (H:Hp) (Q:VK):Prop|mk:∀v,σ[i]?=some (some v)->Q v H->aKc i σ H Q
def tVar (i:Nat):TE:=fun σ H Q=>aKc i σ H Q
def tC (v:V):TE:=fun _ H Q=>Q v H
theorem aPo{i:Nat}(hN:X.N[i]?=some x)(hv:Vis X.env.scope x)(hd:(x == ("__debug__" : Str))=false:=by decide)(hcd:(x == ("__classdict__" : Str))=false:=by decide):PE X (.Name x pos) (tVar i):=by
 intro pins s σ H Q I h;obtain⟨v,e,h⟩:=h;obtain⟨m,hn,hl⟩:=I.loc;obtain⟨u,r,l⟩:=hl i x v hN e hv;have fin:EP X pins σ Q u s:=⟨v,H,I,r,h⟩;rcases l with⟨hk,hm⟩|⟨hk,c,hc,hcell⟩
 ·exact wpAny_Name (wpAny_loadName_local I.ok.kind hk hn hm fin) hd
 ·rcases hk with hk|hk
  ·exact wpAny_Name (wpAny_loadName_cell I.ok.kind hk hc hcell fin) hd
  ·exact wpAny_Name (wpAny_loadName_free I.ok.kind hk hc hcell fin hcd) hd
theorem jC{i j pos}: PE X (.Constant (.int i) j pos) (tC (.int i)):=fun _ _ _ H _ I h=>wpAny_Constant_int ⟨.int i,H,I.tok _,⟨_,rfl⟩,h⟩
theorem vQ{b j pos}: PE X (.Constant (.bool b) j pos) (tC (.bl b)):=fun _ _ _ H _ I h=>Constant_bool ⟨.bl b,H,I,rfl,h⟩
theorem bX{j pos}: PE X (.Constant .none j pos) (tC .non):=fun _ _ _ H _ I h=>Constant_none ⟨.non,H,I,rfl,h⟩
theorem jO{x j pos}: PE X (.Constant (.str x) j pos) (tC (.str x)):=fun _ _ _ H _ I h=>Calls.Constant_str ⟨.str x,H,I.tok _,⟨_,rfl⟩,h⟩
def Gl (X:Cx) (x:Str):Prop:=X.env.kindOf x=some .globalImplicit
theorem sU{Q:Value->ς->Prop}(I:Inv X pins σ H s)(hg:Gl X x)(hm:X.mg x=some u)(h:Q u s)
  (hd:(x == ("__debug__" : Str))=false:=by decide):gp (ik X.prog X.w) X.A (eval (.Name x pos) X.env) Q E s :=
 Calls.Name_function_global I.ok.kind hg (Calls.loadGlobal_global (by rw[I.ok.glob];exact I.mod.glob.keeps I.bk) hm h) hd
theorem iY{Q:Value->ς->Prop}(I:Inv X pins σ H s)(hg:Gl X x)(hm:X.mg x=none)(hv:lr x=some u)(h:Q u s)
  (hn:x ≠ "__name__":=by decide)(hd:(x == ("__debug__" : Str))=false:=by decide):gp (ik X.prog X.w) X.A (eval (.Name x pos) X.env) Q E s:=by
 obtain⟨mb,h1,h2⟩:=I.mod.blt;exact Calls.Name_function_global I.ok.kind hg (Calls.loadGlobal_builtin (by rw[I.ok.glob];exact I.mod.glob.keeps I.bk) hm (by rw[I.ok.blt];exact h1.keeps I.bk) ((h2 x hn).trans hv) h) hd
theorem qW(hg:Gl X x)(hm:X.mg x=some u)(r:RelV v u)(hd:(x == ("__debug__" : Str))=false:=by decide):PE X (.Name x pos) (tC v) :=
 fun _ _ _ H _ I h=>sU I hg hm ⟨v,H,I,r,h⟩ hd
theorem qI(hg:Gl X x)(hm:X.mg x=none)(hv:lr x=some u)(r:RelV v u)(hn:x ≠ "__name__":=by decide)(hd:(x == ("__debug__" : Str))=false:=by decide):PE X (.Name x pos) (tC v) :=
 fun _ _ _ H _ I h=>iY I hg hm hv ⟨v,H,I,r,h⟩ hn hd
variable {a b:Expr}{ta tb:TE}{pos:Pos}
def PC (X:Cx) (op:CmpOp) (a b:Expr) (t:TE):Prop :=
 ∀(pins:List (Addr×Obj)) (s:ς) (σ:St) (H:Hp) (Q:VK),Inv X pins σ H s->t σ H Q →
  gp (ik X.prog X.w) X.A (eval a X.env) (fun v s₁=>gp (ik X.prog X.w) X.A (eval b X.env) (fun u s₂=>gp (ik X.prog X.w) X.A (kn op v u) (EP X pins σ Q) X.xe s₂) X.xe s₁) X.xe s
theorem aIv(b:Expr){op:CmpOp}(h:op≠.In)(h2:op≠.NotIn):uu op b=false:=by
 have e1:(op == CmpOp.In)=false:=by cases op <;> first|rfl|exact absurd rfl h
 have e2:(op == CmpOp.NotIn)=false:=by cases op <;> first|rfl|exact absurd rfl h2
 cases b <;> simp[uu,e1,e2]
def tB (t:TE):TT:=fun σ H Q=>t σ H fun x H1=>∃c,x=.bl c/\Q c H1
theorem aQd(h:PC X op a b t)(h1:uu op b=false:=by first|exact aIv _ (by decide) (by decide)|rfl):PT X (.Compare a [op] [b] pos) (tB t):=by
 intro pins s σ H Q I hw;refine wpAny_isTrue_Compare1 (thn (h pins s σ H _ I hw) fun v s1 h1=>thn h1 fun u s2 h2=>thn h2 fun c s3 zq=>?_) h1;obtain⟨x,H1,I1,r1,q1⟩:=zq;obtain⟨d,rfl,q⟩:=q1;cases r1;exact kg ⟨H1,I1,q⟩
theorem kU(h:PE X e t)(he:∀whole,isTrue e X.env whole=(do let v ←whole;standAt e.pos;holding [v] (truthy v)):=by intro _;rfl):PT X e (tB t):=by
 intro pins s σ H Q I hw;refine isTrue_plain (thn (h pins s σ H _ I hw) fun v s1 zq=>?_) (he _);obtain⟨x,H1,I1,r1,q1⟩:=zq;obtain⟨d,rfl,q⟩:=q1;cases r1;exact kg ⟨H1,I1,q⟩
variable {tA tB':TT}{rest:List Expr}
def tAnd (t u:TT):TT:=fun σ H Q=>t σ H fun c H1=>if c=true then u σ H1 Q else Q false H1
def tOr (t u:TT):TT:=fun σ H Q=>t σ H fun c H1=>if c=true then Q true H1 else u σ H1 Q
def tNot (t:TT):TT:=fun σ H Q=>t σ H fun c H1=>Q (!c) H1
theorem eC(ha:PT X a tA):PW X (.BoolOp .And [a] pos) tA:=by
 intro wh pins s σ H Q I h;refine isTrue_and (thn (ha pins s σ H Q I h) fun c s1 e=>?_);cases c with
 |true=>exact isTrue_and_nil e
 |false=>exact e
theorem xZ(ha:PT X a tA):PW X (.BoolOp .Or [a] pos) tA:=by
 intro wh pins s σ H Q I h;refine isTrue_or (thn (ha pins s σ H Q I h) fun c s1 e=>?_);cases c with
 |false=>exact isTrue_or_nil e
 |true=>exact e
theorem iS(ha:PT X a tA)(hb:PW X (.BoolOp .And (b::rest) pos) tB'):PW X (.BoolOp .And (a::b::rest) pos) (tAnd tA tB'):=by
 intro wh pins s σ H Q I h;refine isTrue_and (thn (ha pins s σ H _ I h) fun c s1 zq=>?_);obtain⟨H1,I1,q1⟩:=zq;cases c with
 |true=>exact hb wh pins s1 σ H1 Q I1 q1
 |false=>exact⟨H1,I1,q1⟩
theorem zQ(ha:PT X a tA)(hb:PW X (.BoolOp .Or (b::rest) pos) tB'):PW X (.BoolOp .Or (a::b::rest) pos) (tOr tA tB'):=by
 intro wh pins s σ H Q I h;refine isTrue_or (thn (ha pins s σ H _ I h) fun c s1 zq=>?_);obtain⟨H1,I1,q1⟩:=zq;cases c with
 |true=>exact⟨H1,I1,q1⟩
 |false=>exact hb wh pins s1 σ H1 Q I1 q1
theorem vA(ha:PT X a tA):PT X (.UnaryOp .Not a pos) (tNot tA):=by
 intro pins s σ H Q I h;exact isTrue_not (ha pins s σ H (fun c H1=>Q (!c) H1) I h)
def tAndV (ta tb:TE):TE:=fun σ H Q=>ta σ H fun x H1=>∃c,x=.bl c/\if c=true then tb σ H1 Q else Q (.bl false) H1
def tOrV (ta tb:TE):TE:=fun σ H Q=>ta σ H fun x H1=>∃c,x=.bl c/\if c=true then Q (.bl true) H1 else tb σ H1 Q
def tNotV (ta:TE):TE:=fun σ H Q=>ta σ H fun x H1=>∃c,x=.bl c/\Q (.bl (!c)) H1
theorem vU{op}(h:PE X a t):PE X (.BoolOp op [a] pos) t:=fun pins s σ H Q I hw=>BoolOp_one (h pins s σ H Q I hw)
theorem vK(ha:PE X a ta)(hb:PE X (.BoolOp .And (b::rest) pos) tb):PE X (.BoolOp .And (a::b::rest) pos) (tAndV ta tb):=by
 intro pins s σ H Q I h;refine BoolOp_and (thn (ha pins s σ H _ I h) fun v s1 zq=>?_);obtain⟨x,H1,I1,r1,q1⟩:=zq;obtain⟨c,rfl,q1⟩:=q1;cases r1;refine kg ?_;cases c with
 |true=>exact hb pins s1 σ H1 Q I1 q1
 |false=>exact⟨.bl false,H1,I1,rfl,q1⟩
theorem pe_or(ha:PE X a ta)(hb:PE X (.BoolOp .Or (b::rest) pos) tb):PE X (.BoolOp .Or (a::b::rest) pos) (tOrV ta tb):=by
 intro pins s σ H Q I h;refine BoolOp_or (thn (ha pins s σ H _ I h) fun v s1 zq=>?_);obtain⟨x,H1,I1,r1,q1⟩:=zq;obtain⟨c,rfl,q1⟩:=q1;cases r1;refine kg ?_;cases c with
 |false=>exact hb pins s1 σ H1 Q I1 q1
 |true=>exact⟨.bl true,H1,I1,rfl,q1⟩
theorem aJk(ha:PE X a ta):PE X (.UnaryOp .Not a pos) (tNotV ta):=by
 intro pins s σ H Q I h;refine UnaryOp_ (thn (ha pins s σ H _ I h) fun v s1 zq=>?_);obtain⟨x,H1,I1,r1,q1⟩:=zq;obtain⟨c,rfl,q1⟩:=q1;cases r1;exact not_of (kg ⟨.bl (!c),H1,I1,rfl,q1⟩)
def tIf (t:TT) (ta tb:TE):TE:=fun σ H Q=>t σ H fun c H1=>if c=true then ta σ H1 Q else tb σ H1 Q
theorem aAa(hc:PT X c tA)(ha:PE X a ta)(hb:PE X b tb):PE X (.IfExp c a b pos) (tIf tA ta tb):=by
 intro pins s σ H Q I h;refine wpAny_IfExp (thn (hc pins s σ H _ I h) fun d s1 zq=>?_);obtain⟨H1,I1,q1⟩:=zq;cases d with
 |true=>exact ha pins s1 σ H1 Q I1 q1
 |false=>exact hb pins s1 σ H1 Q I1 q1
end
def SqL (K:Δ) (H:Hp) (a:Addr) (xs:List V):Prop :=
 Rd H a (.lst xs) ∨
  ∃(o:Obj) (its:Array Value) (n:Nat),K.lookup a=some o/\o.cls=.type "list"/\o.dict=none/\o.data=.seq its n/\its.size<=χ/\kO xs its.toList
def SqT (K:Δ) (H:Hp) (a:Addr) (xs:List V):Prop :=
 Rd H a (.tup xs) ∨
  ∃(o:Obj) (its:Array Value) (n:Nat),K.lookup a=some o/\o.cls=.type "tuple"/\o.data=.seq its n/\its.size<=χ/\kO xs its.toList
def absV:Value->Option V
 |.none=>some .non
 |.bool b=>some (.bl b)
 |.int i _=>some (.int i)
 |.str x _=>some (.str x)
 |.bytes b _=>some (.byt b)
 |.float b _=>some (.flt b)
 |.ref a=>some (.ref a)
 |.type n=>some (.ty n)
 |_=>none
theorem RelV.abs(r:RelV x u):absV u=some x:=by
 cases x with
 |non=>cases r;rfl
 |bl _=>cases r;rfl
 |int _=>obtain⟨t,rfl⟩:=r;rfl
 |str _=>obtain⟨t,rfl⟩:=r;rfl
 |byt _=>obtain⟨t,rfl⟩:=r;rfl
 |flt _=>obtain⟨t,rfl⟩:=r;rfl
 |ref _=>cases r;rfl
 |ty _=>cases r;rfl
theorem RelV.inj(r:RelV x u)(q:RelV y u):x=y:=jg (r.abs.symm.trans q.abs)
theorem kO.inj:∀{xs ys:List V}{us:List Value},kO xs us->kO ys us->xs=ys
 |_,_,_,.nil,.nil=>rfl
 |_,_,_,.cons r t,.cons r' t'=>by rw[r.inj r',kO.inj t t']
section
variable {X:Cx}{pins:List (Addr×Obj)}{σ:St}{H:Hp}{s:ς}{a:Addr}{xs ys:List V}
theorem SqL.of{K:Δ}(h:H a=some (.lst xs)):SqL K H a xs:=.inl (.inl h)
theorem SqT.of{K:Δ}(h:H a=some (.tup xs)):SqT K H a xs:=.inl (.inl h)
theorem Inv.list(I:Inv X pins σ H s)(h:SqL X.K H a xs):∃its:List Value,kO xs its/\PlainL s.heap a its.toArray/\xs.length<=χ:=by
 rcases h with h|⟨o,its,n,hk,hc,hd,hs,hz,r⟩
 ·obtain⟨z,its,n,r,e⟩:=h.ok I.hok;exact⟨its,r,⟨_,n,e,rfl,rfl,rfl⟩,z⟩
 ·refine⟨its.toList,r,⟨o,n,I.kIn a o hk,hc,hd,by simpa using hs⟩,?_⟩;have e:=r.length;simp only[jb]at e;omega
theorem Inv.tuple(I:Inv X pins σ H s)(h:SqT X.K H a xs):∃its:List Value,kO xs its/\IsTup s.heap a its.toArray/\xs.length<=χ:=by
 rcases h with h|⟨o,its,n,hk,hc,hs,hz,r⟩
 ·obtain⟨z,its,r,p⟩:=h.ok I.hok;exact⟨its,r,p,z⟩
 ·refine⟨its.toList,r,⟨o,I.kIn a o hk,hc,n,by simpa using hs⟩,?_⟩;have e:=r.length;simp only[jb]at e;omega
theorem Inv.list_inj(I:Inv X pins σ H s)(h:SqL X.K H a xs)(h':SqL X.K H a ys):xs=ys:=by
 obtain⟨its,r,⟨o,n,e,_,_,d⟩,_⟩:=I.list h;obtain⟨its',r',⟨o',n',e',_,_,d'⟩,_⟩:=I.list h';rw[e]at e';cases e';rw[d]at d';injection d' with d1 _;have:its=its':=by simpa using congrArg Array.toList d1
 subst this;exact r.inj r'
theorem Inv.tuple_inj(I:Inv X pins σ H s)(h:SqT X.K H a xs)(h':SqT X.K H a ys):xs=ys:=by
 obtain⟨its,r,⟨o,e,_,n,d⟩,_⟩:=I.tuple h;obtain⟨its',r',⟨o',e',_,n',d'⟩,_⟩:=I.tuple h';rw[e]at e';cases e';rw[d]at d';injection d' with d1 _;have:its=its':=by simpa using congrArg Array.toList d1
 subst this;exact r.inj r'
end
abbrev Cx.wish (X:Cx) (E:Value->ς->Prop):Cx:={ X with xe:=E }
abbrev Cx.nox (X:Cx):Cx:=X.wish fun _ _=>False
theorem Cx.Ok.wish{X:Cx}(ok:X.Ok)(E:Value->ς->Prop):(X.wish E).Ok :=
 ⟨ok.mod,ok.kind,ok.glob,ok.blt,ok.above,ok.inj,ok.has,ok.cab,ok.hd,ok.frames,ok.stk,ok.exf,ok.bs,ok.bsz,ok.noex,ok.exfs,ok.funs,ok.frf⟩
theorem Cx.Ok.unwish{X:Cx}(ok:(X.wish E).Ok):X.Ok :=
 ⟨ok.mod,ok.kind,ok.glob,ok.blt,ok.above,ok.inj,ok.has,ok.cab,ok.hd,ok.frames,ok.stk,ok.exf,ok.bs,ok.bsz,ok.noex,ok.exfs,ok.funs,ok.frf⟩
section
variable {X:Cx}{pins:List (Addr×Obj)}{σ:St}{H:Hp}{s:ς}{E:Value->ς->Prop}
theorem Inv.wish(I:Inv X pins σ H s)(E:Value->ς->Prop):Inv (X.wish E) pins σ H s:=⟨I.ok.wish E,I.os,I.bare,I.base,I.loc,I.cell,I.free,I.freeC,I.pin,I.hok,I.len⟩
theorem Inv.unwish(I:Inv (X.wish E) pins σ H s):Inv X pins σ H s:=⟨I.ok.unwish,I.os,I.bare,I.base,I.loc,I.cell,I.free,I.freeC,I.pin,I.hok,I.len⟩
theorem SP.unwish(h:SP (X.wish E) pins D f s'):SP X pins D f s':=by
 cases f with
 |next=>obtain⟨σ',H',I,q⟩:=h;exact⟨σ',H',I.unwish,q⟩
 |brk=>obtain⟨σ',H',I,q⟩:=h;exact⟨σ',H',I.unwish,q⟩
 |cont=>obtain⟨σ',H',I,q⟩:=h;exact⟨σ',H',I.unwish,q⟩
 |ret u=>obtain⟨v,σ',H',I,r,q⟩:=h;exact⟨v,σ',H',I.unwish,r,q⟩
theorem PE.nox(h:PE X.nox e t):PE X e t:=fun pins s σ H Q I hw =>
 md (h pins s σ H Q (I.wish _) hw) (fun _ _ zq=>zq.el fun v H' I' r q=>⟨v,H',I'.unwish,r,q⟩) fun _ _ z=>kc z
theorem PT.nox(h:PT X.nox e t):PT X e t:=fun pins s σ H Q I hw =>
 md (h pins s σ H Q (I.wish _) hw) (fun _ _ ⟨H',I',q⟩=>⟨H',I'.unwish,q⟩) fun _ _ z=>kc z
theorem PSs.nox{st:List Stmt}{t:TS}(h:PSs X.nox st t):PSs X st t:=fun pins s σ H D I hw =>
 md (h pins s σ H D (I.wish _) hw) (fun _ _ q=>q.unwish) fun _ _ z=>kc z
end
section
variable {X:Cx}{st:Stmt}{rest:List Stmt}{t u:TS}{e:Expr}{te:TE}{pos:Pos}
def tNext:TS:=fun D σ H=>D.nx σ H
def vF (t u:TS):TS:=fun D σ H=>t { D with nx:=u D } σ H
theorem jL:PSs X [] tNext:=fun _ _ σ H _ I h=>wpAny_execs_nil ⟨σ,H,I,h⟩
theorem jE(h1:PS X st t)(h2:PSs X rest u):PSs X (st::rest) (vF t u):=by
 intro pins s σ H D I h;refine wpAny_execs_cons (thn (h1 pins s σ H { D with nx:=u D } I h) fun f s1 q=>?_);cases f with
 |next =>
  obtain⟨σ',H',I',q⟩:=q;exact h2 pins s1 σ' H' D I' q
 |ret v=>exact q
 |brk=>exact q
 |cont=>exact q
theorem jD(h1:PS X st t):PSs X [st] t:=by
 intro pins s σ H D I h;refine wpAny_execs_cons (thn (h1 pins s σ H D I h) fun f s1 q=>?_);cases f with
 |next=>exact wpAny_execs_nil q
 |ret v=>exact q
 |brk=>exact q
 |cont=>exact q
theorem Inv.quiet(I:Inv X pins σ H s):interactive X.env=false:=by simp[interactive,I.ok.kind]
def tDrop (te:TE):TS:=fun D σ H=>te σ H fun _ H1=>D.nx σ H1
theorem yJ(he:PE X e te)(hs:swapsWith e none pos.line X.env=pure false:=by rfl):PS X (.Expr e pos) (tDrop te):=by
 intro pins s σ H D I h;exact wpAny_Expr_any (thn (he pins s σ H _ I h) fun v s1 zq=>zq.el fun x H1 I1 r1 q1=>⟨σ,H1,I1,q1⟩) I.quiet hs
def tRet (te:TE):TS:=fun D σ H=>te σ H D.rt
theorem jJ(he:PE X e te):PS X (.Return (some e) pos) (tRet te):=by
 intro pins s σ H D I h;exact wpAny_Return_some (thn (he pins s σ H _ I h) fun v s1 zq=>zq.el fun x H1 I1 r1 q1=>⟨x,σ,H1,I1,r1,q1⟩)
def aIw (c:TT) (t u:TS):TS:=fun D σ H=>c σ H fun b H1=>if b=true then t D σ H1 else u D σ H1
theorem kK(hc:PT X c tc)(ha:PSs X a t)(hb:PSs X b u):PS X (.If c a b pos) (aIw tc t u):=by
 intro pins s σ H D I h;refine wpAny_If (thn (hc pins s σ H _ I h) fun d s1 zq=>?_);obtain⟨H1,I1,q1⟩:=zq;cases d with
 |true=>exact ha pins s1 σ H1 D I1 q1
 |false=>exact hb pins s1 σ H1 D I1 q1
def aPz:TS:=fun _ _ _=>False
theorem xL:PS X st aPz:=fun _ _ _ _ _ _ h=>h.elim
end
abbrev TG:=V->St->Hp->(St->Hp->Prop)->Prop
abbrev TGs:=List V->St->Hp->(St->Hp->Prop)->Prop
def PG (X:Cx) (target:Expr) (t:TG):Prop :=
 ∀(pins:List (Addr×Obj)) (s:ς) (σ:St) (H:Hp) (v:V) (u:Value) (Q:St->Hp->Prop),Inv X pins σ H s->RelV v u->t v σ H Q →
  gp (ik X.prog X.w) X.A (assign target X.env u) (fun _ s'=>∃σ' H',Inv X pins σ' H' s'/\Q σ' H') X.xe s
def PGs (X:Cx) (ts:List Expr) (t:TGs):Prop :=
 ∀(pins:List (Addr×Obj)) (s:ς) (σ:St) (H:Hp) (vs:List V) (us:List Value) (Q:St->Hp->Prop),Inv X pins σ H s->kO vs us->t vs σ H Q →
  gp (ik X.prog X.w) X.A (assignInOrder ((vc ts X.env).map (·.2)) us) (fun _ s'=>∃σ' H',Inv X pins σ' H' s'/\Q σ' H') X.xe s
abbrev TSet:=V->V->V->Hp->(Hp->Prop)->Prop
def PSet (X:Cx) (t:TSet):Prop :=
 ∀(pins:List (Addr×Obj)) (s:ς) (σ:St) (H:Hp) (o i v:V) (ov iv u:Value) (Q:Hp->Prop),Inv X pins σ H s->RelV o ov->RelV i iv->RelV v u->t o i v H Q →
  gp (ik X.prog X.w) X.A (setItem ov iv u) (fun _ s'=>∃H',Inv X pins σ H' s'/\Q H') X.xe s
section
variable {X:Cx}{pos:Pos}
def yZ (i:Nat):TG:=fun v σ H Q=>Q (σ.set i (some v)) H
theorem nG{i:Nat}(hN:X.N.Nodup)(hi:X.N[i]?=some x)(hx:Loc X.env.scope x)(hf:X.fn x=true\/X.env.scope.names.lookup x=some .local:=by first|exact .inl rfl|exact .inr rfl|assumption):PG X (.Name x pos) (yZ i):=by
 intro pins s σ H v u Q I r h;exact wpAny_assign_Name (aCh I hN hi hx r (fun s' I'=>⟨_,H,I',h⟩) hf)
inductive aKd (vs:List V) (σ:St) (H:Hp) (Q:St->Hp->Prop):Prop|mk:vs=[]->Q σ H->aKd vs σ H Q
def gNil:TGs:=fun vs σ H Q=>aKd vs σ H Q
inductive aEf (t:TG) (u:TGs) (vs:List V) (σ:St) (H:Hp) (Q:St->Hp->Prop):Prop|mk:∀v r,vs=v::r->(t v σ H fun σ' H'=>u r σ' H' Q)->aEf t u vs σ H Q
def gCons (t:TG) (u:TGs):TGs:=fun vs σ H Q=>aEf t u vs σ H Q
theorem qR:PGs X [] gNil:=by
 intro pins s σ H vs us Q I r h;obtain⟨e,h⟩:=h;subst e;cases r;exact assignInOrder_nil ⟨σ,H,I,h⟩
theorem kI(h1:PG X e t)(h2:PGs X es u)
  (hs:(vc (e::es) X.env).map (·.2)=assign e X.env::(vc es X.env).map (·.2):=by rfl):PGs X (e::es) (gCons t u):=by
 intro pins s σ H vs us Q I r h;obtain⟨v,vr,e1,h⟩:=h;subst e1;cases r with
 |cons r rr =>
  rw[hs];refine assignInOrder_cons (thn (h1 pins s σ H _ _ _ I r h) fun _ s1 zq=>?_);obtain⟨σ1,H1,I1,q1⟩:=zq;exact h2 pins s1 σ1 H1 _ _ Q I1 rr q1
inductive aIz (K:Δ) (n:Nat) (t:TGs) (v:V) (σ:St) (H:Hp) (Q:St->Hp->Prop):Prop|mk:∀a xs,v=.ref a->SqT K H a xs->xs.length=n->t xs σ H Q->aIz K n t v σ H Q
def gTup (K:Δ) (n:Nat) (t:TGs):TG:=fun v σ H Q=>aIz K n t v σ H Q
theorem cO{n:Nat}(hc:X.calm=true)(h:PGs X es t)
  (hn:(vc es X.env).length=n:=by rfl)(hst:(vc es X.env).findIdx? (·.1)=none:=by rfl):PG X (.Tuple es k pos) (gTup X.K n t):=by
 intro pins s σ H v u Q I r hw;obtain⟨a,xs,e1,hq,hl,hw⟩:=hw;subst e1;cases r;obtain⟨its,rv,ht,hz⟩:=I.tuple hq;refine assign_Tuple_tuple (I.ok.hd hc) ht (by simp[hn,←hl,rv.length]) hst fun h' hx=>?_;have I1:Inv X pins σ H { s with heap:=h' }:=I.kept (t':=s.toks) fun b o e=>hx b o (ii (gx e)) e;exact h pins _ σ H xs _ Q I1 (by simpa using rv) hw
def gSub (to ti:TE) (t:TSet):TG:=fun v σ H Q=>to σ H fun o H1=>ti σ H1 fun i H2=>t o i v H2 fun H3=>Q σ H3
theorem sZ(ho:PE X o to)(hi:PE X i ti)(hs:PSet X t)
  (ha:∀v,assign (.Subscript o i pos) X.env v=(do
   let ov ←holding [v] (eval o X.env)
   let iv ←holding [v,ov] (eval i X.env)
   standAt pos
   holding [v,ov,iv] (setItem ov iv v)
   release [v,ov,iv] []):=by intro _;rfl):PG X (.Subscript o i pos) (gSub to ti t):=by
 intro pins s σ H v u Q I r h;rw[ha];refine ε (lh (thn (ho pins s σ H _ I h) fun ov s1 zq=>?_));obtain⟨x,H1,I1,r1,q1⟩:=zq;refine ε (lh (thn (hi pins s1 σ H1 _ I1 q1) fun iv s2 zq=>?_));obtain⟨y,H2,I2,r2,q2⟩:=zq;refine ε (wpAny_standAt (ε (lh (thn (hs pins s2 σ H2 x y v ov iv u _ I2 r1 r2 r q2) fun _ s3 zq=>?_))));obtain⟨H3,I3,q3⟩:=zq;exact wpAny_release ⟨σ,H3,I3,q3⟩
def aGr (te:TE) (g:TG):TS:=fun D σ H=>te σ H fun x H1=>g x σ H1 D.nx
theorem uL(he:PE X e te)(hg:PG X tg g)(hs:swapsWithSole [tg] e pos.line X.env=pure false:=by rfl)(hw:swappedStores [tg] e X.env=pure none:=by rfl)
  (h1:(vc [tg] X.env).map (·.2)=[assign tg X.env]:=by rfl):PS X (.Assign [tg] e pos) (aGr te g):=by
 intro pins s σ H D I h;refine wpAny_Assign_stores (thn (he pins s σ H _ I h) fun v s1 zq=>?_) hs hw;obtain⟨x,H1,I1,r1,q1⟩:=zq;rw[h1];exact thn (hg pins s1 σ H1 x v _ I1 r1 q1) fun _ s2 q=>q
theorem aCx{i:Nat}(hN:X.N.Nodup)(hi:X.N[i]?=some x)(hx:Loc X.env.scope x)(he:PE X e te)(hs:swapsWith e (some (.Name x pos')) pos.line X.env=pure false:=by rfl)(hf:X.fn x=true\/X.env.scope.names.lookup x=some .local:=by first|exact .inl rfl|exact .inr rfl|assumption):
  PS X (.Assign [.Name x pos'] e pos) (aGr te (yZ i)):=by
 intro pins s σ H D I h;refine wpAny_Assign_Name (thn (he pins s σ H _ I h) fun v s1 zq=>?_) hs;obtain⟨y,H1,I1,r1,q1⟩:=zq;exact aCh I1 hN hi hx r1 (fun s2 I2=>⟨_,H1,I2,q1⟩) hf
end
structure It where
 go:Nat->Hp->Prop
 yld:Nat->Hp->V->Hp->Prop
 stop:Nat->Hp->Prop
def eO (X:Cx) (pins:List (Addr×Obj)) (H:Hp) (b:Addr):Prop :=
 H b=none/\b≠X.env.locals/\b∉X.fs/\(b∈X.ex\/X.s₀.heap.objs.size<=b)/\(∀x c,X.env.cells.lookup x=some c->c≠b)/\∀p∈X.pn++pins,p.1≠b
theorem Inv.fpOk{H':Hp}{b:Addr}(I:Inv X pins σ H s)(hb:s.heap.objs.size<=b)(hn:H' b=none):eO X pins H' b:=by
 refine⟨hn,vi (Γ I.lt hb),I.nofs hb,.inr (Ψ I.sz hb),fun x c e z=>?_,fun p hp z=>?_⟩
 ·obtain⟨v,q⟩:=I.cell x c e;exact absurd (Γ q.lt (by rw[z];exact hb)) (qb _)
 ·exact absurd (Γ (gx (I.pin p hp).1) (by rw[z];exact hb)) (qb _)
structure Turn (P:io) (w:jl) (K:Δ) (tg:Expr) (J:It) (fp:List Addr) (it:Addr) (tn:Nat->kq->Prop):Prop where
 mem:it∈fp
 obj:∀i h,tn i h->∀b∈fp,∃o,h.get? b=some o/\∀v,o.data≠.cell v
 keep:∀i h h',tn i h->(∀b∈fp,∀o,h.get? b=some o->h'.get? b=some o)->tn i h'
 item:∀(X:Cx),X.prog=P->X.w=w->X.K=K->X.calm=true->∀(i:Nat) (pins:List (Addr×Obj)) (s:ς) (σ:St) (H:Hp) (E:Value->ς->Prop),Inv X pins σ H s->(∀b∈fp,eO X pins H b)->tn i s.heap->J.go i H →
  gp (ik P w) X.A (pyNext (.ref it)) (fun r s1=>∃u,r=some u ∧
   gp (ik P w) X.A (wl tg (.ref it) u) (fun _ s2=>∃x H',Inv X pins σ H' s2/\RelV x u/\J.yld i H x H'/\tn (i+1) s2.heap/\∀b∈fp,H' b=none) E s1) E s
 done:∀(X:Cx),X.prog=P->X.w=w->X.K=K->X.calm=true->∀(i:Nat) (pins:List (Addr×Obj)) (s:ς) (σ:St) (H:Hp) (E:Value->ς->Prop),Inv X pins σ H s->(∀b∈fp,eO X pins H b)->tn i s.heap->J.stop i H →
  gp (ik P w) X.A (pyNext (.ref it)) (fun r s1=>r=none/\Inv X pins σ H s1) E s
 self:∀(A:km) (i:Nat) (s:ς) (Q:Value->ς->Prop) (E:Value->ς->Prop),tn i s.heap->Q (.ref it) s->gp (ik P w) A (pyIter (.ref it)) Q E s
abbrev TI:=St->Hp->(It->Hp->Prop)->Prop
def PIE (X:Cx) (pins:List (Addr×Obj)) (σ:St) (tg:Expr) (R:It->Hp->Prop) (itv:Value) (s2:ς):Prop :=
 ∃(it:Addr) (fp:List Addr) (tn:Nat->kq->Prop) (J:It) (H':Hp),itv=.ref it/\Inv X pins σ H' s2/\Turn X.prog X.w X.K tg J fp it tn/\tn 0 s2.heap/\(∀b∈fp,eO X pins H' b)/\R J H'
def PI (X:Cx) (tg iter:Expr) (wi:TI):Prop :=
 ∀(pins:List (Addr×Obj)) (s:ς) (σ:St) (H:Hp) (R:It->Hp->Prop),Inv X pins σ H s->wi σ H R →
  gp (ik X.prog X.w) X.A (eval iter X.env) (fun v s1=>gp (ik X.prog X.w) X.A (pyIter v) (PIE X pins σ tg R) X.xe s1) X.xe s
theorem aEe{s:ς}{it:Addr}{Q:Unit->ς->Prop}(ho:s.heap.get? it=some o)(hc:o.cls=.type n)(hd:o.data=.fields vs)
  (hn : ["enumerate","zip","dict_itemiterator","dict_reverseitemiterator","odict_iterator","itertools.zip_longest","itertools.pairwise"].contains n=false)(hQ:Q () s):gp M A (wl tg (.ref it) u) Q E s:=by
 unfold wl;cases tg <;> first
  |exact π hQ
  | (cases u <;> first
      |exact π hQ
      | (refine ε (wpAny_load ho ?_)
         rw[hc,hd];show gp M A (if (["enumerate","zip","dict_itemiterator","dict_reverseitemiterator","odict_iterator","itertools.zip_longest","itertools.pairwise"].contains n&&vs[0]? == some (rawInt _))=true then _ else _) Q E s;rw[if_neg (by intro h;rw[hn,rm]at h;cases h)];exact π hQ))
def Itl (K:Δ) (a:Addr):It :=
 ⟨fun i H=>∃xs x,SqL K H a xs/\xs[i]?=some x,fun i H x H'=>H'=H/\∀xs,SqL K H a xs->xs[i]?=some x,fun i H=>∃xs,SqL K H a xs/\xs.length<=i⟩
def Itt (K:Δ) (a:Addr):It :=
 ⟨fun i H=>∃xs x,SqT K H a xs/\xs[i]?=some x,fun i H x H'=>H'=H/\∀xs,SqT K H a xs->xs[i]?=some x,fun i H=>∃xs,SqT K H a xs/\xs.length<=i⟩
def Itr (lo:Int) (n:Nat):It:=⟨fun i _=>i<n,fun i H x H'=>H'=H/\x=.int (lo+i),fun i _=>n<=i⟩
theorem sP{K:Δ}(a it:Addr):Turn P w K tg (Itl K a) [it] it (fun i h=>h.IsListIter it a i) where
 mem:=by simp
 obj:=fun i h st b hb=>by
  have e:b=it:=by simpa using hb
  subst e;obtain⟨o,e,c,d⟩:=st;exact⟨o,e,fun v z=>by rw[d]at z;cases z⟩
 keep:=fun i h h' st k=>st.at fun o e=>k it (by simp) o e
 item:=by
  intro X hP hw hK hc i pins s σ H E I hf st hg;subst hP hw hK;obtain⟨xs,x,hq,hx⟩:=hg;obtain⟨its,rv,p,hz⟩:=I.list hq;obtain⟨u,hu,ru⟩:=rv.get hx;obtain⟨f0,f1,f2,f3,f4,f5⟩:=hf it (by simp);refine wpAny_pyNext_list_item st p.isList (x:=u) (by simpa using hu) fun h' st' sb=>?_;have I1:Inv X pins σ H { s with heap:=h' }:=I.turned (t':=s.toks) (fun b o hb e=>(sb.2 b hb).trans e) f0 f1 f3 f4 f5;obtain⟨o,e,c,d⟩:=id st';exact⟨u,rfl,aEe (s:={ s with heap:=h' }) e c d (by decide) ⟨x,H,I1,ru,⟨rfl,fun ys hy=>by rw[I.list_inj hy hq];exact hx⟩,st',fun b hb=>(hf b hb).1⟩⟩
 done:=by
  intro X hP hw hK hc i pins s σ H E I hf st hg;subst hP hw hK;obtain⟨xs,hq,hx⟩:=hg;obtain⟨its,rv,p,hz⟩:=I.list hq;obtain⟨f0,f1,f2,f3,f4,f5⟩:=hf it (by simp);have hl:=rv.length;exact wpAny_pyNext_list_end (I.ok.hd hc) st p.isList (by simp;omega) fun h' eb=>⟨rfl,I.turned (t':=s.toks) (fun b o hb e=>eb b o hb e) f0 f1 f3 f4 f5⟩
 self:=fun _ _ _ _ _ st h=>wpAny_pyIter_listiter st h
theorem oJ{K:Δ}(a it:Addr):Turn P w K tg (Itt K a) [it] it (fun i h=>h.IsTupleIter it a i) where
 mem:=by simp
 obj:=fun i h st b hb=>by
  have e:b=it:=by simpa using hb
  subst e;obtain⟨o,e,c,d⟩:=st;exact⟨o,e,fun v z=>by rw[d]at z;cases z⟩
 keep:=fun i h h' st k=>st.at fun o e=>k it (by simp) o e
 item:=by
  intro X hP hw hK hc i pins s σ H E I hf st hg;subst hP hw hK;obtain⟨xs,x,hq,hx⟩:=hg;obtain⟨its,rv,p,hz⟩:=I.tuple hq;obtain⟨u,hu,ru⟩:=rv.get hx;obtain⟨f0,f1,f2,f3,f4,f5⟩:=hf it (by simp);refine wpAny_pyNext_tuple_item st (show s.heap.IsTuple a its.toArray from p) (x:=u) (by simpa using hu) fun h' st' sb=>?_;have I1:Inv X pins σ H { s with heap:=h' }:=I.turned (t':=s.toks) (fun b o hb e=>(sb.2 b hb).trans e) f0 f1 f3 f4 f5;obtain⟨o,e,c,d⟩:=id st';exact⟨u,rfl,aEe (s:={ s with heap:=h' }) e c d (by decide) ⟨x,H,I1,ru,⟨rfl,fun ys hy=>by rw[I.tuple_inj hy hq];exact hx⟩,st',fun b hb=>(hf b hb).1⟩⟩
 done:=by
  intro X hP hw hK hc i pins s σ H E I hf st hg;subst hP hw hK;obtain⟨xs,hq,hx⟩:=hg;obtain⟨its,rv,p,hz⟩:=I.tuple hq;obtain⟨f0,f1,f2,f3,f4,f5⟩:=hf it (by simp);have hl:=rv.length;exact wpAny_pyNext_tuple_end (I.ok.hd hc) st (show s.heap.IsTuple a its.toArray from p) (by simp;omega) fun h' eb=>⟨rfl,I.turned (t':=s.toks) (fun b o hb e=>eb b o hb e) f0 f1 f3 f4 f5⟩
 self:=fun _ _ _ _ _ st h=>wpAny_pyIter_tupleiter st h
theorem aCm{K:Δ}(it:Addr)(lo:Int)(n:Nat):Turn P w K tg (Itr lo n) [it] it (fun i h=>IsRangeIter h it (lo+(i:Nat)*1) ((n:Int)-(i:Nat)) 1) where
 mem:=by simp
 obj:=fun i h st b hb=>by
  have e:b=it:=by simpa using hb
  subst e;exact⟨_,st,fun v z=>by
   have z':Data.fields _=Data.cell v:=z;cases z'⟩
 keep:=fun i h h' st k=>k it (by simp) _ st
 item:=by
  intro X hP hw hK hc i pins s σ H E I hf st hg;subst hP hw hK;obtain⟨f0,f1,f2,f3,f4,f5⟩:=hf it (by simp);have W:=Walks.range (prog:=X.prog) (w:=X.w) (I.ok.hd hc) it lo 1 n;refine W.item i s _ _ hg st fun v h' tk hv st' kk=>?_;obtain⟨t,rfl⟩:=hv;have I1:Inv X pins σ H { s with heap:=h',toks:=tk }:=I.turned (fun b o hb e=>kk b o (by simpa using hb) e) f0 f1 f3 f4 f5;refine⟨_,rfl,aEe (s:={ s with heap:=h',toks:=tk }) (n:="range_iterator") st' rfl rfl (by decide) ⟨.int (lo+i),H,I1,⟨t,?_⟩,⟨rfl,rfl⟩,st',fun b hb=>(hf b hb).1⟩⟩;rw[Int.mul_one]
 done:=by
  intro X hP hw hK hc i pins s σ H E I hf st hg;subst hP hw hK;obtain⟨f0,f1,f2,f3,f4,f5⟩:=hf it (by simp);exact wpAny_pyNext_range_end (I.ok.hd hc) st (by have:n<=i:=hg;omega) fun h' eb=>⟨rfl,I.turned (t':=s.toks) (fun b o hb e=>eb b o hb e) f0 f1 f3 f4 f5⟩
 self:=fun _ _ _ _ _ st h=>wpAny_pyIter_rangeiter st h
section
variable {X:Cx}{tg:Expr}
inductive aEi (K:Δ) (R:It->Hp->Prop) (x:V) (H1:Hp):Prop|mk:∀a,x=.ref a->((∃xs,SqL K H1 a xs))->R (Itl K a) H1->aEi K R x H1
def aPd (K:Δ) (tl:TE):TI:=fun σ H R=>tl σ H fun x H1=>aEi K R x H1
def iTup (K:Δ) (tl:TE):TI:=fun σ H R=>tl σ H fun x H1=>∃a,x=.ref a/\(∃xs,SqT K H1 a xs)/\R (Itt K a) H1
theorem qL(hl:PE X l tl):PI X tg l (aPd X.K tl):=by
 intro pins s σ H R I h;refine thn (hl pins s σ H _ I h) fun v s1 zq=>?_;obtain⟨x,H1,I1,r1,q1⟩:=zq;obtain⟨a,e,⟨xs,hq⟩,q⟩:=q1;subst e;cases r1;obtain⟨its,rv,p,hz⟩:=I1.list hq;refine qk p.isList ?_;refine⟨s1.heap.objs.size,[s1.heap.objs.size],_,_,H1,rfl,I1.kept (t':=s1.toks) fun b o e=>ω _ e,sP a _,⟨_,gm _ rfl,rfl,rfl⟩,fun b hb=>?_,q⟩;have e:b=s1.heap.objs.size:=by simpa using hb
 subst e;exact I1.fpOk (μ _) (I1.hok.fresh (μ _))
theorem fV(hl:PE X l tl):PI X tg l (iTup X.K tl):=by
 intro pins s σ H R I h;refine thn (hl pins s σ H _ I h) fun v s1 zq=>?_;obtain⟨x,H1,I1,r1,q1⟩:=zq;obtain⟨a,e,⟨xs,hq⟩,q⟩:=q1;subst e;cases r1;obtain⟨its,rv,p,hz⟩:=I1.tuple hq;refine rn (show s1.heap.IsTuple a its.toArray from p) ?_;refine⟨s1.heap.objs.size,[s1.heap.objs.size],_,_,H1,rfl,I1.kept (t':=s1.toks) fun b o e=>ω _ e,oJ a _,⟨_,gm _ rfl,rfl,rfl⟩,fun b hb=>?_,q⟩;have e:b=s1.heap.objs.size:=by simpa using hb
 subst e;exact I1.fpOk (μ _) (I1.hok.fresh (μ _))
theorem aId{s:ς}{R:It->Hp->Prop}{lo hi:Int}{tk:Nat}(I:Inv X pins σ H s)(h1 : -(2 ^ 62)<=lo)(h2:lo<2 ^ 62)(h3 : -(2 ^ 62)<=hi)(h4:hi<2 ^ 62)
  (q:R (Itr lo (hi-lo).toNat) H):gp (ik X.prog X.w) X.A (pyIter (.ref s.heap.objs.size)) (PIE X pins σ tg R) E { s with heap:=s.heap.push { cls:=.type "range",data:=.fields #[.int lo t,.int hi u,.int 1 v] },toks:=tk }:=by
 refine wpAny_pyIter_range (IsRange.new ..) (small_one h1 h2 h3 h4) ?_;have I1:Inv X pins σ H { s with heap:=s.heap.push { cls:=.type "range",data:=.fields #[.int lo t,.int hi u,.int 1 v] },toks:=tk }:=I.kept fun b o e=>ω _ e;refine⟨(s.heap.push { cls:=.type "range",data:=.fields #[.int lo t,.int hi u,.int 1 v] }).objs.size,[(s.heap.push { cls:=.type "range",data:=.fields #[.int lo t,.int hi u,.int 1 v] }).objs.size],_,_,H,rfl,
  I1.kept (t':=tk) fun b o e=>ω _ e,aCm _ lo (hi-lo).toNat,?_,fun b hb=>?_,q⟩
 ·have e1:lo+((0:Nat):Int)*1=lo:=by simp
  have e2:(((hi-lo).toNat:Nat):Int)-((0:Nat):Int)=oy.Range.rangeSize lo hi 1:=by rw[rangeSize_one];split <;> omega
  show IsRangeIter _ _ (lo+((0:Nat):Int)*1) ((((hi-lo).toNat:Nat):Int)-((0:Nat):Int)) 1;rw[e1,e2];exact gm _ rfl
 ·have e:b=(s.heap.push { cls:=.type "range",data:=.fields #[.int lo t,.int hi u,.int 1 v] }).objs.size:=by simpa using hb
  subst e;exact I1.fpOk (μ _) (I1.hok.fresh (μ _))
inductive aEl (R:It->Hp->Prop) (vs:List V) (H1:Hp):Prop|mk:∀j:Int,vs=[.int j]->-(2 ^ 62)<=j->j<2 ^ 62->R (Itr 0 j.toNat) H1->aEl R vs H1
def iRng1 (ta:TA):TI:=fun σ H R=>ta σ H fun vs H1=>aEl R vs H1
theorem qX{a:Expr}(hg:Gl X "range")(hm:X.mg "range" = none)(ha:PA X [a] ta)(hs:ip [a] X.env=[(false,eval a X.env)]:=by rfl):PI X tg (.Call (.Name "range" p) [a] [] pos) (iRng1 ta):=by
 intro pins s σ H R I h;refine Call_ (iY I hg hm boot_range (qx (thn (ha pos pins s σ H _ I h) fun us s1 zq=>?_) hs rfl));obtain⟨vs,H1,I1,r1,q1⟩:=zq;obtain⟨j,e,q1,q2,q⟩:=q1;subst e;cases r1 with
 |cons r rr =>
  cases rr;obtain⟨t,rfl⟩:=r;exact call_range_1 (aId I1 (by omega) (by omega) q1 q2 (by simpa using q))
def tFor (wi:TI) (g:TG) (tb:TS):TS:=fun D σ H=>wi σ H fun J H1=>∃W:Nat->Nat->St->Hp->Prop,(∃m,W 0 m σ H1)/\∀i m σ H,W i m σ H →
 (J.stop i H/\D.nx σ H)\/(J.go i H/\∃N:St->Hp->Prop,(∀σ' H',N σ' H'->∃m',m'<m/\W (i+1) m' σ' H')/\∀x H',J.yld i H x H'->g x σ H' fun σ2 H2=>tb { D with nx:=N,ct:=N,bk:=D.nx } σ2 H2)
def dQ (fp:List Addr) (h:kq):List (Addr×Obj):=fp.filterMap fun b=>(h.get? b).map fun o=>(b,o)
theorem yD{fp:List Addr}{h:kq}{b:Addr}(hb:b∈fp)(e:h.get? b=some o):(b,o)∈dQ fp h:=wo.mpr ⟨b,hb,by rw[e];rfl⟩
theorem aHw{p:Addr×Obj}(hp:p∈dQ fp h):p.1∈fp/\h.get? p.1=some p.2:=by
 obtain⟨b,hb,e⟩:=wo.mp hp;cases q:h.get? b with
 |none=>rw[q]at e;cases e
 |some o =>
  rw[q]at e;have e':(b,o)=p:=jg e;subst e';exact⟨hb,q⟩
theorem Inv.pinned{fp:List Addr}(I:Inv X pins σ H s)(hf:∀b∈fp,eO X pins H b)(ho:∀b∈fp,∃o,s.heap.get? b=some o/\∀v,o.data≠.cell v):Inv X (pins++dQ fp s.heap) σ H s :=
 I.pins_of fun p hp=>(iz.mp hp).elim (fun z=>I.pin p (gq _ z)) fun z=>by
  obtain⟨hb,e⟩:=aHw z;obtain⟨f0,f1,f2,_⟩:=hf p.1 hb;obtain⟨o,e',d⟩:=ho p.1 hb;rw[e]at e';cases e';exact⟨e,f0,f1,f2,d⟩
theorem Inv.unpinned{pins pl:List (Addr×Obj)}(I:Inv X (pins++pl) σ H s):Inv X pins σ H s:=I.pins_of fun p hp=>I.pin p (gq _ (ke _ hp))
theorem xQ(hp:PassesOwn (ik X.prog X.w) X.A X.env X.xe)(hc:X.calm=true)(hi:PI X tg iter wi)(hg:PG X tg g)(hb:PSs X body tb)
  (hs:∀x,xf iter X.env x=pure x:=by intro _;rfl):PS X (.For tg iter body [] pos) (tFor wi g tb):=by
 intro pins s σ H D I h;refine wpAny_For (thn (hi pins s σ H _ I h) fun v s1 h1=>thn h1 fun itv s2 h2=>?_) hs;obtain⟨it,fp,tn,J,H2,e,I2,T,st2,f2,W,⟨m0,w0⟩,turn⟩:=h2;subst e;have stat:∀{H':Hp},(∀b∈fp,H' b=none)->∀b∈fp,eO X pins H' b:=fun hn b hb=>⟨hn b hb,(f2 b hb).2⟩;refine codeAny_forLoop_any (fun n s'=>∃i σ' H',Inv X pins σ' H' s'/\tn i s'.heap/\(∀b∈fp,H' b=none)/\W i n σ' H') ?_ m0 ⟨0,σ,H2,I2,st2,fun b hb=>(f2 b hb).1,w0⟩;rintro n s3 ⟨i,σ3,H3,I3,st3,fr3,w3⟩;rcases turn i n σ3 H3 w3 with⟨stop,qn⟩|⟨go,N,hN,step⟩
 ·refine wm hp (thn (T.done X rfl rfl rfl hc i pins s3 σ3 H3 X.xe I3 (stat fr3) st3 stop) fun r s4 zq=>?_);obtain⟨hr,I4⟩:=zq;subst hr;exact wpAny_execs_nil ⟨σ3,H3,I4,qn⟩
 ·refine wm hp (thn (T.item X rfl rfl rfl hc i pins s3 σ3 H3 X.xe I3 (stat fr3) st3 go) fun r s4 zq=>?_);obtain⟨u,hr,h4⟩:=zq;subst hr;refine wm hp (thn h4 fun _ s5 zq=>?_);obtain⟨x,H5,I5,r5,y5,st5,fr5⟩:=zq;have I5':=I5.pinned (stat fr5) (T.obj _ _ st5);refine wm hp (thn (hg _ s5 σ3 H5 x u _ I5' r5 (step x H5 y5)) fun _ s6 zq=>?_);obtain⟨σ6,H6,I6,q6⟩:=zq;refine wm hp (thn (hb _ s6 σ6 H6 _ I6 q6) fun f s7 q7=>?_);have again:∀{σ7:St}{H7:Hp},Inv X (pins++dQ fp s5.heap) σ7 H7 s7->N σ7 H7->∃m,m<n/\∃i σ' H',Inv X pins σ' H' s7/\tn i s7.heap/\(∀b∈fp,H' b=none)/\W i m σ' H':=fun {σ7 H7} I7 n7=>by
   obtain⟨m',hm,w7⟩:=hN σ7 H7 n7;refine⟨m',hm,i+1,σ7,H7,I7.unpinned,T.keep _ _ _ st5 fun b hb o e=>(I7.pin (b,o) (gq _ (gq _ (yD hb e)))).1,fun b hb=>?_,w7⟩;obtain⟨o,e,d⟩:=T.obj _ _ st5 b hb;exact(I7.pin (b,o) (gq _ (gq _ (yD hb e)))).2.1
  cases f with
  |next=>obtain⟨σ7,H7,I7,n7⟩:=q7;exact again I7 n7
  |cont=>obtain⟨σ7,H7,I7,n7⟩:=q7;exact again I7 n7
  |brk=>obtain⟨σ7,H7,I7,q7⟩:=q7;exact⟨σ7,H7,I7.unpinned,q7⟩
  |ret v=>obtain⟨x7,σ7,H7,I7,r7,q7⟩:=q7;exact⟨x7,σ7,H7,I7.unpinned,r7,q7⟩
end
theorem xI{K:Δ}{xs:List V}{g:TG}{tb:TS}{D:Ends}{σ:St}(Pv:Nat->St->Hp->Prop)(h0:Pv 0 σ H)(hl:∀i σ H,i<=xs.length->Pv i σ H->SqL K H a xs)
  (hs:∀i x σ H,xs[i]?=some x->Pv i σ H->LpL (let D2:Ends:={ D with nx:=Pv (i+1),ct:=Pv (i+1),bk:=D.nx };g x σ H fun σ2 H2=>tb D2 σ2 H2))(hd:∀σ H,Pv xs.length σ H->D.nx σ H):
  ∃W:Nat->Nat->St->Hp->Prop,(∃m,W 0 m σ H)/\∀i m σ H,W i m σ H →
   ((Itl K a).stop i H/\D.nx σ H)\/((Itl K a).go i H/\∃N:St->Hp->Prop,(∀σ' H',N σ' H'->∃m',m'<m/\W (i+1) m' σ' H')/\∀x H',(Itl K a).yld i H x H'->g x σ H' fun σ2 H2=>tb { D with nx:=N,ct:=N,bk:=D.nx } σ2 H2):=by
 refine⟨fun i m σ H=>m=xs.length-i/\i<=xs.length/\Pv i σ H,⟨xs.length,by simp,gw _,h0⟩,?_⟩;rintro i m σ H ⟨rfl,hi,p⟩;have q:=hl i σ H hi p
 by_cases hlt:i<xs.length
 ·refine .inr ⟨⟨xs,xs[i],q,by simp[hlt]⟩,Pv (i+1),fun σ' H' p'=>⟨xs.length-(i+1),by omega,rfl,hlt,p'⟩,fun x H' y=>?_⟩;obtain⟨e,y⟩:=y;subst e;exact hs i x σ _ (y xs q) p
 ·have e:i=xs.length:=by omega
  subst e;exact .inl ⟨⟨xs,q,μ _⟩,hd σ H p⟩
theorem zG{lo:Int}{n:Nat}{g:TG}{tb:TS}{D:Ends}{σ:St}(Pv:Nat->St->Hp->Prop)(h0:Pv 0 σ H)
  (hs:∀i σ H,i<n->Pv i σ H->LpL (let D2:Ends:={ D with nx:=Pv (i+1),ct:=Pv (i+1),bk:=D.nx };g (.int (lo+i)) σ H fun σ2 H2=>tb D2 σ2 H2))(hd:∀σ H,Pv n σ H->D.nx σ H):
  ∃W:Nat->Nat->St->Hp->Prop,(∃m,W 0 m σ H)/\∀i m σ H,W i m σ H →
   ((Itr lo n).stop i H/\D.nx σ H)\/((Itr lo n).go i H/\∃N:St->Hp->Prop,(∀σ' H',N σ' H'->∃m',m'<m/\W (i+1) m' σ' H')/\∀x H',(Itr lo n).yld i H x H'->g x σ H' fun σ2 H2=>tb { D with nx:=N,ct:=N,bk:=D.nx } σ2 H2):=by
 refine⟨fun i m σ H=>m=n-i/\i<=n/\Pv i σ H,⟨n,by simp,gw _,h0⟩,?_⟩;rintro i m σ H ⟨rfl,hi,p⟩
 by_cases hlt:i<n
 ·refine .inr ⟨hlt,Pv (i+1),fun σ' H' p'=>⟨n-(i+1),by omega,rfl,hlt,p'⟩,fun x H' y=>?_⟩;obtain⟨e,y⟩:=y;subst e y;exact hs i σ _ hlt p
 ·have e:i=n:=by omega
  subst e;exact .inl ⟨μ _,hd σ H p⟩
abbrev R2:=V->V->Hp->VK->Prop
def OpR (X:Cx) (f:Value->Value->Sem Value) (r:R2):Prop :=
 ∀(pins:List (Addr×Obj)) (s:ς) (σ:St) (H:Hp) (x y:V) (v u:Value) (Q:VK),Inv X pins σ H s->RelV x v->RelV y u->r x y H Q →
  gp (ik X.prog X.w) X.A (f v u) (EP X pins σ Q) X.xe s
def UnR (X:Cx) (f:Value->Sem Value) (r:V->Hp->VK->Prop):Prop :=
 ∀(pins:List (Addr×Obj)) (s:ς) (σ:St) (H:Hp) (x:V) (v:Value) (Q:VK),Inv X pins σ H s->RelV x v->r x H Q →
  gp (ik X.prog X.w) X.A (f v) (EP X pins σ Q) X.xe s
def vD (X:Cx) (f:Value) (r:List V->Hp->VK->Prop):Prop :=
 ∀(pins:List (Addr×Obj)) (s:ς) (σ:St) (H:Hp) (xs:List V) (us:List Value) (Q:VK),Inv X pins σ H s->kO xs us->r xs H Q →
  gp (ik X.prog X.w) X.A (call f us) (EP X pins σ Q) X.xe s
def TruR (X:Cx) (r:V->Hp->(Bool->Hp->Prop)->Prop):Prop :=
 ∀(pins:List (Addr×Obj)) (s:ς) (σ:St) (H:Hp) (x:V) (v:Value) (Q:Bool->Hp->Prop),Inv X pins σ H s->RelV x v->r x H Q →
  gp (ik X.prog X.w) X.A (truthy v) (TP X pins σ Q) X.xe s
def tOp (r:R2) (ta tb:TE):TE:=fun σ H Q=>ta σ H fun x H1=>tb σ H1 fun y H2=>r x y H2 Q
def tUn (r:V->Hp->VK->Prop) (ta:TE):TE:=fun σ H Q=>ta σ H fun x H1=>r x H1 Q
inductive rI_i (C:Int->Int->Prop) (g:Int->Int->V) (x:V) (y:V) (H:Hp) (Q:VK):Prop|mk:∀i j,x=.int i->y=.int j->C i j->Q (g i j) H->rI_i C g x y H Q
def rI (C:Int->Int->Prop) (g:Int->Int->V):R2:=fun x y H Q=>rI_i C g x y H Q
inductive aOs (g:Int->Int->V) (x:V) (y:V) (H:Hp) (Q:VK):Prop|mk:∀i j,x=.int i->y=.int j->Q (g i j) H->aOs g x y H Q
def rI0 (g:Int->Int->V):R2:=fun x y H Q=>aOs g x y H Q
def rU (g:Int->V):V->Hp->VK->Prop:=fun x H Q=>∃i,x=.int i/\Q (g i) H
section
variable {X:Cx}{a b c:Expr}{ta tb tc:TE}{pos:Pos}
theorem binT(ha:PE X a ta)(hb:PE X b tb){R:V->V->Hp->Prop}(I:Inv X pins σ H s)
  (h:ta σ H fun x H1=>tb σ H1 fun y H2=>R x y H2){f:Value->Value->Sem Value}
  (hf:∀v u s2 x y H2,Inv X pins σ H2 s2->RelV x v->RelV y u->R x y H2->gp (ik X.prog X.w) X.A (f v u) Q X.xe s2):
  gp (ik X.prog X.w) X.A (eval a X.env) (fun v s₁=>gp (ik X.prog X.w) X.A (eval b X.env) (fun u s₂=>gp (ik X.prog X.w) X.A (f v u) Q X.xe s₂) X.xe s₁) X.xe s:=by
 refine thn (ha pins s σ H _ I h) fun v s1 zq=>?_;obtain⟨x,H1,I1,r1,q1⟩:=zq;refine thn (hb pins s1 σ H1 _ I1 q1) fun u s2 zq=>?_;obtain⟨y,H2,I2,r2,q2⟩:=zq;exact hf v u s2 x y H2 I2 r1 r2 q2
theorem jV(ho:OpR X (qt op) r)(ha:PE X a ta)(hb:PE X b tb):PE X (.BinOp a op b pos) (tOp r ta tb):=by
 intro pins s σ H Q I h;exact wpAny_BinOp (binT ha hb I h fun v u s2 x y H2 I2 rx ry q=>ho pins s2 σ H2 x y v u Q I2 rx ry q)
theorem gN(ho:UnR X (unaryOp op) r)(ha:PE X a ta):PE X (.UnaryOp op a pos) (tUn r ta):=by
 intro pins s σ H Q I h;exact UnaryOp_ (thn (ha pins s σ H _ I h) fun v s1 zq=>zq.el fun x H1 I1 r1 q1=>ho pins s1 σ H1 x v Q I1 r1 q1)
theorem opI{f:Value->Value->Sem Value}{C:Int->Int->Prop}{g:Int->Int->Int}
  (rule:∀(i j:Int) (t u:Tok) (s:ς) (Q:Value->ς->Prop) (E:Value->ς->Prop),C i j->Q (.int (g i j) s.toks) { s with toks:=s.toks+1 }->gp (ik X.prog X.w) X.A (f (.int i t) (.int j u)) Q E s):
  OpR X f (rI C fun i j=>.int (g i j)):=by
 intro pins s σ H x y v u Q I rx ry h;obtain⟨i,j,rfl,rfl,hc,q⟩:=h;obtain⟨t,rfl⟩:=rx;obtain⟨t',rfl⟩:=ry;exact rule i j t t' s _ _ hc ⟨.int (g i j),H,I.tok _,⟨_,rfl⟩,q⟩
theorem opI0{f:Value->Value->Sem Value}{g:Int->Int->Int}
  (rule:∀(i j:Int) (t u:Tok) (s:ς) (Q:Value->ς->Prop) (E:Value->ς->Prop),Q (.int (g i j) s.toks) { s with toks:=s.toks+1 }->gp (ik X.prog X.w) X.A (f (.int i t) (.int j u)) Q E s):
  OpR X f (rI0 fun i j=>.int (g i j)):=by
 intro pins s σ H x y v u Q I rx ry h;obtain⟨i,j,rfl,rfl,q⟩:=h;obtain⟨t,rfl⟩:=rx;obtain⟨t',rfl⟩:=ry;exact rule i j t t' s _ _ ⟨.int (g i j),H,I.tok _,⟨_,rfl⟩,q⟩
theorem opB0{f:Value->Value->Sem Value}{g:Int->Int->Bool}
  (rule:∀(i j:Int) (t u:Tok) (s:ς) (Q:Value->ς->Prop) (E:Value->ς->Prop),Q (.bool (g i j)) s->gp (ik X.prog X.w) X.A (f (.int i t) (.int j u)) Q E s):
  OpR X f (rI0 fun i j=>.bl (g i j)):=by
 intro pins s σ H x y v u Q I rx ry h;obtain⟨i,j,rfl,rfl,q⟩:=h;obtain⟨t,rfl⟩:=rx;obtain⟨t',rfl⟩:=ry;exact rule i j t t' s _ _ ⟨.bl (g i j),H,I,rfl,q⟩
def CDiv (i j:Int):Prop:=0<j/\j<1073741824
def CPow (i j:Int):Prop:=0<=j/\j<=1000000/\i.natAbs<2 ^ 64
def CMul (i j:Int):Prop:=(-(2 ^ 64)<i/\i<2 ^ 64)\/(-(2 ^ 64)<j/\j<2 ^ 64)
theorem CMul.ok(h:CMul i j):IntMulOk i j:=by
 rcases h with⟨h1,h2⟩|⟨h1,h2⟩
 ·exact .of_left (intBits_le_64 h1 h2)
 ·exact .of_right (intBits_le_64 h1 h2)
theorem qM:OpR X (qt .Add) (rI0 fun i j=>.int (i+j)):=opI0 fun _ _ _ _ _ _ _ q=>add_int q
theorem zY:OpR X (qt .Sub) (rI0 fun i j=>.int (i-j)):=opI0 fun _ _ _ _ _ _ _ q=>sub_int q
theorem yP:OpR X (qt .Mult) (rI CMul fun i j=>.int (i*j)):=opI fun _ _ _ _ _ _ _ hc q=>mul_int q hc.ok
theorem aNh:OpR X (qt .FloorDiv) (rI CDiv fun i j=>.int (i / j)):=opI fun i j _ _ _ _ _ hc q=>by
 have h1:(0:Int)<j:=hc.1;have h2:j<1073741824:=hc.2;exact floordiv_int (by omega) (by rw[Int.fdiv_eq_ediv_of_nonneg i (by omega)];exact q) (.inl (PyProof.noPylong_small (by omega)))
theorem yR:OpR X (qt .Mod) (rI (fun _ j=>0<j) fun i j=>.int (i % j)):=opI fun i j _ _ _ _ _ hc q=>by
 have h1:(0:Int)<j:=hc;exact mod_int' (by omega) (by rw[Int.fmod_eq_emod_of_nonneg i (by omega)];exact q)
theorem aLa:OpR X (qt .Pow) (rI CPow fun i j=>.int (i ^ j.toNat)):=opI fun _ _ _ _ _ _ _ hc q=>pow_int_small hc.1 hc.2.1 hc.2.2 q
theorem fM:OpR X (qt .LShift) (rI CPow fun i j=>.int (i*2 ^ j.toNat)):=opI fun _ _ _ _ _ _ _ hc q=>lshift_int_small hc.1 hc.2.1 hc.2.2 q
theorem unI{f:Value->Sem Value}{g:Int->Int}
  (rule:∀(i:Int) (t:Tok) (s:ς) (Q:Value->ς->Prop) (E:Value->ς->Prop),Q (.int (g i) s.toks) { s with toks:=s.toks+1 }->gp (ik X.prog X.w) X.A (f (.int i t)) Q E s):
  UnR X f (rU fun i=>.int (g i)):=by
 intro pins s σ H x v Q I rx h;obtain⟨i,rfl,q⟩:=h;obtain⟨t,rfl⟩:=rx;exact rule i t s _ _ ⟨.int (g i),H,I.tok _,⟨_,rfl⟩,q⟩
theorem cF:UnR X (unaryOp .USub) (rU fun i=>.int (-i)):=unI fun _ _ _ _ _ q=>neg_int q
end
def scal:V->V->Bool
 |.non,.non=>true | .non,.int _=>true | .int _,.non=>true | .non,.bl _=>true | .bl _,.non=>true | .non,.str _=>true | .str _,.non=>true
 |.int _,.int _=>true | .bl _,.bl _=>true | .str _,.str _=>true | .byt _,.byt _=>true
 |.int _,.str _=>true | .str _,.int _=>true | .bl _,.str _=>true | .str _,.bl _=>true
 |_,_=>false
inductive aPg (x:V) (y:V) (H:Hp) (Q:VK):Prop|mk:scal x y=true->Q (.bl (decide (x=y))) H->aPg x y H Q
def rEq:R2:=fun x y H Q=>aPg x y H Q
inductive aOl (x:V) (y:V) (H:Hp) (Q:VK):Prop|mk:scal x y=true->Q (.bl (!decide (x=y))) H->aOl x y H Q
def rNe:R2:=fun x y H Q=>aOl x y H Q
theorem aFx : decide (V.int i=V.int j)=(i == j):=by
 rw[qr];simp
theorem aJn : decide (V.bl i=V.bl j)=(i == j):=by
 rw[qr];simp
theorem aFp : decide (V.str i=V.str j)=(i == j):=by
 rw[qr];simp
theorem aEz : decide (V.byt i=V.byt j)=(i.toList == j.toList):=by
 rw[qr];cases i;cases j;simp
section
variable {X:Cx}{a b c:Expr}{ta tb tc:TE}{pos:Pos}
theorem qK{Q:VK}{k':Bool}(I:Inv X pins σ H s)(q:Q (.bl k) H)(e:k=k'):EP X pins σ Q (.bool k') s:=by
 subst e;exact⟨.bl k,H,I,rfl,q⟩
theorem qH:OpR X (kn .Eq) rEq:=by
 intro pins s σ H x y v u Q I rx ry h;obtain⟨hs,q⟩:=h;cases x with
 |non =>
  cases rx;cases y with
  |non=>cases ry;exact PySem.EqNone.eq_none_none (qK I q (by simp))
  |bl j=>cases ry;exact PySem.EqNone.eq_none_bool (qK I q (by simp))
  |int j=>obtain⟨t',rfl⟩:=ry;exact PySem.EqNone.eq_none_int (qK I q (by simp))
  |str j=>obtain⟨t',rfl⟩:=ry;exact PySem.EqNone.eq_none_str (qK I q (by simp))
  |_=>exact absurd (show false=true from hs) ο
 |bl i =>
  cases rx;cases y with
  |non=>cases ry;exact PySem.EqNone.eq_bool_none (qK I q (by simp))
  |bl j=>cases ry;exact eq_bool (qK I q aJn)
  |str j=>obtain⟨t',rfl⟩:=ry;exact PySem.EqMixed.eq_bool_str (qK I q (by simp))
  |_=>exact absurd (show false=true from hs) ο
 |int i =>
  obtain⟨t,rfl⟩:=rx;cases y with
  |non=>cases ry;exact PySem.EqNone.eq_int_none (qK I q (by simp))
  |int j=>obtain⟨t',rfl⟩:=ry;exact eq_int (qK I q aFx)
  |str j=>obtain⟨t',rfl⟩:=ry;exact PySem.EqMixed.eq_int_str (qK I q (by simp))
  |_=>exact absurd (show false=true from hs) ο
 |str i =>
  obtain⟨t,rfl⟩:=rx;cases y with
  |non=>cases ry;exact PySem.EqNone.eq_str_none (qK I q (by simp))
  |bl j=>cases ry;exact PySem.EqMixed.eq_str_bool (qK I q (by simp))
  |int j=>obtain⟨t',rfl⟩:=ry;exact PySem.EqMixed.eq_str_int (qK I q (by simp))
  |str j=>obtain⟨t',rfl⟩:=ry;exact eq_str (qK I q aFp)
  |_=>exact absurd (show false=true from hs) ο
 |byt i =>
  obtain⟨t,rfl⟩:=rx;cases y with
  |byt j=>obtain⟨t',rfl⟩:=ry;exact PySem.W.eq_bytes (qK I q aEz)
  |_=>exact absurd (show false=true from hs) ο
 |_=>cases y <;> exact absurd (show false=true from hs) ο
theorem lV:OpR X (kn .NotEq) rNe:=by
 intro pins s σ H x y v u Q I rx ry h;obtain⟨hs,q⟩:=h;cases x with
 |non =>
  cases rx;cases y with
  |non=>cases ry;exact PySem.EqNone.ne_none_none (qK I q (by simp))
  |bl j=>cases ry;exact PySem.EqNone.ne_none_bool (qK I q (by simp))
  |int j=>obtain⟨t',rfl⟩:=ry;exact PySem.EqNone.ne_none_int (qK I q (by simp))
  |str j=>obtain⟨t',rfl⟩:=ry;exact PySem.EqNone.ne_none_str (qK I q (by simp))
  |_=>exact absurd (show false=true from hs) ο
 |bl i =>
  cases rx;cases y with
  |non=>cases ry;exact PySem.EqNone.ne_bool_none (qK I q (by simp))
  |bl j=>cases ry;exact ne_bool (qK I q (congrArg not aJn))
  |str j=>obtain⟨t',rfl⟩:=ry;exact PySem.EqMixed.ne_bool_str (qK I q (by simp))
  |_=>exact absurd (show false=true from hs) ο
 |int i =>
  obtain⟨t,rfl⟩:=rx;cases y with
  |non=>cases ry;exact PySem.EqNone.ne_int_none (qK I q (by simp))
  |int j=>obtain⟨t',rfl⟩:=ry;exact ne_int (qK I q (congrArg not aFx))
  |str j=>obtain⟨t',rfl⟩:=ry;exact PySem.EqMixed.ne_int_str (qK I q (by simp))
  |_=>exact absurd (show false=true from hs) ο
 |str i =>
  obtain⟨t,rfl⟩:=rx;cases y with
  |non=>cases ry;exact PySem.EqNone.ne_str_none (qK I q (by simp))
  |bl j=>cases ry;exact PySem.EqMixed.ne_str_bool (qK I q (by simp))
  |int j=>obtain⟨t',rfl⟩:=ry;exact PySem.EqMixed.ne_str_int (qK I q (by simp))
  |str j=>obtain⟨t',rfl⟩:=ry;exact ne_str (qK I q (congrArg not aFp))
  |_=>exact absurd (show false=true from hs) ο
 |byt i =>
  obtain⟨t,rfl⟩:=rx;cases y with
  |byt j=>obtain⟨t',rfl⟩:=ry;exact PySem.W.ne_bytes (qK I q (congrArg not aEz))
  |_=>exact absurd (show false=true from hs) ο
 |_=>cases y <;> exact absurd (show false=true from hs) ο
theorem iE:OpR X (kn .Lt) (rI0 fun i j=>.bl (decide (i<j))):=opB0 fun _ _ _ _ _ _ _ q=>lt_int q
theorem dL:OpR X (kn .LtE) (rI0 fun i j=>.bl (decide (i<=j))):=opB0 fun _ _ _ _ _ _ _ q=>le_int q
theorem eW:OpR X (kn .Gt) (rI0 fun i j=>.bl (decide (j<i))):=opB0 fun _ _ _ _ _ _ _ q=>gt_int q
theorem aGh:OpR X (kn .In) (fun x y H Q=>∃i j,x=.str i/\y=.str j/\Q (.bl (!(om j i 0 j.length 1).isEmpty)) H):=by
 intro pins s σ H x y v u Q I rx ry h;obtain⟨i,j,rfl,rfl,q⟩:=h;obtain⟨t,rfl⟩:=rx;obtain⟨t',rfl⟩:=ry;exact in_str (qK I q rfl)
theorem aEs:OpR X (kn .IsNot) (fun x y H Q=>y=.non/\Q (.bl (!decide (x=.non))) H):=by
 intro pins s σ H x y v u Q I rx ry h;obtain⟨rfl,q⟩:=h;cases ry;refine isnot_none_gen (qK I q ?_);cases x <;> first
  | (cases rx;rfl)
  | (obtain⟨t,rfl⟩:=rx;rfl)
theorem OpR.or{r r':R2}(h:OpR X f r)(h':OpR X f r'):OpR X f (fun x y H Q=>r x y H Q\/r' x y H Q):=by
 intro pins s σ H x y v u Q I rx ry q;rcases q with q|q
 ·exact h pins s σ H x y v u Q I rx ry q
 ·exact h' pins s σ H x y v u Q I rx ry q
theorem vV(b:Expr){op:CmpOp}(h:op≠.In:=by decide)(h2:op≠.NotIn:=by decide):uu op b=false:=by
 have e1:(op == CmpOp.In)=false:=by cases op <;> first|rfl|exact absurd rfl h
 have e2:(op == CmpOp.NotIn)=false:=by cases op <;> first|rfl|exact absurd rfl h2
 cases b <;> simp[uu,e1,e2]
theorem qT(ho:OpR X (kn op) r)(ha:PE X a ta)(hb:PE X b tb)(hm:uu op b=false):PE X (.Compare a [op] [b] pos) (tOp r ta tb):=by
 intro pins s σ H Q I h;exact wpAny_Compare1 (binT ha hb I h fun v u s2 x y H2 I2 rx ry q=>ho pins s2 σ H2 x y v u Q I2 rx ry q) hm
inductive aEn (Q:Bool->Hp->Prop) (x:V) (H':Hp):Prop|mk:∀k,x=.bl k->Q k H'->aEn Q x H'
def aJb (t:TE):TT:=fun σ H Q=>t σ H fun x H'=>aEn Q x H'
theorem nC(ho:OpR X (kn op) r)(ha:PE X a ta)(hb:PE X b tb)(hm:uu op b=false):PT X (.Compare a [op] [b] pos) (aJb (tOp r ta tb)):=by
 intro pins s σ H Q I h;refine wpAny_isTrue_Compare1 (thn (ha pins s σ H _ I h) fun v s1 zq=>zq.el fun x H1 I1 r1 q1=>thn (hb pins s1 σ H1 _ I1 q1) fun u s2 zq=>zq.el fun y H2 I2 r2 q2=>
  thn (ho pins s2 σ H2 x y v u _ I2 r1 r2 q2) fun c s3 ⟨z,H3,I3,r3,k,e,q3⟩=>?_) hm
 subst e;cases r3;exact kg ⟨H3,I3,q3⟩
def aLi (r r':R2) (ta tb tc:TE):TE:=fun σ H Q=>ta σ H fun x H1=>tb σ H1 fun y H2=>r x y H2 fun z H3=>∃k,z=.bl k ∧
 (if k=true then tc σ H3 fun w' H4=>r' y w' H4 Q else Q (.bl false) H3)
theorem gP(ho:OpR X (kn op) r)(ho':OpR X (kn op') r')(ha:PE X a ta)(hb:PE X b tb)(hc:PE X c tc)
  (hm:lastMarks [op,op'] [b,c]=false:=by with_unfolding_all rfl):PE X (.Compare a [op,op'] [b,c] pos) (aLi r r' ta tb tc):=by
 intro pins s σ H Q I h;refine Compare_chain (thn (ha pins s σ H _ I h) fun v s1 zq=>zq.el fun x H1 I1 r1 q1=>chain_link (thn (hb pins s1 σ H1 _ I1 q1) fun u s2 zq=>zq.el fun y H2 I2 r2 q2=>
  thn (ho pins s2 σ H2 x y v u _ I2 r1 r2 q2) fun d s3 ⟨z,H3,I3,r3,k,e,q3⟩=>?_)) hm
 subst e;cases r3;refine kg ?_;cases k with
 |false=>exact ite_ff ⟨.bl false,H3,I3,rfl,q3⟩
 |true=>exact ite_tt (chain_last (thn (hc pins s3 σ H3 _ I3 q3) fun w' s4 zq=>zq.el fun z' H4 I4 r4 q4=>ho' pins s4 σ H4 y z' u w' Q I4 r2 r4 q4))
theorem aAs(ho:OpR X (kn op) r)(ho':OpR X (kn op') r')(ha:PE X a ta)(hb:PE X b tb)(hc:PE X c tc)
  (hm:lastMarks [op,op'] [b,c]=false:=by with_unfolding_all rfl):PT X (.Compare a [op,op'] [b,c] pos) (aJb (aLi r r' ta tb tc)):=by
 intro pins s σ H Q I h;refine isTrue_chain (thn (ha pins s σ H _ I h) fun v s1 zq=>zq.el fun x H1 I1 r1 q1=>test_link (thn (hb pins s1 σ H1 _ I1 q1) fun u s2 zq=>zq.el fun y H2 I2 r2 q2=>
  thn (ho pins s2 σ H2 x y v u _ I2 r1 r2 q2) fun d s3 ⟨z,H3,I3,r3,k,e,q3⟩=>?_)) hm
 subst e;cases r3;refine kg ?_;cases k with
 |false =>
  obtain⟨k',e',q'⟩:=q3;cases e';exact ite_ff ⟨H3,I3,q'⟩
 |true =>
  refine ite_tt (test_last (thn (hc pins s3 σ H3 _ I3 q3) fun w' s4 zq=>zq.el fun z' H4 I4 r4 q4=>thn (ho' pins s4 σ H4 y z' u w' _ I4 r2 r4 q4) fun d' s5 zq=>?_));obtain⟨z2,H5,I5,r5,k2,e2,q5⟩:=zq;subst e2;cases r5;exact kg ⟨H5,I5,q5⟩
def TruV (K:Δ) (x:V) (H:Hp) (k:Bool):Prop :=
 match x with
 |.non=>k=false
 |.bl b=>k=b
 |.int i=>k=(i != 0)
 |.str y=>y.length<=χ/\k=((y.length:Int) != 0)
 |.byt y=>y.size<=χ/\k=((y.size:Int) != 0)
 |.ref p=>(∃xs,SqL K H p xs/\k = !xs.isEmpty)\/(∃xs,SqT K H p xs/\k = !xs.isEmpty)\/∃kvs,H p=some (.dK kvs)/\k = !kvs.isEmpty
 |_=>False
theorem aCi{κ : Type}{kvs:List (κ×V)}{vs:List (κ×Value)}(r:KV kvs vs):(!vs.isEmpty) = !kvs.isEmpty:=by
 cases r <;> rfl
theorem nT(r:kO xs its):(!its.toArray.isEmpty) = !xs.isEmpty:=by
 cases r <;> simp
theorem fT:(χ:Nat)<2 ^ 63:=by rw[ic];decide
theorem aPh:TruR X (fun x H Q=>∃k,TruV X.K x H k/\Q k H):=by
 intro pins s σ H x v Q I rx h;obtain⟨k,e,q⟩:=h;have hl:=fT;have hs:χ=16777216:=ic;cases x with
 |non =>
  cases rx;have e':k=false:=e;subst e';exact truthy_none ⟨H,I,q⟩
 |bl b =>
  cases rx;have e':k=b:=e;subst e';exact kg ⟨H,I,q⟩
 |int i =>
  obtain⟨t,rfl⟩:=rx;have e':k=(i != 0):=e;subst e';exact PySem.P.truthy_int ⟨H,I,q⟩
 |str y =>
  obtain⟨t,rfl⟩:=rx;obtain⟨hy,e'⟩ : y.length<=χ/\k=((y.length:Int) != 0):=e;subst e';exact PySem.P.truthy_str (by omega) ⟨H,I.tok _,q⟩
 |byt y =>
  obtain⟨t,rfl⟩:=rx;obtain⟨hy,e'⟩ : y.size<=χ/\k=((y.size:Int) != 0):=e;subst e';exact PySem.W.truthy_bytes (by omega) ⟨H,I.tok _,q⟩
 |ref p =>
  cases rx;have e':(∃xs,SqL X.K H p xs/\k = !xs.isEmpty)\/(∃xs,SqT X.K H p xs/\k = !xs.isEmpty)\/∃kvs,H p=some (.dK kvs)/\k = !kvs.isEmpty:=e;rcases e' with⟨xs,hx,e'⟩|⟨xs,hx,e'⟩|⟨kvs,hx,e'⟩
  ·subst e';obtain⟨its,r,pl,hz⟩:=I.list hx;have hlen:=r.length;exact wpAny_truthy_list pl.isList (by simp only[Ξ];omega) ⟨H,I.tok _,by rw[nT r];exact q⟩
  ·subst e';obtain⟨its,r,pl,hz⟩:=I.tuple hx;have hlen:=r.length;exact truthy_tuple pl (by simp only[Ξ];omega) ⟨H,I.tok _,by rw[nT r];exact q⟩
  ·subst e';obtain⟨hz,hS,vs,r,m⟩ : kvs.length<=χ/\(p == ja)=false/\∃vs,KV kvs vs/\s.heap.DictOf (kT X.prog X.w) p vs:=I.hok p _ hx;have hlen:kvs.length=vs.length:=wd r;exact wpAny_truthy_dict hS m (by omega) ⟨H,I.tok _,by rw[aCi r];exact q⟩
 |_=>exact(show False from e).elim
theorem dC(ha:PE X a ta)(he:∀whole,isTrue a X.env whole=(do let v ←whole;standAt a.pos;holding [v] (truthy v))):
  PT X a (fun σ H Q=>ta σ H fun x H'=>∃k,TruV X.K x H' k/\Q k H'):=by
 intro pins s σ H Q I h;exact isTrue_plain (thn (ha pins s σ H _ I h) fun v s1 zq=>zq.el fun x H1 I1 r1 q1=>aPh pins s1 σ H1 x v Q I1 r1 q1) (he _)
theorem qQ:OpR X (qt .Add) (fun x y H Q=>∃i j,x=.str i/\y=.str j/\i.length+j.length<=χ/\Q (.str (i++j)) H):=by
 intro pins s σ H x y v u Q I rx ry h;obtain⟨i,j,rfl,rfl,hz,q⟩:=h;obtain⟨t,rfl⟩:=rx;obtain⟨t',rfl⟩:=ry;exact add_str (fun t' tk=>⟨.str (i++j),H,I.tok _,⟨_,rfl⟩,q⟩) hz
theorem vals1{x:V}(r:kO [x] us):∃u,us=[u]/\RelV x u:=by
 cases r with
 |cons r1 r2=>cases r2;exact⟨_,rfl,r1⟩
theorem vals2{x y:V}(r:kO [x,y] us):∃u w',us=[u,w']/\RelV x u/\RelV y w':=by
 cases r with
 |cons r1 r2 =>
  cases r2 with
  |cons r3 r4=>cases r4;exact⟨_,_,rfl,r1,r3⟩
theorem rQ(hc:X.calm=true):vD X (.builtin "max") (fun xs H Q=>∃i j,xs=[.int i,.int j]/\Q (.int (if j > i then j else i)) H):=by
 intro pins s σ H xs us Q I r h;obtain⟨i,j,rfl,q⟩:=h;obtain⟨u,w',rfl,⟨t,rfl⟩,⟨t',rfl⟩⟩:=vals2 r;refine max_two_ints (I.ok.hd hc) fun h' tk k=>⟨_,H,I.kept k,?_,q⟩
 by_cases hj:j > i
 ·rw[if_pos hj,if_pos hj];exact⟨_,rfl⟩
 ·rw[if_neg hj,if_neg hj];exact⟨_,rfl⟩
theorem sS(hc:X.calm=true):vD X (.builtin "min") (fun xs H Q=>∃i j,xs=[.int i,.int j]/\Q (.int (if j<i then j else i)) H):=by
 intro pins s σ H xs us Q I r h;obtain⟨i,j,rfl,q⟩:=h;obtain⟨u,w',rfl,⟨t,rfl⟩,⟨t',rfl⟩⟩:=vals2 r;refine min_two_ints (I.ok.hd hc) fun h' tk k=>⟨_,H,I.kept k,?_,q⟩
 by_cases hj:j<i
 ·rw[if_pos hj,if_pos hj];exact⟨_,rfl⟩
 ·rw[if_neg hj,if_neg hj];exact⟨_,rfl⟩
theorem bR:vD X (.type "str") (fun xs H Q=>∃i,xs=[.int i]/\i.natAbs.log2<1920/\Q (.str (toString i)) H):=by
 intro pins s σ H xs us Q I r h;obtain⟨i,rfl,hz,q⟩:=h;obtain⟨u,rfl,t,rfl⟩:=vals1 r;exact PySem.P.str_of_int hz ⟨.str _,H,I.tok _,⟨_,rfl⟩,q⟩
def LenV (K:Δ) (x:V) (H:Hp) (n:Nat):Prop :=
 match x with
 |.str y=>y.length<=χ/\n=y.length
 |.byt y=>y.size<=χ/\n=y.size
 |.ref p=>(∃xs,SqL K H p xs/\n=xs.length)\/∃xs,SqT K H p xs/\n=xs.length
 |_=>False
theorem aAf:vD X (.builtin "len") (fun xs H Q=>∃x n,xs=[x]/\LenV X.K x H n/\Q (.int n) H):=by
 intro pins s σ H xs us Q I r h;obtain⟨x,n,rfl,e,q⟩:=h;obtain⟨u,rfl,rx⟩:=vals1 r;have hl:=fT;have hs:χ=16777216:=ic;cases x with
 |str y =>
  obtain⟨t,rfl⟩:=rx;obtain⟨hy,e'⟩ : y.length<=χ/\n=y.length:=e;subst e';exact len_str (by omega) ⟨.int _,H,I.tok _,⟨_,rfl⟩,q⟩
 |byt y =>
  obtain⟨t,rfl⟩:=rx;obtain⟨hy,e'⟩ : y.size<=χ/\n=y.size:=e;subst e';exact PySem.W.len_bytes (by omega) ⟨.int _,H,I.tok _,⟨_,rfl⟩,q⟩
 |ref p =>
  cases rx;have e':(∃xs,SqL X.K H p xs/\n=xs.length)\/∃xs,SqT X.K H p xs/\n=xs.length:=e;rcases e' with⟨xs,hx,e'⟩|⟨xs,hx,e'⟩
  ·subst e';obtain⟨its,r',pl,hz⟩:=I.list hx;have hlen:=r'.length;exact Calls.call_len_list pl.isList (by simp only[Ξ];omega) ⟨.int xs.length,H,I.tok _,⟨_,by simp only[Ξ];rw[hlen]⟩,q⟩
  ·subst e';obtain⟨its,r',pl,hz⟩:=I.tuple hx;have hlen:=r'.length;exact len_tuple pl (by simp only[Ξ];omega) ⟨.int xs.length,H,I.tok _,⟨_,by simp only[Ξ];rw[hlen]⟩,q⟩
 |_=>exact(show False from e).elim
end
structure aEa (h:kq) (x dx C:Addr) (mA:Str->Option Value):Prop where
 obj:h.get? x=some (qq C dx)
 ns:h.Ns1 dx mA
 ne:dx≠x
theorem aGz{h:kq}{mA:Str->Option Value}(n:h.Ns1 dx mA):∃od,h.get? dx=some od/\∀name,PySem.W.lookIn name od=some (mA name):=by
 obtain⟨o,es,ep,ho,hd,hk,_,hm⟩:=n;refine⟨o,ho,fun name=>?_⟩;have e:=hm name;unfold nsFind findBy at e;rw[←Array.find?_toList]at e;unfold PySem.W.lookIn;rw[hd];dsimp only
 split
 ·rename_i y q;rw[q]at e;exact congrArg some e
 ·rename_i q;rw[q]at e;have a:es.toList.any (·.refKey)=false:=by
   rw[List.any_eq_false];intro y hy;obtain⟨z,t,hkey⟩:=hk y (vd.mp hy);simp[vj.refKey,hkey]
  have a':¬ es.toList.any (·.refKey)=true:=by rw[a];exact ο
  rw[if_neg a'];exact congrArg some e
theorem aEa.look{mA:Str->Option Value}(I:aEa h x dx C mA):∃od,PySem.W.InstAt h x (qq C dx) C (some od)/\∀name,PySem.W.lookIn name od=some (mA name) :=
 let ⟨od,ho,hl⟩:=aGz I.ns
 ⟨od,⟨I.obj,rfl,rfl,ho⟩,hl⟩
section
variable {prog:io}{w:jl}{A:km}{E:Value->ς->Prop}{s:ς}{K:Δ}{x dx C f:Addr}{mA:Str->Option Value}{name:Str}{v:Value}
theorem aNm{Q:Value->ς->Prop}(X:K.In s.heap)(I:aEa s.heap x dx C mA)(hg:yc K C name=true)(hh:PySem.W.hasDictIn K C=true)
  (ha:sf K (.ref C) name=some none)(hv:mA name=some v)(hv':PySem.W.handedIn v=true)(h:Q v { s with toks:=s.toks+1 }):
  gp (ik prog w) A (getAttr (.ref x) name expr) Q E s:=by
 obtain⟨od,J,hl⟩:=I.look;exact PySem.W.get_value X J (PySem.W.plainGet_of hg).1 (PySem.W.findObj_own hh ha rfl (by rw[hl,hv])) hv' h
theorem aKy{Q:Value×List Value->ς->Prop}(X:K.In s.heap)(I:aEa s.heap x dx C mA)(hg:yc K C name=true)
  (hf:sf K (.ref C) name=some (some (.ref f)))(ht:isFn K (.ref f)=true)(hv:mA name=none)(h:Q (.ref f,[.ref x]) s):
  gp (ik prog w) A (getMethod (.ref x) name pl) Q E s:=by
 obtain⟨od,J,hl⟩:=I.look;exact PySem.W.method_fn X J (PySem.W.plainGet_of hg).1 (PySem.W.plainGet_of hg).2 hf (beq_iff_eq.mp ht) (by show(PySem.W.lookIn name od).map (·.isSome)=some false;rw[hl,hv];rfl) h
theorem aNy{Q:Unit->ς->Prop}(X:K.In s.heap)(I:aEa s.heap x dx C mA)
  (hs:sf K (.ref C) "__setattr__" = some (some (.builtin "object.__setattr__")))(hp:PySem.W.plainOver K C=true)(ht:PySem.W.takerIn K C name=some none)(hh:PySem.W.hasDictIn K C=true)
  (hw:PySem.Within mA ns)(hsz:ns.length<=χ)
  (h:∀h',aEa h' x dx C (fun y=>if y=name then some v else mA y)->qc dx s.heap h'->Q () { s with heap:=h',toks:=s.toks+2 }):
  gp (ik prog w) A (setAttr (.ref x) name v) Q E s:=by
 obtain⟨od,J,hl⟩:=I.look;refine PySem.W.set_plain X J hs (PySem.W.osa_open (s:={ s with toks:=s.toks+1 }) (r:=none) X J hp ht fun b=>?_);obtain⟨cd,hc,hd'⟩:=PySem.W.any_some hh;have hx:s.heap.get? x=some ⟨.ref C,some dx,.plain,#[]⟩:=I.obj;refine ε (π (ε (ε (wpAny_loadPart hx (ε (PySem.W.Looks.here (s:={ s with toks:=s.toks+1 }) (PySem.W.looks_clsIn X hc) ?_))))));rw[hd'];refine π (a:=some dx) (ε (π (ε ?_)));refine wpAny_nsSet1 (s:={ s with toks:=s.toks+1 }) I.ns fun h' hn2 hs2=>?_;obtain⟨oD,esD,epD,hoD,hdD,hcD⟩:=hn2.count (PySem.Within.cons name v hw);refine ε (wpAny_lookBehind hoD (by rw[hdD];exact pastItsLine_dict (Ψ hcD (by rw[gj];omega))) ?_);exact π (h _ ⟨(hs2.2 _ (kh I.ne)).trans I.obj,hn2,I.ne⟩ hs2)
theorem aKz{vs:List Value}{kw:List (Str×Value)}(X:K.In s.heap)(hm:PySem.W.makesIn K C=true)
  (hi:sf K (.ref C) "__init__" = some (some (.ref f)))(hf:PySem.W.typeIn K (.ref f)=some (.type "function"))
  (h:codeAny (ik prog w) (A.under (.builtin "type.__call__" ⟨.ref C::vs,kw⟩)) (.call (.ref f) ⟨.ref (s.heap.objs.size+1)::vs,kw⟩) (PySem.W.InitBack (s.heap.objs.size+1) R)
   { s with heap:=(s.heap.push PySem.W.emptyDict).push (qq C s.heap.objs.size) }):
  codeAny (ik prog w) A (.call (.ref C) ⟨vs,kw⟩) R s:=by
 obtain⟨hh,g,d,t,os⟩:=s;exact PySem.W.make_core (PySem.W.makes_of X hm) (PySem.W.looks_findIn X hi) (fun self=>PySem.W.bind_fn X self hf) (.inl rfl) h
end
def cE (f:Str) (v:V):List (Str×V)->List (Str×V)
 |[]=>[(f,v)]
 | (g,x)::r=>if g=f then (g,v)::r else (g,x)::cE f v r
theorem lT(f g:Str)(v:V):∀fs:List (Str×V),(cE f v fs).lookup g=if g=f then some v else fs.lookup g
 |[]=>by
  show wz g [(f,v)]=_
  by_cases h:g=f
  ·have hb:(g == f)=true:=beq_iff_eq.mpr h;simp only[wz,hb,if_pos h]
  ·have hb:(g == f)=false:=beq_eq_false_iff_ne.mpr h;simp only[wz,hb,if_neg h]
 | (k,x)::r=>by
  have ih:=lT f g v r;rw[show cE f v ((k,x)::r)=(if k=f then (k,v)::r else (k,x)::cE f v r) from rfl]
  by_cases hk:k=f
  ·rw[if_pos hk]
   by_cases h:g=k
   ·have hb:(g == k)=true:=beq_iff_eq.mpr h;simp only[wz,hb,if_pos (h.trans hk)]
   ·have hb:(g == k)=false:=beq_eq_false_iff_ne.mpr h;simp only[wz,hb,if_neg (fun e:g=f=>h (e.trans hk.symm))]
  ·rw[if_neg hk]
   by_cases h:g=k
   ·have hb:(g == k)=true:=beq_iff_eq.mpr h;simp only[wz,hb,if_neg (fun e:g=f=>hk (h.symm.trans e))]
   ·have hb:(g == k)=false:=beq_eq_false_iff_ne.mpr h;simp only[wz,hb];exact ih
theorem iR(f:Str)(v:V):∀fs:List (Str×V),f∈(cE f v fs).map (·.1)/\∀g,g∈fs.map (·.1)->g∈(cE f v fs).map (·.1)
 |[]=>⟨by simp[cE],fun g h=>by simp at h⟩
 | (k,x)::r=>by
  obtain⟨i1,i2⟩:=iR f v r;rw[show cE f v ((k,x)::r)=(if k=f then (k,v)::r else (k,x)::cE f v r) from rfl]
  by_cases hk:k=f
  ·rw[if_pos hk];subst hk;exact⟨by simp,fun g h=>by simpa using h⟩
  ·rw[if_neg hk];refine⟨?_,fun g h=>?_⟩
   ·rw[jp];exact ρ _ i1
   ·rw[jp]at h ⊢;rcases υ.mp h with e|e
    ·exact υ.mpr (.inl e)
    ·exact ρ _ (i2 g e)
theorem mC(f:Str)(v:V):∀fs:List (Str×V),(cE f v fs).length<=fs.length+1
 |[]=>by simp[cE]
 | (k,x)::r=>by
  have ih:=mC f v r;rw[show cE f v ((k,x)::r)=(if k=f then (k,v)::r else (k,x)::cE f v r) from rfl]
  by_cases hk:k=f
  ·rw[if_pos hk,gj,gj];omega
  ·rw[if_neg hk,gj,gj];omega
theorem bS.some_of(r:bS (some v) o):∃u,o=some u/\RelV v u:=by
 cases o with
 |none=>exact(show False from r).elim
 |some u=>exact⟨u,rfl,r⟩
theorem bS.none_of(r:bS none o):o=none:=by
 cases o with
 |none=>rfl
 |some u=>exact(show False from r).elim
theorem aGq(r:RelV v u):PySem.W.handedIn u=true:=by
 cases v with
 |non=>cases (show u=mz from r);rfl
 |bl b=>cases (show u=Value.bool b from r);rfl
 |int i=>obtain⟨t,e⟩:=(show ∃t,u=Value.int i t from r);cases e;rfl
 |str x=>obtain⟨t,e⟩:=(show ∃t,u=Value.str x t from r);cases e;rfl
 |byt b=>obtain⟨t,e⟩:=(show ∃t,u=Value.bytes b t from r);cases e;rfl
 |flt b=>obtain⟨t,e⟩:=(show ∃t,u=Value.float b t from r);cases e;rfl
 |ref a=>cases (show u=jm a from r);rfl
 |ty n=>cases (show u=wn n from r);rfl
section
variable {P:io}{w:jl}{H H':Hp}{h h':kq}{a C dx:Addr}{fs fs':List (Str×V)}
theorem nI(hok:HOk P w H h)(e:H a=some (.ins C dx fs)):∃mA,aEa h a dx C mA/\(∀f,bS (fs.lookup f) (mA f))/\PySem.Within mA (fs.map (·.1))/\fs.length<=1000/\H dx=some (.own a):=by
 obtain⟨d,z,ne,ob,mA,n,r,q⟩:=(show qO P w H h a (.ins C dx fs) from hok a _ e);exact⟨mA,⟨ob,n,ne⟩,r,q,z,d⟩
end
structure Cls (K:Δ) (C:Addr):Prop where
 pg:yc K C Str.empty=true
 hd:PySem.W.hasDictIn K C=true
 po:PySem.W.plainOver K C=true
 sa:sf K (.ref C) "__setattr__" = some (some (.builtin "object.__setattr__"))
theorem Cls.get{K:Δ}(c:Cls K C)(f:Str):yc K C f=true:=c.pg
def yX (K:Δ) (C:Addr) (f:Str):Prop:=sf K (.ref C) f=some none
theorem yX.taker{K:Δ}(n:yX K C f):PySem.W.takerIn K C f=some none:=by
 unfold PySem.W.takerIn;rw[show sf K (.ref C) f=some none from n];rfl
structure Meth (K:Δ) (C:Addr) (m:Str) (f:Addr):Prop where
 at_:sf K (.ref C) m=some (some (.ref f))
 fn:isFn K (.ref f)=true
 kp:keepIn K (.ref f)=true
section
variable {X:Cx}{pins:List (Addr×Obj)}{σ:St}{H:Hp}{s:ς}{a C dx:Addr}{fs:List (Str×V)}{f:Str}{v:V}{A:km}{E:Value->ς->Prop}
theorem aDx{Q:Value->ς->Prop}(I:Inv X pins σ H s)(e:H a=some (.ins C dx fs))(c:Cls X.K C)(n:yX X.K C f)(l:fs.lookup f=some v)
  (h:∀u s',Inv X pins σ H s'->RelV v u->Q u s'):gp (ik X.prog X.w) A (getAttr (.ref a) f b) Q E s:=by
 obtain⟨mA,O,r,_,_,_⟩:=nI I.hok e;obtain⟨u,hu,ru⟩:=bS.some_of (v:=v) (o:=mA f) (by rw[←l];exact r f);exact aNm I.kIn O (c.get f) c.hd n hu (aGq ru) (h u _ (I.tok _) ru)
theorem gL{Q:Value×List Value->ς->Prop}(I:Inv X pins σ H s)(e:H a=some (.ins C dx fs))(c:Cls X.K C)(k:Meth X.K C m g)(l:fs.lookup m=none)
  (h:Q (.ref g,[.ref a]) s):gp (ik X.prog X.w) A (getMethod (.ref a) m pl) Q E s:=by
 obtain⟨mA,O,r,_,_,_⟩:=nI I.hok e;have hn:mA m=none:=bS.none_of (by rw[←l];exact r m);exact aKy I.kIn O (c.get m) k.at_ k.fn hn h
theorem aDd{Q:Unit->ς->Prop}(I:Inv X pins σ H s)(e:H a=some (.ins C dx fs))(c:Cls X.K C)(n:yX X.K C f)(hl:fs.length<1000)(ry:RelV y u)
  (h:∀s',Inv X pins σ (upd H a (.ins C dx (cE f y fs))) s'->Q () s'):gp (ik X.prog X.w) A (setAttr (.ref a) f u) Q E s:=by
 obtain⟨mA,O,r,wi,_,ho⟩:=nI I.hok e;have hz:(fs.map (·.1)).length<=χ:=by rw[δ,ic];omega
 refine aNy I.kIn O c.sa c.po n.taker c.hd wi hz fun h' O' sb=>h _ ?_;have hd:∃o,h'.get? dx=some o:=let ⟨o,_,_,e',_⟩:=O'.ns; ⟨o,e'⟩;refine I.write (x:=a) (e:=dx) (by rw[e];exact iu) (.inr ho) (fun b q hb z=>(sb.2 b hb).trans z) hd ?_;refine⟨by rw[jS O.ne];exact ho,?_,O.ne,O'.obj,_,O'.ns,fun g=>?_,fun g hg=>?_⟩
 ·have:=mC f y fs;omega
 ·show bS ((cE f y fs).lookup g) (if g=f then some u else mA g);rw[lT]
  by_cases q:g=f
  ·rw[if_pos q,if_pos q];exact ry
  ·rw[if_neg q,if_neg q];exact r g
 ·by_cases q:g=f
  ·rw[q];exact(iR f y fs).1
  ·refine(iR f y fs).2 g (wi g fun z=>hg ?_);show(if g=f then some u else mA g)=none;rw[if_neg q];exact z
theorem Inv.made(I:Inv X pins σ H s):Inv X pins σ (upd (upd H s.heap.objs.size (.own (s.heap.objs.size+1))) (s.heap.objs.size+1) (.ins C s.heap.objs.size []))
  { s with heap:=(s.heap.push PySem.W.emptyDict).push (qq C s.heap.objs.size) }:=by
 have e1:(s.heap.push PySem.W.emptyDict).get? s.heap.objs.size=some PySem.W.emptyDict:=gm s.heap rfl;have e2:((s.heap.push PySem.W.emptyDict).push (qq C s.heap.objs.size)).get? (s.heap.objs.size+1)=some (qq C s.heap.objs.size):=by
  have:=gm (s.heap.push PySem.W.emptyDict) (o:=qq C s.heap.objs.size) rfl
  rwa [rp]at this
 have e3:(s.heap.push PySem.W.emptyDict).Ns s.heap.objs.size (fun _=>none):=⟨PySem.W.emptyDict,#[],_,e1,rfl,(fun e he=>absurd he (by simp)),fun _=>rfl⟩;have I1:=I.laid (a:=s.heap.objs.size) (o:=.own (s.heap.objs.size+1)) (h':=s.heap.push PySem.W.emptyDict) (t':=s.toks) (fun b u q=>ω _ q) (μ _) ⟨_,e1⟩;refine I1.laid (a:=s.heap.objs.size+1) (o:=.ins C s.heap.objs.size []) (t':=s.toks) (fun b u q=>ω _ q) (Nat.le_of_eq (rp _ _)) ?_;have ne:s.heap.objs.size≠s.heap.objs.size+1:=ii (tu _);refine⟨by rw[jS ne,jR],gw _,ne,e2,fun _=>none,(kq.Ns1.of_empty e3).at fun o q=>ω _ q,fun _=>iu,fun y hy=>absurd rfl hy⟩
theorem aNb(hb:yi e f env (eval e env)=eval e env)
  (h:gp (ik prog w) A (eval e env) (fun o s₁=>gp (ik prog w) A (getAttr o f true) Q E s₁) E s):gp (ik prog w) A (eval (.Attribute e f pos) env) Q E s :=
 Attribute_any_ h (by rw[arm_eval_Attribute,hb])
end
inductive aJe (K:Δ) (f:Str) (Q:VK) (x:V) (H1:Hp):Prop|mk:∀a C dx fs v,x=.ref a->H1 a=some (.ins C dx fs)->Cls K C->yX K C f->fs.lookup f=some v->Q v H1->aJe K f Q x H1
def tFld (K:Δ) (ta:TE) (f:Str):TE:=fun σ H Q=>ta σ H fun x H1=>aJe K f Q x H1
def sFld (K:Δ) (ta tv:TE) (f:Str):TS:=fun D σ H=>tv σ H fun y H1=>ta σ H1 fun x H2=>∃a C dx fs,x=.ref a/\H2 a=some (.ins C dx fs)/\Cls K C/\yX K C f/\fs.length<1000 ∧
 D.nx σ (upd H2 a (.ins C dx (cE f y fs)))
section
variable {X:Cx}{o e value:Expr}{f:Str}{pos pos' tpos:Pos}{ta tv:TE}
theorem qN(he:PE X e ta)(hb:yi e f X.env (eval e X.env)=eval e X.env):PE X (.Attribute e f pos) (tFld X.K ta f):=by
 intro pins s σ H Q I h;refine aNb hb (thn (he pins s σ H _ I h) fun u s1 zq=>?_);obtain⟨x,H1,I1,rx,a,C,dx,fs,v,ex,ea,c,n,l,q⟩:=zq;subst ex;obtain rfl:u=jm a:=rx;exact aDx I1 ea c n l fun u' s2 I2 ru=>⟨v,H1,I2,ru,q⟩
theorem cT(ha:PE X o ta)(hv:PE X value tv)(hs:swapsWith value (some (.Attribute o f pos')) pos.line X.env=pure false):PS X (.Assign [.Attribute o f pos'] value pos) (sFld X.K ta tv f):=by
 intro pins s σ H D I h;refine plainObj_wpAny_Assign_Attribute (thn (hv pins s σ H _ I h) fun u s1 zq=>zq.el fun y H1 I1 ry q=>thn (ha pins s1 σ H1 _ I1 q) fun ov s2 zq=>?_) hs;obtain⟨x,H2,I2,rx,a,C,dx,fs,ex,ea,c,n,l,q2⟩:=zq;subst ex;obtain rfl:ov=jm a:=rx;exact aDd I2 ea c n l ry fun s3 I3=>⟨σ,_,I3,q2⟩
end
section
variable {X:Cx}{pins:List (Addr×Obj)}{σ:St}{H:Hp}{s:ς}{A:km}{E:Value->ς->Prop}{Q:Value->ς->Prop}{c:Value}{b:Bool}
inductive fU (K:Δ) (H:Hp):V->Value->Prop where
 |non:fU K H .non (.type "NoneType")
 |bl (x:Bool):fU K H (.bl x) (.type "bool")
 |int (i:Int):fU K H (.int i) (.type "int")
 |str (x:Str):fU K H (.str x) (.type "str")
 |flt (x:UInt64):fU K H (.flt x) (.type "float")
 |lst {a:Addr}{xs:List V}(e:H a=some (.lst xs)):fU K H (.ref a) (.type "list")
 |frz {a:Addr}{o:Obj}{xs:List V}(e:H a=some (.frz o (.lst xs))):fU K H (.ref a) (.type "list")
 |tup {a:Addr}{xs:List V}(e:H a=some (.tup xs)):fU K H (.ref a) (.type "tuple")
 |dK {a:Addr}{kvs:List (Key×V)}(e:H a=some (.dK kvs)):fU K H (.ref a) (.type "dict")
 |dT {a:Addr}{kvs:List (List Key×V)}(e:H a=some (.dT kvs)):fU K H (.ref a) (.type "dict")
 |ins {a C dx:Addr}{fs:List (Str×V)}(e:H a=some (.ins C dx fs)) (cl:Cls K C) (ha:sf K (.ref C) "__class__" = some (some (.builtin "object.__class__")))
   (hn:PySem.W.specialIn K (.builtin "object.__class__") "__get__" = some (some (.builtin "getset_descriptor.__get__"))) (htk:PySem.W.takesIn K (.builtin "object.__class__")=some true)
   (hm:we K C (.type "object")=some true):fU K H (.ref a) (.ref C)
theorem aGi(I:Inv X pins σ H s)(rx:RelV x u)(ty:fU X.K H x t)(e:jy X.K t c=some b)(h:∀tk,Q (.bool b) { s with toks:=tk }):
  gp (ik X.prog X.w) A (call (.builtin "isinstance") [u,c]) Q E s:=by
 cases ty with
 |non=>cases (show u=mz from rx);exact mx PySem.W.kitx_none I.kIn iu e (fun z=>nomatch z) h
 |bl y=>cases (show u=Value.bool y from rx);exact mx PySem.W.kitx_bool I.kIn iu e (fun z=>nomatch z) h
 |int i=>obtain⟨t,q⟩:=(show ∃t,u=Value.int i t from rx);cases q;exact mx PySem.W.kitx_int I.kIn iu e (fun z=>nomatch z) h
 |str y=>obtain⟨t,q⟩:=(show ∃t,u=Value.str y t from rx);cases q;exact mx PySem.W.kitx_str I.kIn iu e (fun z=>nomatch z) h
 |flt y=>obtain⟨t,q⟩:=(show ∃t,u=Value.float y t from rx);cases q;exact mx PySem.W.kitx_float I.kIn iu e (fun z=>nomatch z) h
 | @lst a xs ea =>
  cases (show u=jm a from rx);obtain⟨_,_,n,_,h1⟩:=(show qO X.prog X.w H s.heap a (.lst xs) from I.hok a _ ea);exact mx PySem.W.kitx_list I.kIn ⟨_,h1,rfl⟩ e (fun z=>nomatch z) h
 | @frz a ob xs ea =>
  cases (show u=jm a from rx);obtain⟨_,_,_,n,_,h1⟩:=(show qO X.prog X.w H s.heap a (.frz ob (.lst xs)) from I.hok a _ ea);exact mx PySem.W.kitx_list I.kIn ⟨_,h1,rfl⟩ e (fun z=>nomatch z) h
 | @tup a xs ea =>
  cases (show u=jm a from rx);obtain⟨_,_,_,p⟩:=(show qO X.prog X.w H s.heap a (.tup xs) from I.hok a _ ea);obtain⟨o,h1,h2,_⟩:=p;exact mx PySem.W.kitx_tuple I.kIn ⟨o,h1,h2⟩ e (fun z=>nomatch z) h
 | @dK a kvs ea =>
  cases (show u=jm a from rx);obtain⟨_,_,vs,_,p⟩:=(show qO X.prog X.w H s.heap a (.dK kvs) from I.hok a _ ea);obtain⟨o,es,ep,h1,h2,_⟩:=p;exact mx PySem.W.kitx_dict I.kIn ⟨o,h1,h2.1⟩ e (fun z=>nomatch z) h
 | @dT a kvs ea =>
  cases (show u=jm a from rx);obtain⟨_,_,xs,_,o,es,ep,h1,h2,_⟩:=(show qO X.prog X.w H s.heap a (.dT kvs) from I.hok a _ ea);exact mx PySem.W.kitx_dict I.kIn ⟨o,h1,h2.1⟩ e (fun z=>nomatch z) h
 | @ins a C dx fs ea cl ha hn htk hm =>
  cases (show u=jm a from rx);obtain⟨mA,O,_⟩:=nI I.hok ea;obtain⟨od,J,_⟩:=O.look;exact mx (PySem.W.kitx_own (cl.get _) cl.hd ha hn htk hm) I.kIn J e (fun z=>nomatch z) h
end
structure xG (k:Nat) (A:km):Prop where
 hd:A.handled=none
 dp:A.depth+3*k+5<recursionLimit
 un:A.units+16*k+200<pw
 gd:A.guards=some []
theorem xG.mono{j:Nat}(r:xG k A)(h:j<=k):xG j A:=⟨r.hd,by have:=r.dp;omega,by have:=r.un;omega,r.gd⟩
theorem xG.deeper{k:Nat}(r:xG (k+1) A)(env:Env):xG k (A.deeper env) :=
 ⟨r.hd,by have:=r.dp;show A.depth+1+3*k+5<_;omega,by have:=r.un;show A.units+3+16*k+200<_;omega,r.gd⟩
theorem xG.in1{k:Nat}(r:xG (k+1) A):xG k A.in1 :=
 ⟨r.hd,by have:=r.dp;show A.depth+3*k+5<_;omega,by have:=r.un;show A.units+1+16*k+200<_;omega,r.gd⟩
theorem aDq{A:km}{us:List Value}{kw:List (Str×Value)}: (A.under (.builtin "type.__call__" ⟨.ref C::us,kw⟩)).depth=A.depth+1:=by
 first|rfl|simp[km.under,Code.weight,Code.isCreation,Code.isGuard,Code.isCaller,Code.frames,Code.isFrame,guardIds]
theorem aDr{A:km}{us:List Value}{kw:List (Str×Value)}: (A.under (.builtin "type.__call__" ⟨.ref C::us,kw⟩)).units=A.units+1:=by
 first|rfl|simp[km.under,Code.cUnits,Code.frames,Code.isFrame]
theorem wY{A:km}{us:List Value}{kw:List (Str×Value)}: (A.under (.builtin "type.__call__" ⟨.ref C::us,kw⟩)).guards=A.guards:=by
 have hg:guardIds.contains "type.__call__" = false:=by ac_rfl
 have e:Code.guards (.builtin "type.__call__" ⟨.ref C::us,kw⟩)=[]:=by
  unfold Code.guards;rw[if_neg (fun z=>by rw[show Code.isGuard (.builtin "type.__call__" ⟨.ref C::us,kw⟩)=guardIds.contains "type.__call__" from rfl,hg]at z;cases z)]
 unfold km.under;rw[e];rfl
theorem xG.make{k:Nat}(r:xG (k+1) A)(C:Addr)(us:List Value)(kw:List (Str×Value)):xG k (A.under (.builtin "type.__call__" ⟨.ref C::us,kw⟩)) :=
 ⟨r.hd,by have:=r.dp;rw[aDq];omega,by have:=r.un;rw[aDr];omega,wY.trans r.gd⟩
theorem xG.depth(r:xG k A):A.depth<recursionLimit:=by have:=r.dp;omega
theorem xG.units(r:xG k A):A.units+64<pw:=by have:=r.un;omega
def aIe:TA:=fun _ H Q=>Q [] H
def aOk (ta:TE) (tr:TA):TA:=fun σ H Q=>ta σ H fun x H1=>tr σ H1 fun xs H2=>Q (x::xs) H2
section
variable {X:Cx}{e:Expr}{es:List Expr}{te:TE}{t:TA}{pos:Pos}
theorem jB:PA X [] aIe:=fun _ _ _ _ H Q I h=>Calls.spliced_nil ⟨[],H,I,.nil,h⟩
theorem jA(ha:PE X e te)(hr:PA X es t)(hs:ip (e::es) X.env=(false,eval e X.env)::ip es X.env:=by rfl):PA X (e::es) (aOk te t):=by
 intro pos pins s σ H Q I h;rw[hs];show gp _ _ (spliced ((false,eval e X.env)::vy pos (ip es X.env))) _ _ s;refine Calls.spliced_cons (thn (ha pins s σ H _ I h) fun u s1 zq=>?_);obtain⟨x,H1,I1,r1,q1⟩:=zq;exact thn (hr pos pins s1 σ H1 _ I1 q1) fun us s2 zq=>zq.el fun xs H2 I2 r2 q2=>⟨x::xs,H2,I2,.cons r1 r2,q2⟩
inductive aJz (Q:VK) (xs:List V) (H1:Hp):Prop|mk:xs.length<=χ->(∀p,H1 p=none->Q (.ref p) (upd H1 p (.tup xs)))->aJz Q xs H1
def tTup (t:TA):TE:=fun σ H Q=>t σ H fun xs H1=>aJz Q xs H1
inductive aKk (Q:VK) (xs:List V) (H1:Hp):Prop|mk:xs.length<=χ->(∀p,H1 p=none->Q (.ref p) (upd H1 p (.lst xs)))->aKk Q xs H1
def tLst (t:TA):TE:=fun σ H Q=>t σ H fun xs H1=>aKk Q xs H1
theorem kY{x1}(h:PA X es t):PE X (.Tuple es x1 pos) (tTup t):=by
 intro pins s σ H Q I hq;refine wpAny_Tuple_spliced (thn (h pos pins s σ H _ I hq) fun us s1 ⟨xs,H1,I1,r,z,q⟩=>⟨by rw[←r.length];exact z,?_⟩);have hf:H1 s1.heap.objs.size=none:=I1.hok.fresh (μ _);refine⟨.ref s1.heap.objs.size,upd H1 s1.heap.objs.size (.tup xs),I1.laid (t':=s1.toks) (fun b u e=>ω _ e) (μ _) ?_,rfl,q _ hf⟩;exact⟨z,us,r,⟨_,gm _ rfl,rfl,_,rfl⟩⟩
theorem qU(h:PA X es t):PE X (.List es pos) (tLst t):=by
 intro pins s σ H Q I hq;refine wpAny_List_spliced (thn (h pos pins s σ H _ I hq) fun us s1 ⟨xs,H1,I1,r,z,q⟩=>⟨by rw[←r.length];exact z,?_⟩);have hf:H1 s1.heap.objs.size=none:=I1.hok.fresh (μ _);refine⟨.ref s1.heap.objs.size,upd H1 s1.heap.objs.size (.lst xs),I1.laid (t':=s1.toks) (fun b u e=>ω _ e) (μ _) ?_,rfl,q _ hf⟩;exact⟨z,us,0,r,gm _ rfl⟩
end
abbrev Sp:=List V->Hp->VK->XK->Prop
abbrev CXT:=List Env->Hp->ς->XK->Value->ς->Prop
structure rF (P:io) (w:jl) (K:Δ) (mg:Str->Option Value) (base:kq) (A:km) (outer:List Env) (s:ς) (H:Hp):Prop where
 frames:A.frames=some outer
 mod:Mod K mg base
 bs:∀b o,base.get? b=some o->s.heap.get? b=some o/\H b=none
 bsz:base.objs.size<=s.heap.objs.size
 funs:s.heap.FunFrames base outer
 frf:∀b∈frs outer,H b=none
 hok:HOk P w H s.heap
 bare:AllBare s.gens
def CE (outer:List Env) (P:io) (w:jl) (H:Hp) (s:ς) (Q:VK) (u:Value) (s':ς):Prop :=
 ∃v H',s'.os=s.os/\AllBare s'.gens/\Un (frs outer) [] H H' s.heap s'.heap/\HOk P w H' s'.heap/\RelV v u/\Q v H'
def CR (CX:CXT) (outer:List Env) (P:io) (w:jl) (H:Hp) (s:ς) (Q:VK) (E:XK) (r:Result) (s':ς):Prop :=
 match r with
 |.ok (.ret u)=>CE outer P w H s Q u s'
 |.ok _=>False
 |.error e=>CX outer H s E e s'
structure kJ (P:io) (w:jl) (K:Δ) (mg:Str->Option Value) (base:kq) (CX:CXT) (k:Nat) (f:Addr) (fd:tw) (ps:List Str) (sp:Sp):Prop where
 len:∀vs H Q E,sp vs H Q E->vs.length=ps.length
 run:∀(A:km) (outer:List Env) (s:ς) (H:Hp) (args:Args) (us:List Value) (vs:List V) (Q:VK) (E:XK),xG k A->rF P w K mg base A outer s H->BindsTo s fd args (ps.zip us)->kO vs us->sp vs H Q E →
  codeAny (ik P w) A (.call (.ref f) args) (CR CX outer P w H s Q E) s
theorem kJ.mono{K:Δ}{k:Nat}(F:kJ P w K mg base CX j f fd ps sp)(h:j<=k):
  kJ P w K mg base CX k f fd ps sp:=⟨F.len,fun A outer s H args us vs Q E hr=>F.run A outer s H args us vs Q E (hr.mono h)⟩
theorem kJ.imp{K:Δ}{sp sp':Sp}(F:kJ P w K mg base CX k f fd ps sp)
  (h:∀vs H Q E,sp' vs H Q E->sp vs H Q E):kJ P w K mg base CX k f fd ps sp' :=
 ⟨fun vs H Q E q=>F.len vs H Q E (h _ _ _ _ q),fun A outer s H args us vs Q E hr he hb hv hs=>F.run A outer s H args us vs Q E hr he hb hv (h _ _ _ _ hs)⟩
theorem rF.make{K:Δ}(e:rF P w K mg base A outer s H)(C:Addr)(us:List Value)(kw:List (Str×Value)):
  rF P w K mg base (A.under (.builtin "type.__call__" ⟨.ref C::us,kw⟩)) outer s H:=⟨by first|exact e.frames|(simpa [km.under,Code.envs,Code.isFrame,pushEnvs] using e.frames),e.mod,e.bs,e.bsz,e.funs,e.frf,e.hok,e.bare⟩
theorem rF.in1{K:Δ}(e:rF P w K mg base A outer s H):
  rF P w K mg base A.in1 outer s H:=⟨e.frames,e.mod,e.bs,e.bsz,e.funs,e.frf,e.hok,e.bare⟩
section
variable {X:Cx}{pins:List (Addr×Obj)}{σ:St}{H:Hp}{s s':ς}
theorem Inv.env0(I:Inv X pins σ H s):rF X.prog X.w X.K X.mg X.base X.A X.stack s H :=
 ⟨I.ok.frames,I.ok.mod,I.bs,Ψ I.ok.bsz I.sz,I.stack,I.stkFree,I.hok,I.bare⟩
theorem Inv.after(I:Inv X pins σ H s)(h:CE X.stack X.prog X.w H s Q u s'):EP X pins σ Q u s':=by
 obtain⟨v,H',os,bare,un,hok,r,q⟩:=h;obtain⟨hh,g,d,t,os'⟩:=s';obtain rfl:os'=s.os:=os;exact⟨v,H',I.call (h':=hh) (g':=g) (d':=d) (t':=t) (ch:=[]) un hok bare (fun b z=>absurd z (by simp)),r,q⟩
end
def aJy (sp:Sp) (dvs:List V) (E:XK) (t:TA):TE:=fun σ H Q=>t σ H fun vs H1=>sp (vs++dvs) H1 Q E
def aOn (C:Addr) (m:Str) (sp:Sp) (dvs:List V) (E:XK) (ta:TE) (t:TA):TE:=fun σ H Q=>ta σ H fun x H1=>∃a dx fs,x=.ref a/\H1 a=some (.ins C dx fs)/\fs.lookup m=none ∧
 t σ H1 fun vs H2=>sp (x::(vs++dvs)) H2 Q E
def aOq (C:Addr) (sp:Sp) (dvs:List V) (E:XK) (t:TA):TE:=fun σ H Q=>t σ H fun vs H1=>∀x dx,H1 x=none->H1 dx=none->dx≠x →
 sp (.ref x::(vs++dvs)) (upd (upd H1 dx (.own x)) x (.ins C dx [])) (fun v H2=>v=.non/\Q (.ref x) H2) E
def Binds (K:Δ) (fd:tw) (ps:List Str) (ds:List Value):Prop :=
 ∀(s:ς) (us:List Value),K.In s.heap->(us++ds).length=ps.length->BindsTo s fd ⟨us,[]⟩ (ps.zip (us++ds))
theorem Binds.all{K:Δ}{ps:List Str}(h:∀us:List Value,us.length=ps.length->bindArgs fd ⟨us,[]⟩=pure (ps.zip us)):Binds K fd ps []:=fun s us _ hl=>by
 rw[mi]at hl ⊢;exact .of_eq (h us hl)
def zR (CX:CXT) (X:Cx) (E:XK):Prop:=∀(pins:List (Addr×Obj)) (σ:St) (H:Hp) (s:ς) (e:Value) (s':ς),Inv X pins σ H s->CX X.stack H s E e s'->X.xe e s'
section
variable {X:Cx}{CX:CXT}{k:Nat}{f C:Addr}{fd:tw}{ps:List Str}{sp:Sp}{dvs:List V}{ds:List Value}{E:XK}{x m:Str}{p pos apos:Pos}{e o:Expr}{es:List Expr}{ta:TE}{t:TA}
theorem tF{Q:VK}(F:kJ X.prog X.w X.K X.mg X.base CX k f fd ps sp)(hr:xG k X.A)(hb:Binds X.K fd ps ds)(hd:kO dvs ds)(hx:zR CX X E)
  (I:Inv X pins σ H s)(r:kO vs us)(h:sp (vs++dvs) H Q E):gp (ik X.prog X.w) X.A (call (.ref f) us) (EP X pins σ Q) X.xe s:=by
 have r2:kO (vs++dvs) (us++ds):=r.append hd;have hl:(us++ds).length=ps.length:=by rw[←r2.length];exact F.len _ _ _ _ h
 refine wpAny_call (codeAny_mono (F.run X.A X.stack s H ⟨us,[]⟩ (us++ds) (vs++dvs) Q E hr I.env0 (hb s us I.kIn hl) r2 h) fun r s' hq=>?_);cases r with
 |error e=>exact hx pins σ H s e s' I hq
 |ok fl =>
  cases fl with
  |ret u=>exact I.after hq
  |next=>exact kc hq
  |brk=>exact kc hq
  |cont=>exact kc hq
theorem aMl(F:kJ X.prog X.w X.K X.mg X.base CX k f fd ps sp)(hr:xG k X.A)(hg:Gl X x)(hm:X.mg x=some (.ref f))(hk:keepIn X.K (.ref f)=true)(hb:Binds X.K fd ps ds)(hd:kO dvs ds)(hx:zR CX X E)
  (ha:PA X (e::es) t)(hdb:(x == ("__debug__" : Str))=false:=by decide)(he:ip (e::es) X.env=(false,eval e X.env)::ip es X.env:=by rfl)(hpl:(vy pos (ip es X.env)).any (·.1)=false:=by rfl):
  PE X (.Call (.Name x p) (e::es) [] pos) (aJy sp dvs E t):=by
 intro pins s σ H Q I h;refine wq (sU I hg hm ?_ hdb);refine PySem.W.callWith_K (h₀:=X.base) I.ok.mod.kin hk (thn (ha pos pins s σ H _ I h) fun us s1 zq=>zq.el fun vs H1 I1 r q=>⟨I1.kIn,?_⟩) he hpl;exact tF F hr hb hd hx I1 r q
theorem aLk(he:PE X o ta)(c:Cls X.K C)(hm:Meth X.K C m f)(F:kJ X.prog X.w X.K X.mg X.base CX k f fd ps sp)(hr:xG k X.A)(hb:Binds X.K fd ps ds)(hd:kO dvs ds)(hx:zR CX X E)
  (ht:eval (.Call (.Attribute o m apos) [] [] pos) X.env=(do
   let ov ←eval o X.env
   standAt apos.atName
   let (f,first) ←holding [ov] (getMethod ov m pl)
   callWith pos f first (vy pos (ip [] X.env)) (backToKw pos (keywordEach [] X.env))):=by rfl):
  PE X (.Call (.Attribute o m apos) [] [] pos) (aOn C m sp dvs E ta aIe):=by
 intro pins s σ H Q I h;refine xr (pl:=pl) (thn (he pins s σ H _ I h) fun u s1 zq=>?_) ht;obtain⟨x,H1,I1,rx,a,dx,fs,ex,ea,l,q⟩:=zq;subst ex;obtain rfl:u=jm a:=rx;refine gL I1 ea c hm l ?_;exact PySem.W.callWith_K0 (first:=[.ref a]) I1.kIn hm.kp (tF (us:=[.ref a]) (vs:=[.ref a]) F hr hb hd hx I1 (.cons rfl .nil) q)
structure Mk (K:Δ) (C f:Addr):Prop where
 makes:PySem.W.makesIn K C=true
 init:sf K (.ref C) "__init__" = some (some (.ref f))
 fn:isFn K (.ref f)=true
 kp:keepIn K (.ref C)=true
theorem aJw{H:Hp}{Q:VK}(M:Mk X.K C f)(F:kJ X.prog X.w X.K X.mg X.base CX k f fd ps sp)(hr:xG (k+1) X.A)(hb:Binds X.K fd ps ds)(hd:kO dvs ds)
  (hx:zR CX X E)(I:Inv X pins σ H s)(r:kO vs us)
  (h:∀x dx,H x=none->H dx=none->dx≠x->sp (.ref x::(vs++dvs)) (upd (upd H dx (.own x)) x (.ins C dx [])) (fun v H2=>v=.non/\Q (.ref x) H2) E):
  gp (ik X.prog X.w) X.A (call (.ref C) us) (EP X pins σ Q) X.xe s:=by
 have hq:=h (s.heap.objs.size+1) s.heap.objs.size (I.hok.fresh (rj _)) (I.hok.fresh (μ _)) (ii (tu _));have I2:=Inv.made (C:=C) I;have r2:kO (V.ref (s.heap.objs.size+1)::(vs++dvs)) (jm (s.heap.objs.size+1)::(us++ds)):=.cons rfl (r.append hd);have hl:(jm (s.heap.objs.size+1)::us++ds).length=ps.length:=by
  have e:=r2.length;rw[F.len _ _ _ _ hq]at e;exact e.symm
 refine wpAny_call (aKz (f:=f) I.kIn M.makes M.init (beq_iff_eq.mp M.fn) (codeAny_mono (F.run _ X.stack _ _ ⟨jm (s.heap.objs.size+1)::us,[]⟩ (jm (s.heap.objs.size+1)::(us++ds)) _ _ E (hr.make C us [])
  (I2.env0.make C us []) (hb _ (jm (s.heap.objs.size+1)::us) I2.kIn hl) r2 hq) fun r s' hq'=>?_))
 cases r with
 |error e=>exact hx pins σ _ _ e s' I2 hq'
 |ok fl =>
  cases fl with
  |ret u =>
   obtain⟨v,H',I3,rv,ev,q3⟩:=I2.after hq';subst ev;exact⟨rv,⟨V.ref (s.heap.objs.size+1),H',I3,rfl,q3⟩⟩
  |next=>exact kc hq'
  |brk=>exact kc hq'
  |cont=>exact kc hq'
theorem aOe(M:Mk X.K C f)(F:kJ X.prog X.w X.K X.mg X.base CX k f fd ps sp)(hr:xG (k+1) X.A)(hg:Gl X x)(hm:X.mg x=some (.ref C))(hb:Binds X.K fd ps ds)(hd:kO dvs ds)(hx:zR CX X E)
  (ha:PA X (e::es) t)(hdb:(x == ("__debug__" : Str))=false:=by decide)(he:ip (e::es) X.env=(false,eval e X.env)::ip es X.env:=by rfl)(hpl:(vy pos (ip es X.env)).any (·.1)=false:=by rfl):
  PE X (.Call (.Name x p) (e::es) [] pos) (aOq C sp dvs E t):=by
 intro pins s σ H Q I h;refine wq (sU I hg hm ?_ hdb);refine PySem.W.callWith_K (h₀:=X.base) I.ok.mod.kin M.kp (thn (ha pos pins s σ H _ I h) fun us s1 zq=>zq.el fun vs H1 I1 r q=>⟨I1.kIn,?_⟩) he hpl;exact aJw M F hr hb hd hx I1 r q
end
structure jN (N P:List Str) (sc:Scope):Prop where
 kind:sc.kind=.function
 co:sc.isCoroutine=false
 gen:sc.isGenerator=false
 nd:N.Nodup
 pre:N.take P.length=P
 par:∀x∈P,sc.names.lookup x=some .local\/sc.names.lookup x=some .cell
 nofree:∀y∈sc.names,y.2≠.free
theorem sK{kindOf:Str->Option NameKind}{x:Str}: ∀{binds:List (Str×Value)}{m:Str->Option Value},(∀v,(x,v)∉binds)->bindL kindOf binds m x=m x
 |[],_,_=>rfl
 | (n,v)::r,m,h=>by
  unfold bindL;rw[sK fun w hw=>h w (ρ _ hw)]
  split
  ·have:x≠n:=by rintro rfl;exact h v ψ
   simp[this]
  ·rfl
theorem rX{kindOf:Str->Option NameKind}{x:Str}: ∀{binds:List (Str×Value)}{m:Str->Option Value},(∀v,(x,v)∉binds)->bindC kindOf binds m x=m x
 |[],_,_=>rfl
 | (n,v)::r,m,h=>by
  unfold bindC;rw[rX fun w hw=>h w (ρ _ hw)]
  split
  ·rfl
  ·have:x≠n:=by rintro rfl;exact h v ψ
   simp[this]
theorem sL{kindOf:Str->Option NameKind}: ∀{P:List Str}{vs:List Value}{i:Nat}{m:Str->Option Value},P.Nodup->P[i]?=some x->vs[i]?=some v->kindOf x=some .local →
  bindL kindOf (P.zip vs) m x=some v
 |[],_,_,_,_,h,_,_=>by simp at h
 |_::_,[],_,_,_,_,h,_=>by simp at h
 |p::P,w::vs,0,m,nd,h1,h2,hk=>by
  simp at h1 h2;subst h1;subst h2;show bindL kindOf ((p,w)::P.zip vs) m p=_;unfold bindL;rw[sK fun v hv=>(jh.mp nd).1 (List.of_mem_zip hv).1,if_pos hk];simp
 |p::P,w::vs,i+1,m,nd,h1,h2,hk=>by
  show bindL kindOf ((p,w)::P.zip vs) m x=_;unfold bindL;exact sL (i:=i) (jh.mp nd).2 (by simpa using h1) (by simpa using h2) hk
theorem rO{kindOf:Str->Option NameKind}: ∀{P:List Str}{vs:List Value}{i:Nat}{m:Str->Option Value},P.Nodup->P[i]?=some x->vs[i]?=some v->kindOf x≠some .local →
  bindC kindOf (P.zip vs) m x=some v
 |[],_,_,_,_,h,_,_=>by simp at h
 |_::_,[],_,_,_,_,h,_=>by simp at h
 |p::P,w::vs,0,m,nd,h1,h2,hk=>by
  simp at h1 h2;subst h1;subst h2;show bindC kindOf ((p,w)::P.zip vs) m p=_;unfold bindC;rw[rX fun v hv=>(jh.mp nd).1 (List.of_mem_zip hv).1,if_neg hk];simp
 |p::P,w::vs,i+1,m,nd,h1,h2,hk=>by
  show bindC kindOf ((p,w)::P.zip vs) m x=_;unfold bindC;exact rO (i:=i) (jh.mp nd).2 (by simpa using h1) (by simpa using h2) hk
def start (N:List Str) (vs:List V):St:=vs.map some++ve (N.length-vs.length) none
def aDt (CX:CXT) (P:io) (w:jl) (K:Δ) (mg:Str->Option Value) (base:kq) (N:List Str) (qual:Str) (scope:Scope) (f:Addr) (cd:Value) (A:km) (outer:List Env) (s:ς) (H:Hp) (E:XK):Cx where
 prog:=P
 w:=w
 K:=K
 mg:=mg
 base:=base
 A:=A.deeper (envOfC qual scope s.heap.objs.size f cd)
 N:=N
 s₀:=s
 H₀:=H
 env:=envOfC qual scope s.heap.objs.size f cd
 outer:=outer
 stack:=envOfC qual scope s.heap.objs.size f cd::outer
 ex:=[]
 calm:=true
 fn:=fun _=>true
 pn:=[]
 xe:=fun e s'=>gp (ik P w) (A.deeper (envOfC qual scope s.heap.objs.size f cd)) (leaving (envOfC qual scope s.heap.objs.size f cd) e) (fun _ s''=>CX outer H s E e s'') (fun e' s''=>CX outer H s E e' s'') s'
theorem aBh{sc:Scope}(h:sc.names.lookup x=some .cell):∃c,(cellsFrom n sc.names []).lookup x=some c:=by
 have q:=PySem.W.cellsFrom_some sc.names n [] (.inl h);exact nv.mp q
theorem aGe{K:Δ}{A:km}{vs:List V}
  (S:jN N ps scope)(hd:A.handled=none)(e0:rF P w K mg base A outer s H)(hl:vs.length=ps.length)(r:kO vs us)
  (x:InCallC s s.heap.objs.size (bindL (envOfC qual scope s.heap.objs.size f cd).kindOf (ps.zip us) fun _=>none) (cellsFrom (s.heap.objs.size+1) scope.names []) (bindC (envOfC qual scope s.heap.objs.size f cd).kindOf (ps.zip us) fun _=>none) s1):
  Inv (aDt CX P w K mg base N qual scope f cd A outer s H E) [] (start N vs) H s1:=by
 have hpl:ps.length<=N.length:=by have:=congrArg List.length S.pre;rw[Ω]at this;omega
 obtain⟨h1,tk,rfl,hk⟩:=x.done;have noA:∀b:Addr,b∉(aDt CX P w K mg base N qual scope f cd A outer s H E).ex:=fun b z=>absurd (show b∈([]:List Addr) from z) (by simp);refine⟨⟨e0.mod,S.kind,rfl,rfl,μ _,fun y z c h1 h2=>?_,fun y hy=>?_,fun y c _ h=>?_,fun _=>hd,km.frames_deeper e0.frames,.inr ⟨rfl,rfl⟩,fun b z=>absurd z (noA b),e0.bs,e0.bsz,fun b _ _=>noA b,fun b z=>absurd z (noA b),e0.funs,e0.frf⟩,
  rfl,e0.bare,Un.kept hk,⟨_,x.toInCall.ns,fun i y v h1 h2 h3=>?_⟩,fun y c h=>⟨_,x.cell y c h⟩,e0.hok.fresh (μ _),fun y c h=>?_,fun p hp=>absurd (show p∈([]:List (Addr×Obj)) from hp) (by simp),e0.hok.kept hk,?_⟩
 ·exact name_of_addr x.apart (lu h1) (lu h2)
 ·have hy:scope.names.lookup y=some .cell\/scope.names.lookup y=some .free:=hy;rcases hy with hy|hy
  ·exact aBh hy
  ·exact absurd rfl (S.nofree _ (lu hy))
 ·exact jw (x.above y c (lu h))
 ·have hi:i<vs.length:=by
   unfold start at h2
   by_cases hi:i<vs.length
   ·exact hi
   ·rw[gr (by simpa using hi)]at h2;rw[List.getElem?_replicate]at h2
    split at h2 <;> cases h2
  have ha:vs[i]?=some v:=by
   unfold start at h2;rw[ig (by simpa using hi),gu]at h2;cases e:vs[i]? with
   |none=>rw[e]at h2;cases h2
   |some a=>rw[e]at h2;cases h2;rfl
  obtain⟨u,hu,rv⟩:=r.get ha;have hp:ps[i]?=some y:=by
   rw[←S.pre,oe (by omega)];exact h1
  have ndP:ps.Nodup:=by rw[←S.pre];exact S.nd.sublist (List.take_sublist _ _)
  refine⟨u,rv,?_⟩;rcases S.par y (ι hp) with k|k
  ·exact .inl ⟨k,sL ndP hp hu k⟩
  ·obtain⟨c,e⟩:=aBh (n:=s.heap.objs.size+1) k;refine .inr ⟨.inl k,c,e,?_⟩;have q:=x.cell y c e;rw[rO ndP hp hu (by show scope.names.lookup y≠_;rw[k];decide)]at q;exact q
 ·exact e0.hok.fresh (jw (x.above y c (lu h)))
 ·unfold start;show _=N.length;rw[ξ,δ,nj];omega
theorem fn_of{CX:CXT}{P:io}{w:jl}{K:Δ}{mg:Str->Option Value}{base:kq}{k:Nat}{f:Addr}{name qual:Str}{params:Arguments}{body:List Stmt}{scope:Scope}{dV kV doc pm cdv ct oc:Value}{an od:Option Addr}
  {osl:Array (Option Value)}{N ps:List Str}{sp:Sp}(lk:K.lookup f=some ⟨oc,od,.func (fnOf name qual params body scope dV kV doc pm an cdv ct),osl⟩)(hcd:codeIn K cdv qual=true)(S:jN N ps scope)
  (len:∀vs H Q E,sp vs H Q E->vs.length=ps.length)
  (hbody:∀(A:km) (outer:List Env) (s:ς) (H:Hp) (vs:List V) (Q:VK) (E:XK),xG k (A.deeper (envOfC qual scope s.heap.objs.size f cdv))->sp vs H Q E →
   ∃t,PSs (aDt CX P w K mg base N qual scope f cdv A outer s H E) body t/\t { nx:=fun _ H'=>Q .non H',rt:=Q } (start N vs) H):
  kJ P w K mg base CX (k+1) f (fnOf name qual params body scope dV kV doc pm an cdv ct) ps sp:=by
 refine⟨len,fun A outer s H args us vs Q E hr e0 hb r hsp=>?_⟩;have hl:=len _ _ _ _ hsp;have KX:K.In s.heap:=e0.mod.kin.keeps fun b o e=>(e0.bs b o e).1;have lim:s.heap.NoLimit:=e0.mod.nolimit.keeps fun b o e=>(e0.bs b o e).1;have hkind:∀y∈ps.zip us,scope.names.lookup y.1=some .local\/(scope.names.lookup y.1=some .cell/\((cellsFrom (s.heap.objs.size+1) scope.names []).lookup y.1).isSome=true):=fun ⟨n,v⟩ hy=>by
  rcases S.par n (List.of_mem_zip hy).1 with q|q
  ·exact .inl q
  ·exact .inr ⟨q,PySem.W.cellsFrom_some _ _ _ (.inl q)⟩
 refine codeAny_call_function hr.depth (KX _ _ lk) rfl S.co S.gen rfl (PySem.W.codeRec_of KX hcd) (hb _ _ _ _ ?_);refine wpAny_newFunctionEnv_cells S.kind hkind fun env he s1 x=>?_;subst he;refine⟨lim.keeps x.toInCall.keep,codeAny_func ?_⟩;obtain⟨t,ht,hq⟩:=hbody A outer s H vs Q E (hr.deeper _) hsp;have I:Inv (aDt CX P w K mg base N qual scope f cdv A outer s H E) [] (start N vs) H s1:=aGe S hr.hd e0 hl r x;refine md (ht [] s1 (start N vs) H _ I hq) (fun fl s' hs=>?_) fun e s' hs=>hs;have fin:∀{σ':St}{H':Hp}{v:V}{u:Value},Inv (aDt CX P w K mg base N qual scope f cdv A outer s H E) [] σ' H' s'->RelV v u->Q v H'->CE outer P w H s Q u s' :=
  fun {σ' H' v u} J rv q=>⟨v,H',J.os,J.bare,J.base,J.hok,rv,q⟩
 cases fl with
 |ret u =>
  obtain⟨v,σ',H',J,rv,q⟩:=hs;exact fin J rv q
 |next =>
  obtain⟨σ',H',J,q⟩:=hs;exact fin (v:=V.non) (u:=mz) J rfl q
 |brk =>
  obtain⟨_,_,_,q⟩:=hs;exact kc q
 |cont =>
  obtain⟨_,_,_,q⟩:=hs;exact kc q
section
variable {X:Cx}{x:Str}{p pos:Pos}{e:Expr}{es:List Expr}{t:TA}{id T:String}{r:List V->Hp->VK->Prop}
def tCB (r:List V->Hp->VK->Prop) (t:TA):TE:=fun σ H Q=>t σ H fun vs H1=>r vs H1 Q
theorem jK(hc:vD X (.builtin id) r)(hg:Gl X x)(hm:X.mg x=none)(hv:lr x=some (.builtin id))(ha:PA X (e::es) t)(hn:x ≠ "__name__":=by decide)(hdb:(x == ("__debug__" : Str))=false:=by decide)
  (he:ip (e::es) X.env=(false,eval e X.env)::ip es X.env:=by rfl)(hpl:(vy pos (ip es X.env)).any (·.1)=false:=by rfl):PE X (.Call (.Name x p) (e::es) [] pos) (tCB r t):=by
 intro pins s σ H Q I h;refine wq (iY I hg hm hv ?_ hn hdb);exact PyProof.Rows.callWith_builtin1 (thn (ha pos pins s σ H _ I h) fun us s1 zq=>zq.el fun vs H1 I1 r1 q1=>hc pins s1 σ H1 vs us Q I1 r1 q1) he hpl
theorem qA(hc:vD X (.type T) r)(hg:Gl X x)(hm:X.mg x=none)(hv:lr x=some (.type T))(ha:PA X (e::es) t)(hn:x ≠ "__name__":=by decide)(hdb:(x == ("__debug__" : Str))=false:=by decide)
  (he:ip (e::es) X.env=(false,eval e X.env)::ip es X.env:=by rfl)(hpl:(vy pos (ip es X.env)).any (·.1)=false:=by rfl):PE X (.Call (.Name x p) (e::es) [] pos) (tCB r t):=by
 intro pins s σ H Q I h;refine wq (iY I hg hm hv ?_ hn hdb);exact qx (thn (ha pos pins s σ H _ I h) fun us s1 zq=>zq.el fun vs H1 I1 r1 q1=>hc pins s1 σ H1 vs us Q I1 r1 q1) he hpl
end
end L2
namespace HT
open PySem PyProof.Rows
section
open PySem.SeqAt
open PySem.AutoSeq1 (wpAny_loadPart')
open PySem.MeetsSeq PySem.MeetsSeq2 PySem.MeetsSeq3
end
section
variable {prog:io}{w:jl}{A:km}{E:Value->ς->Prop}{s:ς}
theorem cat_tup{vs ws:List Value}{Q:Value->ς->Prop}(ht:IsTup s.heap t vs.toArray)(hb:IsTup s.heap b ws.toArray)(hv:vs≠[])
  (h1:ws=[]->Q (.ref t) s)(h2:ws≠[]->Q (.ref s.heap.objs.size) { s with heap:=s.heap.push { cls:=.type "tuple",data:=.seq (vs++ws).toArray } })
  (hsz:vs.length+ws.length<=χ):gp (ik prog w) A (qt .Add (.ref t) (.ref b)) Q E s:=by
 obtain⟨⟨cls,dd,data,sl⟩,ho,hc,n,hd⟩:=id ht;obtain⟨⟨cls2,dd2,data2,sl2⟩,ho2,hc2,n2,hd2⟩:=id hb;simp only at hc hd hc2 hd2;subst hc hd hc2 hd2;have e:vs.toArray++ws.toArray=(vs++ws).toArray:=by simp
 by_cases hw:ws=[]
 ·exact concat_meets ⟨_,ho,rfl⟩ ⟨_,ho2,rfl⟩ noFill_tuple_add seq_tuple_add xg xa (wf _ _)
   (tuple_addW1 t b vs.toArray ws.toArray n n2 dd dd2 sl sl2 (by simpa using hv) (by simp[hw])) ⟨ho,ho2,h1 hw⟩
 ·refine concat_meets ⟨_,ho,rfl⟩ ⟨_,ho2,rfl⟩ noFill_tuple_add seq_tuple_add xg xa (wf _ _)
   (tuple_addW2 t b vs.toArray ws.toArray n n2 dd dd2 sl sl2 (by simpa using hv) (by simpa using hw) (by rw[Ξ,Ξ];exact hsz)) ⟨ho,ho2,?_⟩
  rw[e];exact h2 hw
def sIx (n d:Nat):Option Int->Nat
 |none=>d
 |some v=>if v<0 then (v+(n:Int)).toNat else min v.toNat n
theorem sIx_none(n d:Nat):sIx n d none=d:=rfl
theorem sIx_nat(n d k:Nat):sIx n d (some (k:Int))=min k n:=by
 show(if (k:Int)<0 then ((k:Int)+(n:Int)).toNat else min (k:Int).toNat n)=min k n;rw[if_neg (by omega),ql]
end
end HT
namespace L2
open PySem PySem.Spec PyProof.Rows
abbrev TO:=St->Hp->(Option Int->Hp->Prop)->Prop
def PO (X:Cx) (e:Option Expr) (t:TO):Prop :=
 ∀(pins:List (Addr×Obj)) (s:ς) (σ:St) (H:Hp) (Q:Option Int->Hp->Prop),Inv X pins σ H s->t σ H Q →
  gp (ik X.prog X.w) X.A (evalPart e X.env) (fun u s'=>∃o H',Inv X pins σ H' s'/\IsPart u o/\Q o H') X.xe s
def aNa:TO:=fun _ H Q=>Q none H
inductive aFk (Q:Option Int->Hp->Prop) (x:V) (H1:Hp):Prop|mk:∀i,x=.int i->Q (some i) H1->aFk Q x H1
def tPart (t:TE):TO:=fun σ H Q=>t σ H fun x H1=>aFk Q x H1
theorem intsAre_of{ns:List Int}: ∀{us:List Value},kO (ns.map V.int) us->IntsAre us ns:=by
 induction ns with
 |nil=>intro us r;rw[List.map_nil]at r;cases r;exact .nil
 |cons n ns ih =>
  intro us r;rw[jp]at r;cases r with
  |cons r1 r2 =>
   obtain⟨t,e⟩:=r1;subst e;exact .cons n t (ih r2)
section
variable {X:Cx}{e:Expr}{te:TE}{lo hi:Option Expr}{tl th:TO}{pos p2:Pos}
theorem xB:PO X none aNa:=by
 intro pins s σ H Q I h;rw[evalPart_none];exact π ⟨none,H,I,.none,h⟩
theorem xA(h:PE X e te):PO X (some e) (tPart te):=by
 intro pins s σ H Q I hw;rw[evalPart_some];refine thn (h pins s σ H _ I hw) fun u s1 zq=>?_;obtain⟨x,H1,I1,r1,q1⟩:=zq;obtain⟨i,rfl,q⟩:=q1;obtain⟨t,rfl⟩:=r1;exact⟨some i,H1,I1,.int i t,q⟩
def SlR (X:Cx) (r:V->Option Int->Option Int->Hp->VK->Prop):Prop :=
 ∀(pins:List (Addr×Obj)) (s:ς) (σ:St) (H:Hp) (x:V) (v vl vu:Value) (lo hi:Option Int) (sl:Addr) (Q:VK),Inv X pins σ H s->RelV x v->s.heap.IsSliceOf sl vl vu .none->IsPart vl lo->IsPart vu hi->r x lo hi H Q →
  ∃T id,typeLookup (.type T) "__getitem__" = pure (some (.builtin id))/\s.TypeIs v T/\gp (ik X.prog X.w) X.A (getItem v (.ref sl)) (EP X pins σ Q) X.xe s
theorem SlR.or{r r':V->Option Int->Option Int->Hp->VK->Prop}(h:SlR X r)(h':SlR X r'):SlR X (fun x lo hi H Q=>r x lo hi H Q\/r' x lo hi H Q):=by
 intro pins s σ H x v vl vu lo hi sl Q I rx hs pl pu q;rcases q with q|q
 ·exact h pins s σ H x v vl vu lo hi sl Q I rx hs pl pu q
 ·exact h' pins s σ H x v vl vu lo hi sl Q I rx hs pl pu q
def tSl (r:V->Option Int->Option Int->Hp->VK->Prop) (te:TE) (tl th:TO):TE:=fun σ H Q=>te σ H fun x H1=>tl σ H1 fun l H2=>th σ H2 fun u H3=>r x l u H3 Q
theorem vI(hr:SlR X r)(he:PE X e te)(hl:PO X lo tl)(hu:PO X hi th):PE X (.Subscript e (.Slice lo hi none p2) pos) (tSl r te tl th):=by
 intro pins s σ H Q I h;refine Subscript_ (thn (he pins s σ H _ I h) fun v s1 zq=>?_);obtain⟨x,H1,I1,r1,q1⟩:=zq;refine wpAny_Slice (thn (hl pins s1 σ H1 _ I1 q1) fun vl s2 ⟨l,H2,I2,pl,q2⟩=>thn (hu pins s2 σ H2 _ I2 q2) fun vu s3 zq=>?_);obtain⟨u,H3,I3,pu,q3⟩:=zq;rw[evalPart_none];refine π ?_;have I4:Inv X pins σ H3 { s3 with heap:=s3.heap.push { cls:=.type "slice",data:=.fields #[vl,vu,.none] } }:=I3.kept (t':=s3.toks) fun b ob q=>ω _ q;obtain⟨T,id,hT,ht,hg⟩:=hr pins { s3 with heap:=s3.heap.push { cls:=.type "slice",data:=.fields #[vl,vu,.none] } } σ H3 x v vl vu l u s3.heap.objs.size Q I4 r1 (kq.IsSliceOf.new ..) pl pu q3;show gp (ik X.prog X.w) X.A (subscriptTail e (.Slice lo hi none p2) v (.ref s3.heap.objs.size)) (EP X pins σ Q) X.xe { s3 with heap:=s3.heap.push { cls:=.type "slice",data:=.fields #[vl,vu,.none] } };exact tail_any (ops:=[.ref s3.heap.objs.size,v]) ht hT hg (by with_unfolding_all rfl)
def zW (xs:List V) (lo hi:Option Int):List V:=(xs.drop (HT.sIx xs.length 0 lo)).take (HT.sIx xs.length xs.length hi-HT.sIx xs.length 0 lo)
theorem dF(xs:List V)(lo hi:Option Int):(zW xs lo hi).length<=xs.length:=by
 unfold zW;rw[Ω,yd];omega
def rCatT (K:Δ):R2:=fun x y H Q=>∃a b xs ys,x=.ref a/\y=.ref b/\SqT K H a xs/\SqT K H b ys/\xs≠[]/\xs.length+ys.length<=χ ∧
 (ys=[]->Q (.ref a) H)/\(ys≠[]->∀p,H p=none->Q (.ref p) (upd H p (.tup (xs++ys))))
theorem kO.nil_iff(r:kO xs us):us=[] ↔ xs=[]:=by
 cases r with
 |nil=>simp
 |cons _ _=>simp
theorem aMj:OpR X (qt .Add) (rCatT X.K):=by
 intro pins s σ H x y v u Q I rx ry h;obtain⟨a,b,xs,ys,rfl,rfl,ha,hb,hx,hz,q1,q2⟩:=h;cases rx;cases ry;obtain⟨its,r1,p1,_⟩:=I.tuple ha;obtain⟨its2,r2,p2,_⟩:=I.tuple hb;refine HT.cat_tup p1 p2 (fun z=>hx (r1.nil_iff.mp z)) (fun z=>⟨.ref a,H,I,rfl,q1 (r2.nil_iff.mp z)⟩) (fun z=>?_) (by rw[←r1.length,←r2.length];exact hz);refine⟨.ref s.heap.objs.size,_,I.laid (t':=s.toks) (o:=.tup (xs++ys)) (fun b ob q=>ω _ q) (μ _) ?_,rfl,q2 (fun w=>z (r2.nil_iff.mpr w)) _ (I.hok.fresh (μ _))⟩;exact⟨by rw[ξ];exact hz,_,r1.append r2,IsTup.new _ _⟩
end
def ixN (n:Nat) (i:Int):Option Nat:=if 0<=i then (if i<n then some i.toNat else none) else if -(n:Int)<=i then some (i+n).toNat else none
def atI {α : Type}(xs:List α) (i:Int):Option α:=(ixN xs.length i).bind fun j=>xs[j]?
theorem aEj{i:Int}(h:ixN n i=some j):seqIndex? i n=some j/\j<n/\-(n:Int)<=i/\i<n:=by
 unfold ixN at h
 by_cases h0 : 0<=i
 ·rw[if_pos h0]at h
  by_cases h1:i<n
  ·rw[if_pos h1]at h;have e:i.toNat=j:=jg h;exact⟨by rw[seqIndex_of h0 h1,e],by omega,by omega,h1⟩
  ·rw[if_neg h1]at h;cases h
 ·rw[if_neg h0]at h
  by_cases h1 : -(n:Int)<=i
  ·rw[if_pos h1]at h;have e:(i+n).toNat=j:=jg h;exact⟨by rw[seqIndex_neg (by omega) h1,e],by omega,h1,by omega⟩
  ·rw[if_neg h1]at h;cases h
theorem tH{α : Type}{xs:List α}{i:Int}{v : α}(h:atI xs i=some v):∃j,seqIndex? i xs.length=some j/\xs[j]?=some v/\j<xs.length/\-(xs.length:Int)<=i/\i<xs.length:=by
 unfold atI at h;cases e:ixN xs.length i with
 |none=>rw[e]at h;cases h
 |some j =>
  rw[e]at h;obtain⟨h1,h2,h3,h4⟩:=aEj e;exact⟨j,h1,h,h2,h3,h4⟩
theorem xP{α : Type}{xs:List α}{j:Nat}{v : α}(h:xs[j]?=some v):atI xs (j:Int)=some v:=by
 have hj:j<xs.length:=(θ.mp h).1;have e:ixN xs.length (j:Int)=some j:=by
  unfold ixN;rw[if_pos (by omega),if_pos (by omega)];simp
 unfold atI;rw[e];exact h
def uH (b:Expr):Prop:=∀o i,subscripted b false o i=operate [o,i] (getItem o i)
def IxR (X:Cx) (r:R2):Prop :=
 ∀(value slice:Expr) (pins:List (Addr×Obj)) (s:ς) (σ:St) (H:Hp) (x y:V) (v u:Value) (Q:VK),Inv X pins σ H s->RelV x v->RelV y u->r x y H Q →
  subscripted slice false v u=operate [v,u] (getItem v u)->gp (ik X.prog X.w) X.A (subscriptTail value slice v u) (EP X pins σ Q) X.xe s
def MtR (X:Cx) (id:String) (r:V->List V->Hp->VK->Prop):Prop :=
 ∀(pins:List (Addr×Obj)) (s:ς) (σ:St) (H:Hp) (x:V) (xs:List V) (v:Value) (us:List Value) (Q:VK),Inv X pins σ H s->RelV x v->kO xs us->r x xs H Q →
  gp (ik X.prog X.w) X.A (call (.builtin id) (v::us)) (EP X pins σ Q) X.xe s
section
variable {X:Cx}{a b:Expr}{ta tb:TE}{pos:Pos}
theorem IxR.or{r r':R2}(h:IxR X r)(h':IxR X r'):IxR X (fun x y H Q=>r x y H Q\/r' x y H Q):=by
 intro value slice pins s σ H x y v u Q I rx ry q hs;rcases q with q|q
 ·exact h value slice pins s σ H x y v u Q I rx ry q hs
 ·exact h' value slice pins s σ H x y v u Q I rx ry q hs
theorem MtR.or{id:String}{r r':V->List V->Hp->VK->Prop}(h:MtR X id r)(h':MtR X id r'):MtR X id (fun x xs H Q=>r x xs H Q\/r' x xs H Q):=by
 intro pins s σ H x xs v us Q I rx rs q;rcases q with q|q
 ·exact h pins s σ H x xs v us Q I rx rs q
 ·exact h' pins s σ H x xs v us Q I rx rs q
theorem aOy(hr:IxR X r)(ha:PE X a ta)(hb:PE X b tb)(hs:uH b):PE X (.Subscript a b pos) (tOp r ta tb):=by
 intro pins s σ H Q I h;exact Subscript_ (binT ha hb I h fun v u s2 x y H2 I2 rx ry q=>hr a b pins s2 σ H2 x y v u Q I2 rx ry q (hs _ _))
inductive aLf (K:Δ) (x:V) (y:V) (H:Hp) (Q:VK):Prop|mk:∀p xs i v,x=.ref p->y=.int i->SqL K H p xs->atI xs i=some v->Q v H->aLf K x y H Q
def rIxL (K:Δ):R2:=fun x y H Q=>aLf K x y H Q
inductive aLl (K:Δ) (x:V) (y:V) (H:Hp) (Q:VK):Prop|mk:∀p xs i v,x=.ref p->y=.int i->SqT K H p xs->atI xs i=some v->Q v H->aLl K x y H Q
def rIxT (K:Δ):R2:=fun x y H Q=>aLl K x y H Q
def rIxS:R2:=fun x y H Q=>∃z i c,x=.str z/\y=.int i/\z.length<=χ/\atI z.cps.toList i=some c/\Q (.str ⟨#[c]⟩) H
theorem jX:IxR X (rIxL X.K):=by
 intro value slice pins s σ H x y v u Q I rx ry h hs;obtain⟨p,xs,i,z,rfl,rfl,hq,he,q⟩:=h;cases rx;obtain⟨t,rfl⟩:=ry;obtain⟨its,r,pl,hz⟩:=I.list hq;obtain⟨j,h1,h2,h3,h4,h5⟩:=tH he;obtain⟨w,ew,rw'⟩:=r.get h2;have hl:=r.length;have hn:=fT;have fin:EP X pins σ Q w s:=⟨z,H,I,rw',q⟩
 by_cases h0 : 0<=i
 ·have hj:i.toNat=j:=by
   rw[seqIndex_of h0 h5]at h1;exact jg h1
  exact item_listR pl.isList h0 (by omega) (by rw[hj];simpa using ew) fin hs
 ·have hj:(i+(its.toArray.size:Int)).toNat=j:=by
   rw[seqIndex_neg (by omega) h4]at h1;rw[Ξ,←hl];exact jg h1
  exact subscriptTail_builtinR (x:=w) pl.isList.typeIs xh.lookup
   (wpAny_getItem_list_neg (Q:=fun r s'=>r=w/\EP X pins σ Q r s') pl.isList (by omega) (by rw[Ξ] <;> omega) (by omega) (by rw[hj];simpa using ew) ⟨rfl,fin⟩) hs
theorem jT:IxR X (rIxT X.K):=by
 intro value slice pins s σ H x y v u Q I rx ry h hs;obtain⟨p,xs,i,z,rfl,rfl,hq,he,q⟩:=h;cases rx;obtain⟨t,rfl⟩:=ry;obtain⟨its,r,pl,hz⟩:=I.tuple hq;obtain⟨j,h1,h2,h3,h4,h5⟩:=tH he;obtain⟨w,ew,rw'⟩:=r.get h2;have hl:=r.length;have hn:=fT;have fin:EP X pins σ Q w s:=⟨z,H,I,rw',q⟩;exact subscriptTail_builtinR (x:=w) pl.typeIs slot_tuple_getitem.lookup
  (getItem_tuple (j:=j) (Q:=fun r s'=>r=w/\EP X pins σ Q r s') pl (by omega) (by omega) (by rw[Ξ,←hl];exact h1) (by simpa using ew) ⟨rfl,fin⟩) hs
theorem aCv:IxR X rIxS:=by
 intro value slice pins s σ H x y v u Q I rx ry h hs;obtain⟨z,i,c,rfl,rfl,hz,he,q⟩:=h;obtain⟨t,rfl⟩:=rx;obtain⟨t',rfl⟩:=ry;obtain⟨j,h1,h2,h3,h4,h5⟩:=tH he;have hl:z.cps.toList.length=z.length:=by simp[Str.length]
 rw[hl]at h1 h4 h5;have hn:=fT;exact tail_any (typeIs_str s z t) slot_str_getitem.lookup (getItem_str (c:=c) (by
  have e1:decide (i < -(2 ^ 63:Int))=false:=decide_eq_false (by omega);have e2:decide (i≥2 ^ 63)=false:=decide_eq_false (by omega);rw[e1,e2,Bool.or_false]) (by rw[h1];simpa using h2) ⟨.str ⟨#[c]⟩,H,I.tok _,⟨_,rfl⟩,q⟩) hs
theorem aCo(its:List Value)(n j:Nat)(u:Value):Obj.mapSeq (·.setIfInBounds j u) { cls:=.type "list",data:=.seq its.toArray n }={ cls:=.type "list",data:=.seq (its.set j u).toArray n }:=by
 simp[Obj.mapSeq]
theorem Inv.lst{pins:List (Addr×Obj)}{σ:St}{H:Hp}{s:ς}{p:Addr}{xs:List V}(I:Inv X pins σ H s)(h:H p=some (.lst xs)):
  ∃(its:List Value) (n:Nat),kO xs its/\s.heap.get? p=some { cls:=.type "list",data:=.seq its.toArray n }/\xs.length<=χ:=by
 obtain⟨z,its,n,r,e⟩:=I.hok p _ h;exact⟨its,n,r,e,z⟩
theorem Inv.lstUpd{H:Hp}{s:ς}{its its':List Value}{f:Obj->Obj}(I:Inv X pins σ H s)(h:H p=some (.lst xs))
  (ho:s.heap.get? p=some { cls:=.type "list",data:=.seq its.toArray n })(hf:f { cls:=.type "list",data:=.seq its.toArray n }={ cls:=.type "list",data:=.seq its'.toArray n' })(r:kO ys its')(hz:ys.length<=χ)(t:Nat):
  Inv X pins σ (upd H p (.lst ys)) { s with heap:=s.heap.update p f,toks:=t }:=by
 have e:(s.heap.update p f).get? p=some { cls:=.type "list",data:=.seq its'.toArray n' }:=by
  rw[uw f ho (by rw[hf] <;> rfl),hf]
 refine I.write (x:=p) (e:=p) (by rw[h];trivial) (.inl rfl) (fun b u hb q=>(qy _ _ (kh hb)).trans q) ⟨_,e⟩ ?_;exact⟨hz,its',n',r,e⟩
def rSetL:V->V->V->Hp->(Hp->Prop)->Prop:=fun o i v H Q=>∃p xs k j,o=.ref p/\i=.int k/\H p=some (.lst xs)/\ixN xs.length k=some j/\Q (upd H p (.lst (xs.set j v)))
theorem set_list:PSet X rSetL:=by
 intro pins s σ H o i v ov iv u Q I ro ri rv h;obtain⟨p,xs,k,j,rfl,rfl,hp,hj,q⟩:=h;cases ro;obtain⟨t,rfl⟩:=ri;obtain⟨its,n,r,ho,hz⟩:=I.lst hp;obtain⟨h1,h2,h3,h4⟩:=aEj hj;have hl:=r.length;have hn:=fT;have I':Inv X pins σ (upd H p (.lst (xs.set j v))) { s with heap:=s.heap.update p (Obj.mapSeq (·.setIfInBounds j u)) } :=
  I.lstUpd hp ho (aCo its n j u) (r.set rv j) (by rw[List.length_set];exact hz) s.toks
 by_cases h0 : 0<=k
 ·have hk:k.toNat=j:=by
   rw[seqIndex_of h0 h4]at h1;exact jg h1
  exact PySem.W.ki_setAt ho h0 (by omega) (by rw[Ξ,←hl];exact h4) (by rw[hk];exact⟨_,I',q⟩)
 ·have hk:(k+(its.toArray.size:Int)).toNat=j:=by
   rw[seqIndex_neg (by omega) h3]at h1;rw[Ξ,←hl];exact jg h1
  exact PySem.W.ki_setBack ho (by omega) (by rw[Ξ,←hl];exact h3) (by omega) (by rw[hk];exact⟨_,I',q⟩)
theorem tD(lo hi:Option Int)(n:Nat):(xb lo hi none n).1=((HT.sIx n 0 lo:Nat):Int)/\(xb lo hi none n).2.1=((HT.sIx n n hi:Nat):Int)/\(xb lo hi none n).2.2=1:=by
 refine⟨?_,?_,rfl⟩
 ·cases lo with
  |none=>simp[xb,HT.sIx]
  |some i =>
   simp only[xb,HT.sIx,Option.getD_none,show(1:Int) > 0 by decide,if_true]
   by_cases h:i<0
   ·simp only[h,if_true] <;> omega
   ·simp only[h,if_false] <;> omega
 ·cases hi with
  |none=>simp[xb,HT.sIx]
  |some i =>
   simp only[xb,HT.sIx,Option.getD_none,show(1:Int) > 0 by decide,if_true]
   by_cases h:i<0
   ·simp only[h,if_true] <;> omega
   ·simp only[h,if_false] <;> omega
theorem fA(its:List Value)(lo hi:Option Int):slicePick its.toArray lo hi none=((its.drop (HT.sIx its.length 0 lo)).take (HT.sIx its.length its.length hi-HT.sIx its.length 0 lo)).toArray:=by
 obtain⟨h1,h2,h3⟩:=tD lo hi its.toArray.size;unfold slicePick;rw[h1,h2,h3];simp only[sliceRange_one,pick_run,Ξ] <;> rfl
inductive aKm (K:Δ) (x:V) (lo:Option Int) (hi:Option Int) (H:Hp) (Q:VK):Prop|mk:∀a xs,x=.ref a->SqL K H a xs->(∀p,H p=none->Q (.ref p) (upd H p (.lst (zW xs lo hi))))->aKm K x lo hi H Q
def rSlL (K:Δ):V->Option Int->Option Int->Hp->VK->Prop:=fun x lo hi H Q=>aKm K x lo hi H Q
theorem zE:SlR X (rSlL X.K):=by
 intro pins s σ H x v vl vu lo hi sl Q I rx hs pl pu h;obtain⟨a,xs,rfl,hx,q⟩:=h;cases rx;obtain⟨its,r,ht,hz⟩:=I.list hx;have hlen:=r.length;refine⟨"list",_,xh.lookup,ht.isList.typeIs,?_⟩;refine wg ht.isList hs pl pu .none (by simp) ?_ (by rw[Ξ] <;> omega);rw[fA,←hlen];refine⟨.ref s.heap.objs.size,_,I.laid (t':=s.toks) (o:=.lst (zW xs lo hi)) (fun b ob q=>ω _ q) (μ _) ?_,rfl,q _ (I.hok.fresh (μ _))⟩;exact⟨Ψ (dF xs lo hi) hz,_,0,(r.drop (HT.sIx xs.length 0 lo)).take (HT.sIx xs.length xs.length hi-HT.sIx xs.length 0 lo),gm _ rfl⟩
def iH:V->Bool
 |.non=>true
 |.bl _=>true
 |.int _=>true
 |.str _=>true
 |_=>false
def eqV:V->V->Bool
 |.non,.non=>true
 |.bl a,.bl b=>a == b
 |.bl a,.int b=>(if a then 1 else 0) == b
 |.int a,.bl b=>a == (if b then 1 else 0)
 |.int a,.int b=>a == b
 |.str a,.str b=>a == b
 |_,_=>false
theorem aPv(ry:RelV y u)(rx:RelV x v)(fy:iH y=true)(fx:iH x=true):lc A s u v (eqV y x):=by
 cases y with
 |non =>
  cases ry;cases x with
  |non=>cases rx;exact lc.same _
  |bl b=>cases rx;exact lc.none_bool b
  |int b=>obtain⟨t,rfl⟩:=rx;exact lc.none_int b t
  |str b=>obtain⟨t,rfl⟩:=rx;exact lc.none_str b t
  |_=>exact absurd (show false=true from fx) ο
 |bl a =>
  cases ry;cases x with
  |non=>cases rx;exact lc.bool_none a
  |bl b=>cases rx;exact lc.bool_bool a b
  |int b=>obtain⟨t,rfl⟩:=rx;exact lc.bool_int a b t
  |str b=>obtain⟨t,rfl⟩:=rx;exact lc.bool_str a b t
  |_=>exact absurd (show false=true from fx) ο
 |int a =>
  obtain⟨t',rfl⟩:=ry;cases x with
  |non=>cases rx;exact lc.int_none a t'
  |bl b=>cases rx;exact lc.int_bool a t' b
  |int b=>obtain⟨t,rfl⟩:=rx;exact lc.int_int a t' b t
  |str b=>obtain⟨t,rfl⟩:=rx;exact lc.int_str a t' b t
  |_=>exact absurd (show false=true from fx) ο
 |str a =>
  obtain⟨t',rfl⟩:=ry;cases x with
  |non=>cases rx;exact lc.str_none a t'
  |bl b=>cases rx;exact lc.str_bool a t' b
  |int b=>obtain⟨t,rfl⟩:=rx;exact lc.str_int a t' b t
  |str b=>obtain⟨t,rfl⟩:=rx;exact lc.str_str a t' b t
  |_=>exact absurd (show false=true from fx) ο
 |_=>exact absurd (show false=true from fy) ο
def eqU (x:V) (u:Value):Bool:=match u with
 |.none=>eqV .non x
 |.bool b=>eqV (.bl b) x
 |.int i _=>eqV (.int i) x
 |.str z _=>eqV (.str z) x
 |_=>false
theorem aJo(r:RelV y u)(f:iH y=true):eqU x u=eqV y x:=by
 cases y with
 |non=>cases r;rfl
 |bl b=>cases r;rfl
 |int i=>obtain⟨t,rfl⟩:=r;rfl
 |str z=>obtain⟨t,rfl⟩:=r;rfl
 |_=>exact absurd (show false=true from f) ο
theorem gW : ∀{xs:List V}{us:List Value},kO xs us->xs.all iH=true->us.any (eqU x)=xs.any fun y=>eqV y x
 |_,_,.nil,_=>rfl
 |y::xs,u::us,.cons r t,f=>by
  rw[List.all_cons,jt]at f;rw[yj,yj,aJo r f.1,gW t f.2]
theorem dG(rx:RelV x v)(fx:iH x=true):∀{xs:List V}{us:List Value},kO xs us->xs.all iH=true->∀u∈us,lc A s u v (eqU x u)
 |_,_,.nil,_=>fun u hu=>by cases hu
 |y::xs,u::us,.cons r t,f=>fun u' hu=>by
  rw[List.all_cons,jt]at f;rcases υ.mp hu with rfl|hu
  ·rw[aJo r f.1];exact aPv r rx f.1 fx
  ·exact dG rx fx t f.2 u' hu
def inV (x:V) (xs:List V):Bool:=xs.any fun y=>eqV y x
def rIn (K:Δ) (neg:Bool):R2:=fun x y H Q=>∃p xs,y=.ref p/\(SqL K H p xs\/SqT K H p xs)/\iH x=true/\xs.all iH=true/\Q (.bl (if neg then !inV x xs else inV x xs)) H
theorem lI:OpR X (kn .In) (rIn X.K false):=by
 intro pins s σ H x y v u Q I rx ry h;obtain⟨p,xs,rfl,hq,fx,fs,q⟩:=h;cases ry;rcases hq with hq|hq
 ·obtain⟨its,r,pl,hz⟩:=I.list hq;refine SeqAt.in_listAt (eqU x) pl.isList (fun w hw=>dG rx fx r fs w (by simpa using hw)) ⟨.bl _,H,I,rfl,?_⟩;rw[show its.toArray.any (eqU x)=its.any (eqU x) by simp,gW r fs];exact q
 ·obtain⟨its,r,pl,hz⟩:=I.tuple hq;refine SeqAt.in_tupleAt (eqU x) pl (fun w hw=>dG rx fx r fs w (by simpa using hw)) ⟨.bl _,H,I,rfl,?_⟩;rw[show its.toArray.any (eqU x)=its.any (eqU x) by simp,gW r fs];exact q
theorem tG:OpR X (kn .NotIn) (rIn X.K true):=by
 intro pins s σ H x y v u Q I rx ry h;obtain⟨p,xs,rfl,hq,fx,fs,q⟩:=h;cases ry;rcases hq with hq|hq
 ·obtain⟨its,r,pl,hz⟩:=I.list hq;refine SeqAt.notIn_listAt (eqU x) pl.isList (fun w hw=>dG rx fx r fs w (by simpa using hw)) ⟨.bl _,H,I,rfl,?_⟩;rw[show its.toArray.any (eqU x)=its.any (eqU x) by simp,gW r fs];exact q
 ·obtain⟨its,r,pl,hz⟩:=I.tuple hq;refine SeqAt.notIn_tupleAt (eqU x) pl (fun w hw=>dG rx fx r fs w (by simpa using hw)) ⟨.bl _,H,I,rfl,?_⟩;rw[show its.toArray.any (eqU x)=its.any (eqU x) by simp,gW r fs];exact q
theorem kF:vD X (.builtin "len") (fun xs H Q=>∃p ys,xs=[.ref p]/\(SqL X.K H p ys\/SqT X.K H p ys)/\Q (.int ys.length) H):=by
 intro pins s σ H xs us Q I r h;obtain⟨p,ys,rfl,hq,q⟩:=h;obtain⟨u,rfl,rx⟩:=vals1 r;cases rx;have hn:=fT;rcases hq with hq|hq
 ·obtain⟨its,r',pl,hz⟩:=I.list hq;have hlen:=r'.length;exact Calls.call_len_list pl.isList (by simp only[Ξ] <;> omega) ⟨.int ys.length,H,I.tok _,⟨s.toks+1,by rw[Ξ,hlen]⟩,q⟩
 ·obtain⟨its,r',pl,hz⟩:=I.tuple hq;have hlen:=r'.length;exact len_tuple pl (by simp only[Ξ] <;> omega) ⟨.int ys.length,H,I.tok _,⟨s.toks+1,by rw[Ξ,hlen]⟩,q⟩
theorem vD.or{r r':List V->Hp->VK->Prop}(h:vD X f r)(h':vD X f r'):vD X f (fun xs H Q=>r xs H Q\/r' xs H Q):=by
 intro pins s σ H xs us Q I rs q;rcases q with q|q
 ·exact h pins s σ H xs us Q I rs q
 ·exact h' pins s σ H xs us Q I rs q
theorem bW:vD X (.type "list") (fun xs H Q=>∃p ys,xs=[.ref p]/\(SqL X.K H p ys\/SqT X.K H p ys)/\∀l,H l=none->Q (.ref l) (upd H l (.lst ys))):=by
 intro pins s σ H xs us Q I r h;obtain⟨p,ys,rfl,hq,q⟩:=h;obtain⟨u,rfl,rx⟩:=vals1 r;cases rx;have fin:∀(its:List Value),kO ys its->ys.length<=χ->∀(h':kq) (c':Nat),(∀b o',s.heap.get? b=some o'->h'.get? b=some o') →
   h'.get? s.heap.objs.size=some { cls:=.type "list",dict:=none,data:=.seq its.toArray c',slots:=#[] }->EP X pins σ Q (.ref s.heap.objs.size) { s with heap:=h' }:=fun its r' hz h' c' kp e =>
  ⟨.ref s.heap.objs.size,_,I.laid (t':=s.toks) kp (μ _) (show qO X.prog X.w _ h' _ (.lst ys) from⟨hz,its,c',r',e⟩),rfl,q _ (I.hok.fresh (μ _))⟩
 rcases hq with hq|hq
 ·obtain⟨its,r',pl,hz⟩:=I.list hq;have hlen:=r'.length;obtain⟨o,ho,hc,n,hd⟩:=pl.isList;exact call_list_seq p (.inl rfl) ho hc hd (fun h' c' kp e=>fin its r' hz h' c' kp e) (by simp only[Ξ] <;> omega)
 ·obtain⟨its,r',pl,hz⟩:=I.tuple hq;have hlen:=r'.length;obtain⟨o,ho,hc,n,hd⟩:=pl;exact call_list_seq p (.inr rfl) ho hc hd (fun h' c' kp e=>fin its r' hz h' c' kp e) (by simp only[Ξ] <;> omega)
theorem yH:vD X (.type "tuple") (fun xs H Q=>∃p ys,xs=[.ref p]/\((SqL X.K H p ys/\∀l,H l=none->Q (.ref l) (upd H l (.tup ys)))\/(SqT X.K H p ys/\Q (.ref p) H))):=by
 intro pins s σ H xs us Q I r h;obtain⟨p,ys,rfl,h⟩:=h;obtain⟨u,rfl,rx⟩:=vals1 r;cases rx;rcases h with⟨hq,q⟩|⟨hq,q⟩
 ·obtain⟨its,r',pl,hz⟩:=I.list hq;have hlen:=r'.length;refine call_tuple_list pl.isList (fun h' kp=>?_) (by simp only[Ξ] <;> omega);have I1:Inv X pins σ H { s with heap:=h' }:=I.kept (t':=s.toks) kp;have I2:Inv X pins σ (upd H h'.objs.size (.tup ys)) { s with heap:=h'.push { cls:=.type "tuple",data:=.seq its.toArray } } :=
   I1.laid (t':=s.toks) (fun b o e=>ω _ e) (μ _) (show qO X.prog X.w _ _ _ (.tup ys) from⟨hz,its,r',IsTup.new _ _⟩)
  exact⟨.ref h'.objs.size,_,I2,rfl,q _ (I1.hok.fresh (μ _))⟩
 ·obtain⟨its,r',pl,hz⟩:=I.tuple hq;exact call_tuple_same pl ⟨.ref p,H,I,rfl,q⟩
def tyV (K:Δ) (T:String) (x:V) (H:Hp):Prop:=match x with
 |.str _=>T = "str"
 |.int _=>T = "int"
 |.ref p=>(T = "list"/\∃xs,SqL K H p xs)\/(T = "tuple"/\∃o,K.lookup p=some o/\o.cls=.type "tuple"/\o.dict=none) ∨
   (T = "dict"/\((∃kvs,H p=some (.dK kvs))\/∃kvs,H p=some (.dT kvs)))\/(T = "set"/\∃S n,H p=some (.set S n))
 |_=>False
theorem aKw(I:Inv X pins σ H s)(r:RelV x v)(ty:tyV X.K T x H):
  s.TypeIs v T/\∀a,v=.ref a->∃ob,s.heap.get? a=some ob/\ob.dict=none:=by
 cases x with
 |str z =>
  obtain⟨t,rfl⟩:=r;cases (show T = "str" from ty);exact⟨typeIs_str s z t,fun _ e=>nomatch e⟩
 |int i =>
  obtain⟨t,rfl⟩:=r;cases (show T = "int" from ty);exact⟨typeIs_int s i t,fun _ e=>nomatch e⟩
 |ref p =>
  cases r;rcases ty with⟨rfl,xs,hq⟩|⟨rfl,o,hk,hc,hd⟩|⟨rfl,hk⟩|⟨rfl,S,n,hk⟩
  ·obtain⟨its,_,pl,_⟩:=I.list hq;refine⟨pl.isList.typeIs,fun a e=>?_⟩;cases e;obtain⟨o,n,e,c,hd,_⟩:=pl;exact⟨o,e,hd⟩
  ·refine⟨⟨o,I.kIn p o hk,hc⟩,fun a e=>?_⟩;cases e;exact⟨o,I.kIn _ o hk,hd⟩
  ·have z:∃o,s.heap.get? p=some o/\o.ExactDict:=by
    rcases hk with⟨kvs,hk⟩|⟨kvs,hk⟩
    ·obtain⟨_,_,_,_,o,_,_,e,ex,_⟩:=I.hok p _ hk;exact⟨o,e,ex⟩
    ·obtain⟨_,_,_,_,o,_,_,e,ex,_⟩:=I.hok p _ hk;exact⟨o,e,ex⟩
   obtain⟨o,e,ex⟩:=z;refine⟨⟨o,e,ex.1⟩,fun a e2=>?_⟩;cases e2;exact⟨o,e,ex.2.1⟩
  ·obtain⟨o,_,_,_,e,ex,_⟩:=I.hok p _ hk;refine⟨⟨o,e,ex.1⟩,fun a e2=>?_⟩;cases e2;exact⟨o,e,ex.2.1⟩
 |_=>exact kc ty
def tBM0 (K:Δ) (T:String) (r:V->List V->Hp->VK->Prop) (to:TE):TE:=fun σ H Q=>to σ H fun x H1=>tyV K T x H1/\r x [] H1 Q
inductive aOj (K:Δ) (T:String) (r:V->List V->Hp->VK->Prop) (t:TA) (σ:St) (Q:VK) (x:V) (H1:Hp):Prop|mk:tyV K T x H1->(t σ H1 fun xs H2=>r x xs H2 Q)->aOj K T r t σ Q x H1
def tBM (K:Δ) (T:String) (r:V->List V->Hp->VK->Prop) (to:TE) (t:TA):TE:=fun σ H Q=>to σ H fun x H1=>aOj K T r t σ Q x H1
variable {o e:Expr}{es:List Expr}{to:TE}{t:TA}{name:Str}{apos cpos:Pos}{T id:String}{r:V->List V->Hp->VK->Prop}
theorem aJf(pa:PlainAttrs T)(slot:Slot T name id)(hty:typeOf (.builtin id)=pure (.type "method_descriptor"))(hm:MtR X id r)(ho:PE X o to)
  (hbase:yi o name X.env (eval o X.env)=eval o X.env:=by rfl)(hline:(apos.endLine == cpos.line)=true:=by rfl):PE X (.Call (.Attribute o name apos) [] [] cpos) (tBM0 X.K T r to):=by
 intro pins s σ H Q I h;refine wpAny_Call_method0_late hbase hline (thn (ho pins s σ H _ I h) fun v s1 zq=>?_);obtain⟨x,H1,I1,r1,ty,q1⟩:=zq;obtain⟨h1,h2⟩:=aKw I1 r1 ty;exact⟨T,id,pa,slot,hty,h1,h2,Calls.callWith_builtin rfl (PySem.evalArgs_none (hm pins s1 σ H1 x [] v [] Q I1 r1 .nil q1))⟩
theorem aG(pa:PlainAttrs T)(slot:Slot T name id)(hty:typeOf (.builtin id)=pure (.type "method_descriptor"))(hm:MtR X id r)(ho:PE X o to)(ha:PA X (e::es) t)
  (hbase:yi o name X.env (eval o X.env)=eval o X.env:=by rfl)
  (hfew:((vy cpos (ip (e::es) X.env)).all (fun x=>!x.1)&&(backToKw cpos (keywordEach [] X.env)).all (fun x=>x.1.isSome)
   && decide ((e::es).length+([]:List Keyword).length+(if ([]:List Keyword).isEmpty then 0 else 1)<30))=true:=by rfl)
  (hline:(apos.endLine == cpos.line)=true:=by rfl)(hs:ip (e::es) X.env=(false,eval e X.env)::ip es X.env:=by rfl)(hplain:(vy cpos (ip es X.env)).any (·.1)=false:=by rfl):
  PE X (.Call (.Attribute o name apos) (e::es) [] cpos) (tBM X.K T r to t):=by
 intro pins s σ H Q I h;refine wpAny_Call_method_late hbase hfew hline rfl (thn (ho pins s σ H _ I h) fun v s1 zq=>?_);obtain⟨x,H1,I1,r1,ty,q1⟩:=zq;obtain⟨h1,h2⟩:=aKw I1 r1 ty;refine⟨T,id,pa,slot,hty,h1,h2,?_⟩;have hA:=ha cpos pins s1 σ H1 _ I1 q1;rw[hs]at hA ⊢;refine Calls.callWith_builtin (by show(false||(vy cpos (ip es X.env)).any (·.1))=false;rw[hplain] <;> rfl) (Calls.evalArgs_plain ?_);exact thn hA fun us s2 zq=>zq.el fun vs H2 I2 r2 q2=>hm pins s2 σ H2 x vs v us Q I2 r1 r2 q2
end
def MtM (X:Cx) (id:String) (r:V->List V->Hp->VK->Prop):Prop :=
 ∀(pins:List (Addr×Obj)) (s:ς) (σ:St) (H:Hp) (x:V) (xs:List V) (v:Value) (us:List Value) (Q:VK),Inv X pins σ H s->RelV x v->kO xs us->r x xs H Q →
  gp (ik X.prog X.w) X.A (call (.builtin id) (v::us)) (EP X pins σ Q) X.xe s
theorem kO.one{x:V}(h:kO [x] us):∃u,us=[u]/\RelV x u:=by
 cases h with
 |cons r t=>cases t;exact⟨_,rfl,r⟩
theorem kO.two{x y:V}(h:kO [x,y] us):∃u v,us=[u,v]/\RelV x u/\RelV y v:=by
 cases h with
 |cons r t=>obtain⟨_,rfl,q⟩:=kO.one t;exact⟨_,_,rfl,r,q⟩
theorem kO.zero:∀{us:List Value},kO [] us->us=[]
 |_,.nil=>rfl
theorem kO.reverse(h:kO xs us):kO xs.reverse us.reverse:=by
 induction h with
 |nil=>exact .nil
 |cons r t ih=>rw[qm,qm];exact kO.append ih (.cons r .nil)
section
variable {X:Cx}{pins:List (Addr×Obj)}{σ:St}{H:Hp}{s:ς}{l b:Addr}{xs ys zs:List V}
theorem Inv.lset{its its':List Value}{f:Array Value->Array Value}{t':Nat}(I:Inv X pins σ H s)(hH:H l=some (.lst xs))
  (e:s.heap.get? l=some { cls:=.type "list",data:=.seq its.toArray n })(hf:f its.toArray=its'.toArray)(hv:kO ys its')(hz:ys.length<=χ):
  Inv X pins σ (upd H l (.lst ys)) { s with heap:=s.heap.update l (Obj.mapSeq f),toks:=t' }:=by
 have q:=PySem.IsL.update e f;rw[hf]at q;refine I.write (x:=l) (e:=l) (by rw[hH];exact trivial) (.inl rfl) (fun b' u hb hu=>(qy s.heap (Obj.mapSeq f) (kh hb)).trans hu) ⟨_,q⟩ ?_;exact⟨hz,its',_,hv,q⟩
theorem Inv.lnew{t':Nat}(I:Inv X pins σ H s)(hv:kO ys its)(hz:ys.length<=χ):
  Inv X pins σ (upd H s.heap.objs.size (.lst ys)) { s with heap:=s.heap.push { cls:=.type "list",data:=.seq its.toArray },toks:=t' } :=
 I.laid (fun _ _ q=>ω _ q) (μ _) ⟨hz,its,0,hv,gm _ rfl⟩
theorem Inv.fresh(I:Inv X pins σ H s):H s.heap.objs.size=none:=I.hok.fresh (μ _)
theorem Inv.lstM(I:Inv X pins σ H s)(hH:H l=some (.lst xs)):xs.length<=χ/\∃(its:List Value) (n:Nat),kO xs its/\xs.length=its.length/\s.heap.get? l=some { cls:=.type "list",data:=.seq its.toArray n }:=by
 obtain⟨z,its,n,r,e⟩:=I.hok l _ hH;exact⟨z,its,n,r,r.length,e⟩
theorem aJg{n:Nat}(h:n<=χ):wj n=false:=by
 unfold wj;exact decide_eq_false (by omega)
end
section
variable {X:Cx}
inductive sG (x:V) (vs:List V) (H:Hp) (Q:VK):Prop|mk:∀l xs y,x=.ref l->vs=[y]->H l=some (.lst xs)->xs.length<χ->Q .non (upd H l (.lst (xs++[y])))->sG x vs H Q
def aMz:V->List V->Hp->VK->Prop:=fun x vs H Q=>sG x vs H Q
theorem bG:MtM X "list.append" aMz:=by
 intro pins s σ H x vs v us Q I rx rv h;obtain⟨l,xs,y,rfl,rfl,hH,hz,q⟩:=h;cases rx;obtain⟨u,rfl,ru⟩:=rv.one;obtain⟨z,its,n,r,hl,e⟩:=I.lstM hH;refine call_meets F.slot_list_append ⟨_,e,rfl⟩ F.entry_list_append (F.args_list_append_2 _ _) (PySem.list_append l its.toArray n u (by rw[Ξ];omega)) ⟨e,?_⟩;refine⟨.non,_,I.lset (its':=its++[u]) hH e (by simp) (r.append (.cons ru .nil)) ?_,rfl,q⟩;rw[ξ,lj];omega
def aOa:V->List V->Hp->VK->Prop:=fun x vs H Q=>∃l b xs zs,x=.ref l/\vs=[.ref b]/\H l=some (.lst xs)/\H b=some (.lst zs)/\xs.length+zs.length<=χ/\Q .non (upd H l (.lst (xs++zs)))
theorem aHr:MtM X "list.extend" aOa:=by
 intro pins s σ H x vs v us Q I rx rv h;obtain⟨l,b,xs,zs,rfl,rfl,hH,hB,hz,q⟩:=h;cases rx;obtain⟨u,rfl,ru⟩:=rv.one;cases ru;obtain⟨z,its,n,r,hl,e⟩:=I.lstM hH;obtain⟨z2,its2,n2,r2,hl2,e2⟩:=I.lstM hB;have hsz:its.toArray.size+its2.toArray.size<=χ:=by rw[Ξ,Ξ];omega
 have hlong:¬ (!its.toArray.isEmpty&&wj (its.toArray.size+its2.toArray.size))=true:=by
  rw[aJg hsz,Bool.and_false];exact ο
 refine call_meets F.slot_list_extend ⟨_,e,rfl⟩ F.entry_list_extend (F.args_list_extend_2 _ _)
  (AutoSeq1.list_extend_list_list_0 l its.toArray n b its2.toArray n2 hlong (by rw[Ξ];omega) (by omega)) ⟨e,e2,?_⟩
 refine⟨.non,_,I.lset (its':=its++its2) hH e (by simp) (r.append r2) ?_,rfl,q⟩;rw[ξ];omega
def rCat:R2:=fun x y H Q=>∃l b xs zs,x=.ref l/\y=.ref b/\H l=some (.lst xs)/\H b=some (.lst zs)/\xs.length+zs.length<=χ/\∀p,H p=none->Q (.ref p) (upd H p (.lst (xs++zs)))
theorem lJ:OpR X (qt .Add) rCat:=by
 intro pins s σ H x y v u Q I rx ry h;obtain⟨l,b,xs,zs,rfl,rfl,hH,hB,hz,q⟩:=h;cases rx;cases ry;obtain⟨z,its,n,r,hl,e⟩:=I.lstM hH;obtain⟨z2,its2,n2,r2,hl2,e2⟩:=I.lstM hB;refine PySem.P.add_list e e2 ?_ (by rw[Ξ,Ξ];omega);have ea:its.toArray++its2.toArray=(its++its2).toArray:=by simp
 rw[ea];exact⟨.ref _,_,I.lnew (t':=s.toks) (r.append r2) (by rw[ξ];omega),rfl,q _ I.fresh⟩
end
end L2
namespace Att
open PySem PySem.W PySem.Calls PyProof.Rows
theorem mS : ∀(ns:List Int) (vs:List Value),WellAll P h vs (ns.map WData.int)->IntsAre vs ns:=by
 intro ns
 induction ns with
 |nil =>
  intro vs w;rw[List.map_nil]at w;cases w;exact .nil
 |cons n ns ih =>
  intro vs w;rw[jp]at w;cases w with
  |cons a b =>
   cases a;exact .cons _ _ (ih _ b)
theorem aGv{l:OpenLaw}(hn:l.most=some n)
  (hpre:l.row.toRowW.claim.pre args=true)(hwl:WellAll P h vals args):
  ∃a vs ns,vals=[jm a]/\args=[WData.list (ns.map WData.int)]/\h.get? a=some { cls:=.type "list",data:=.seq vs.toArray }/\IntsAre vs ns/\ns.length<=n:=by
 have hsh:WShape.hasAll [] args [.list .int]=true:=(pre_splitW hpre).1;have hc:l.pre.holds [] { args:=args }=true:=(pre_splitW hpre).2;obtain⟨d,r,rfl,h1,h2⟩:=hasAllW_cons hsh;obtain rfl:=hasAllW_nil h2;obtain⟨xs,rfl,h3⟩:=hasW_list h1;obtain⟨ns,rfl⟩:=items_int h3;have hlen:ns.length<=n:=by
  unfold OpenLaw.pre at hc;have h4:(WTm.not (.lt (.lit (.int (n:Int))) (.len (.arg 0)))).holds [] { args:=[.list (ns.map .int)] }=true:=by
   have h4:=(holds_andW hc).1;rw[hn]at h4;exact h4
  have h5:=condW_of h4 (w_not (w_lt w_lit (w_len_list (w_arg rfl))));rw[δ]at h5;refine Nat.le_of_not_lt fun q=>?_;have q':(n:Int)<((ns.length:Nat):Int):=by omega
  first
   | (rw[decide_eq_true q']at h5;exact absurd h5 (by decide))
   | (simp at h5;omega)
 cases hwl with
 |cons w1 w2 =>
  cases w2;cases w1 with
  |list ho hall=>exact⟨_,_,ns,rfl,rfl,ho,mS ns _ hall,hlen⟩
theorem aHg(l:OpenLaw)(args:List WData):l.row.toRowW.claim.post args (.bool true) args=true :=
 postW_of (r:=l.row.toRowW) (X:=(true == true))
  (show WShape.has [] (.bool true) .bool=true by first|rfl|decide|simp[WShape.has,WShape.arms,WShape.armsAll])
  (show(WTm.eq .res (.lit (.bool true))).value [] { args:=args,res:=some (.bool true),after:=args }=some (.bool (true == true)) from w_eq_bool (w_res rfl) w_lit) rfl
theorem attach_call{l:OpenLaw}{YP:jl->kq->Prop}{d:DefRec}
  (hn:l.most=some n)(hdf:d.params.defaults=[])
  (call:∀(w:jl) (s₀ s₁ : ς) (mg mb:Str->Option Value) (fa:Addr) (o:Obj) (pm cd doc:Value) (a:Addr) (vs:List Value) (ns:List Int),
   Ground q loose [] XP w s₀ mg mb s₁.heap->YP w s₁.heap →
   s₁.heap.get? fa=some o->o.data=.func (docDef d.name d.params d.body d.scope pm cd doc)->s₁.heap.CodeRec cd d.name->mg d.name=some (.ref fa) →
   s₁.heap.get? a=some { cls:=.type "list",data:=.seq vs.toArray }->IntsAre vs ns->ns.length<=n->s₁.gens = #[] →
   codeAny (ik l.prog w) callerA (.call (.ref fa) ⟨[.ref a],[]⟩) (fun r s'=>r=.ok (.ret (.bool true))/\OldK s₁.heap s'.heap/\s'.os=s₁.os/\AllBare s'.gens) s₁):
  WalkO q loose XP YP l.row.toRowW d [] (fun f vs=>PySem.call f vs):=by
 intro w s₀ s₁ mg mb G Y fa o pm cd doc dV kV ho hd hcd hD hmg hg args vals as hpre hlay hrd hwl hlo;obtain rfl:dV=.none:=Dflts.none hD hdf;obtain rfl:kV=.none:=Dflts.noKw hD;obtain⟨a,vs,ns,rfl,rfl,hobj,hints,hlen⟩:=aGv hn hpre hwl;refine enter_call (codeAny_mono (call w s₀ s₁ mg mb fa o pm cd doc a vs ns G Y ho (fd_plain hd) hcd hmg hobj hints hlen hg) fun r s' hq=>?_);obtain⟨rfl,h2,h3,h4⟩:=hq;exact⟨.inl ⟨.bool true,.bool true,[],rfl,fun _=>rfl,.bool true,aHg l _,fun _=>⟨xi,fun _ hm=>(nomatch hm)⟩⟩,h2,h3,h4⟩
section
variable {prog:io}{w:jl}{A:km}{E:Value->ς->Prop}{s:ς}{K:Δ}
end
end Att
namespace L2
open PySem PySem.Spec PyProof.Rows
theorem sM:∀{vs:List Value}{ns:List Int},IntsAre vs ns->kO (ns.map V.int) vs
 |_,_,.nil=>.nil
 |_,_,.cons n t h=>.cons ⟨t,rfl⟩ (sM h)
def Only (H:Hp):Prop:=∀b,H b=none\/∃o xs,H b=some (.frz o (.lst xs))
theorem aKa{K:Δ}{mb:Str->Option Value}{CX:CXT}{a:Addr}{x:Str}{sp:Sp}{s₁: ς}{vs:List Value}
  (KX:K.In s₁.heap)(hns:s₁.heap.Ns gv mg)(hb:s₁.heap.Ns builtinsNs mb)(hbb:∀x:Str,x ≠ "__name__"->mb x=lr x)(hlim:s₁.heap.NoLimit)(hg:s₁.gens = #[])
  (ha:s₁.heap.get? a=some { cls:=.type "list",data:=.seq vs.toArray })(hi:IntsAre vs ns)(hl:ns.length<=χ)(hr:xG k callerA)
  (F:∀base:kq,K.In base->base.Ns gv mg->kJ P w K mg base CX k fa fd [x] sp)(hbind:∀(s:ς) (u:Value),BindsTo s fd ⟨[u],[]⟩ [(x,u)])
  (hsp:∀H:Hp,Only H->SqL K H a (ns.map V.int)->sp [.ref a] H (fun v _=>v=.bl true) fun _ _ _=>False)
  (hCX:∀H e s',CX [] H s₁ (fun _ _ _=>False) e s'->False):
  codeAny (ik P w) callerA (.call (.ref fa) ⟨[.ref a],[]⟩) (fun r s'=>r=.ok (.ret (.bool true))/\OldK s₁.heap s'.heap/\s'.os=s₁.os/\AllBare s'.gens) s₁:=by
 have rv:=sM hi;have lenV:=hi.length;have core:∀H:Hp,Only H->SqL K H a (ns.map V.int)->HOk P w H s₁.heap->(∀b,H b≠none->b=a)->(H a≠none->K.lookup a=none) →
   codeAny (ik P w) callerA (.call (.ref fa) ⟨[.ref a],[]⟩) (fun r s'=>r=.ok (.ret (.bool true))/\OldK s₁.heap s'.heap/\s'.os=s₁.os/\AllBare s'.gens) s₁:=by
  intro H hO hS hok hA hK;have base_of:∀{b:Addr}{o:Obj},s₁.heap.get? b=some o->H b=none->(uO s₁.heap H).get? b=some o:=fun e n=>aLm e n;have noA:∀{b:Addr}{o:Obj}{es:Array vj}{ep:Nat},s₁.heap.get? b=some o->o.data=.dict es ep->H b=none:=fun {b o es ep} e d=>by
   cases q:H b with
   |none=>rfl
   |some u =>
    have e':b=a:=hA b (by rw[q];simp);subst e';rw[ha]at e;cases e;have d':Data.seq vs.toArray _=Data.dict es ep:=d;cases d'
  have nsK:∀{b:Addr}{m:Str->Option Value},s₁.heap.Ns b m->(uO s₁.heap H).Ns b m:=fun {b m} ⟨o,es,ep,e,d,r⟩=>⟨o,es,ep,base_of e (noA e d),d,r⟩;have hKb:K.In (uO s₁.heap H):=fun b o e=>base_of (KX b o e) (by
   cases q:H b with
   |none=>rfl
   |some u =>
    have e':b=a:=hA b (by rw[q];simp);subst e';rw[hK (by rw[q];simp)]at e;cases e)
  have hM:Mod K mg (uO s₁.heap H):=⟨hKb,nsK hns,⟨mb,nsK hb,hbb⟩,let ⟨mc,h1,h2⟩:=hlim; ⟨mc,nsK h1,h2⟩⟩;have e0:rF P w K mg (uO s₁.heap H) callerA [] s₁ H:=⟨rfl,hM,fun b o e=>aNd e,Nat.le_of_eq (aGk _ _),trivial,fun b hb=>absurd (show b∈([]:List Addr) from hb) (by simp),hok,.of_eq hg⟩;refine codeAny_mono ((F _ hKb (nsK hns)).run callerA [] s₁ H ⟨[.ref a],[]⟩ [.ref a] [.ref a] _ _ hr e0 (hbind s₁ (.ref a)) (.cons rfl .nil) (hsp H hO hS)) fun r s' h=>?_;cases r with
  |error e=>exact(hCX H e s' h).elim
  |ok fl =>
   cases fl with
   |next=>exact kc h
   |brk=>exact kc h
   |cont=>exact kc h
   |ret u =>
    obtain⟨v,H',os,bare,un,hok',r',q⟩:=h;have q':v=.bl true:=q;subst q';obtain rfl:u=Value.bool true:=r';refine⟨rfl,OldK.of_keep fun b o e=>?_,os,bare⟩;cases q:H b with
    |none=>exact un.keep b o e q (by intro z;exact absurd (show b∈([]:List Addr) from z) (by simp)) (by simp)
    |some u =>
     rcases hO b with z|⟨ob,xs,z⟩
     ·rw[q]at z;cases z
     ·have z2:=un.frzs b ob _ z;obtain⟨e1,_⟩:=hok b _ z;obtain⟨e2,_⟩:=hok' b _ z2;rw[e]at e1;cases e1;exact e2
 cases hk:K.lookup a with
 |some o =>
  have e:=KX a o hk;rw[ha]at e;cases e;refine core (fun _=>none) (fun _=>.inl rfl) (.inr ⟨_,vs.toArray,_,hk,rfl,rfl,rfl,by rw[Ξ,lenV];exact hl,by simpa using rv⟩) (fun b u z=>by have z':(none:Option HO)=some u:=z;cases z') (fun b z=>absurd rfl z) fun z=>absurd rfl z
 |none =>
  refine core (fun b=>if b=a then some (.frz { cls:=.type "list",data:=.seq vs.toArray } (.lst (ns.map V.int))) else none) (fun b=>?_) (.inl (.inr ⟨{ cls:=.type "list",data:=.seq vs.toArray },if_pos rfl⟩)) (fun b u z=>?_) (fun b z=>?_) fun _=>hk
  ·by_cases hb:b=a
   ·exact .inr ⟨_,_,if_pos hb⟩
   ·exact .inl (if_neg hb)
  ·by_cases hb:b=a
   ·have z':=(if_pos hb).symm.trans z;cases z';subst hb;exact⟨ha,by rw[δ];exact hl,vs,_,rv,ha⟩
   ·have z':=(if_neg hb).symm.trans z;cases z'
  ·by_cases hb:b=a
   ·exact hb
   ·exact absurd (if_neg hb) z
theorem aMg{l:PySem.W.OpenLaw}{YP:jl->kq->Prop}{d:DefRec}{K:Params->Δ}{CX:jl->CXT}{sp:jl->Sp}{x:Str}
  (hn:l.most=some n)(hn2:n<=χ)(hdf:d.params.defaults=[])(hr:xG k callerA)
  (hY:∀(w:jl) (h:kq),YP w h->(K w.params).In h)
  (F:∀(w:jl) (mg:Str->Option Value) (fa:Addr) (h:kq),(K w.params).In h->h.Ns gv mg->mg d.name=some (.ref fa) →
   ∃fd:tw,(∀(s:ς) (u:Value),BindsTo s fd ⟨[u],[]⟩ [(x,u)]) ∧
    ∀base:kq,(K w.params).In base->base.Ns gv mg->kJ l.prog w (K w.params) mg base (CX w) k fa fd [x] (sp w))
  (hsp:∀(w:jl) (H:Hp) (a:Addr) (ns:List Int),ns.length<=n->Only H->SqL (K w.params) H a (ns.map V.int)->sp w [.ref a] H (fun v _=>v=.bl true) fun _ _ _=>False)
  (hCX:∀(w:jl) (H:Hp) (s:ς) (e:Value) (s':ς),CX w [] H s (fun _ _ _=>False) e s'->False):
  PySem.W.WalkO q loose XP YP l.row.toRowW d [] (fun f vs=>PySem.call f vs):=by
 refine Att.attach_call hn hdf fun w s₀ s₁ mg mb fa o pm cd doc a vs ns G Y ho hd hcd hmg hobj hints hlen hg=>?_;have KX:=hY w _ Y;obtain⟨fd,hb,hF⟩:=F w mg fa _ KX G.T.g hmg;exact aKa KX G.T.g G.T.b G.T.builtins G.T.nolimit hg hobj hints (Ψ hlen hn2) hr hF hb (fun H hO hS=>hsp w H a ns hlen hO hS) fun H e s'=>hCX w H s₁ e s'
def inClass (s:Stmt) (j:Nat):Stmt:=match s with
 |.ClassDef _ _ _ body _ _ _ _ _ _ _=>body.getD j (.Pass ⟨0,0,0,0⟩)
 |_=>.Pass ⟨0,0,0,0⟩
def cB (s:Stmt):Arguments:=match s with
 |.FunctionDef _ a _ _ _ _ _ _ _ _=>a
 |_=>{ posonlyargs:=[],args:=[],vararg:=none,kwonlyargs:=[],kw_defaults:=[],kwarg:=none,defaults:=[] }
def aI (s:Stmt):List Stmt:=match s with
 |.FunctionDef _ _ b _ _ _ _ _ _ _=>b
 |_=>[]
def jI (s:Stmt):Scope:=match s with
 |.FunctionDef _ _ _ _ _ _ sc _ _ _=>sc
 |_=>{ kind:=.function,names:=[],isGenerator:=false,isCoroutine:=false }
abbrev CX0:CXT:=fun _ _ _ _ _ _=>False
abbrev E0:XK:=fun _ _ _=>False
theorem vG : zR CX0 X E0:=fun _ _ _ _ _ _ _ h=>h.elim
structure Fun (K:Δ) (x qual:Str) (st:Stmt) (f:Addr) (fd:tw):Prop where
 ex:∃(oc:Value) (od:Option Addr) (kV doc pm:Value) (an:Option Addr) (cdv ct:Value) (osl:Array (Option Value)),
  fd=fnOf x qual (cB st) (aI st) (jI st) .none kV doc pm an cdv ct/\K.lookup f=some ⟨oc,od,.func fd,osl⟩/\codeIn K cdv qual=true
 kp:keepIn K (.ref f)=true
section
variable {P:io}{w:jl}{K:Δ}{mg:Str->Option Value}{base:kq}
theorem Fun.ok{x qual:Str}{st:Stmt}{f:Addr}{fd:tw}{N ps:List Str}{k:Nat}{sp:Sp}(F:Fun K x qual st f fd)(S:jN N ps (jI st))(len:∀vs H Q E,sp vs H Q E->vs.length=ps.length)
  (hbody:∀(cdv:Value) (A:km) (outer:List Env) (s:ς) (H:Hp) (vs:List V) (Q:VK) (E:XK),xG k (A.deeper (envOfC qual (jI st) s.heap.objs.size f cdv))->sp vs H Q E →
   ∃t,PSs (aDt CX0 P w K mg base N qual (jI st) f cdv A outer s H E).nox (aI st) t/\t { nx:=fun _ H'=>Q .non H',rt:=Q } (start N vs) H):kJ P w K mg base CX0 (k+1) f fd ps sp:=by
 obtain⟨oc,od,kV,doc,pm,an,cdv,ct,osl,rfl,lk,hcd⟩:=F.ex;refine fn_of lk hcd S len fun A outer s H vs Q E hr hsp=>?_;obtain⟨t,h,q⟩:=hbody cdv A outer s H vs Q E hr hsp;exact⟨t,h.nox,q⟩
theorem Fun.binds{x qual:Str}{st:Stmt}{f:Addr}{fd:tw}{ps:List Str}(F:Fun K x qual st f fd)
  (h:∀(kV doc pm:Value) (an:Option Addr) (cdv ct:Value) (us:List Value),us.length=ps.length->bindArgs (fnOf x qual (cB st) (aI st) (jI st) .none kV doc pm an cdv ct) ⟨us,[]⟩=pure (ps.zip us)):Binds K fd ps []:=by
 obtain⟨oc,od,kV,doc,pm,an,cdv,ct,osl,rfl,lk,hcd⟩:=F.ex;exact .all (h kV doc pm an cdv ct)
theorem aLq{x qual:Str}{st:Stmt}{f:Addr}{oc:Value}{od an:Option Addr}{osl:Array (Option Value)}{kV doc pm cdv ct:Value}(l:K.lookup f=some ⟨oc,od,.func (fnOf x qual (cB st) (aI st) (jI st) .none kV doc pm an cdv ct),osl⟩)
  (c:codeIn K cdv qual=true)(k:keepIn K (.ref f)=true):Fun K x qual st f (fnOf x qual (cB st) (aI st) (jI st) .none kV doc pm an cdv ct):=⟨⟨oc,od,kV,doc,pm,an,cdv,ct,osl,rfl,l,c⟩,k⟩
end
theorem kM{n:Nat}(h:n<=1000):n<χ:=mw h (by decide)
section
variable {X:Cx}
theorem pv(i:Nat)(hN:X.N[i]?=some x:=by rfl)(hv:Vis X.env.scope x:=by first|exact Or.inl rfl|exact Or.inr (Or.inl rfl)|exact Or.inr (Or.inr rfl))(hd:(x == ("__debug__" : Str))=false:=by decide)
  (hcd:(x == ("__classdict__" : Str))=false:=by decide):PE X (.Name x pos) (tVar i):=aPo hN hv hd hcd
end
theorem eN{A B:Prop}(h:B):if false=true then A else B:=by
 rw[if_neg ο];exact h
theorem aBb{A B:Prop}(h:A):if true=true then A else B:=by
 rw[if_pos rfl];exact h
theorem yG{c A B:Prop}[Decidable c](h1:c->A)(h2:¬ c->B):if c then A else B:=by
 by_cases h:c
 ·rw[if_pos h];exact h1 h
 ·rw[if_neg h];exact h2 h
def jG (H H':Hp):Prop:=∀b o,H b=some o->H' b=some o
theorem jG.refl(H:Hp):jG H H:=fun _ _ h=>h
theorem jG.trans(a:jG H H1)(b:jG H1 H2):jG H H2:=fun c o h=>b c o (a c o h)
theorem jG.free{H H':Hp}(e:jG H H')(h:H' l=Option.none):H l=Option.none:=by
 cases q:H l with
 |none=>rfl
 |some o =>
  rw[e l o q]at h;cases h
theorem jG.seq{K:Δ}(e:jG H H')(h:SqL K H a xs):SqL K H' a xs:=by
 rcases h with (h|⟨o,h⟩)|h
 ·exact .inl (.inl (e _ _ h))
 ·exact .inl (.inr ⟨o,e _ _ h⟩)
 ·exact .inr h
end L2
set_option maxHeartbeats 4000000
namespace L2
open PySem PySem.Spec PyProof.Rows
theorem kO.getR:∀{xs:List V}{us:List Value}{i:Nat}{u:Value},kO xs us->us[i]?=some u->∃x,xs[i]?=some x/\RelV x u
 |_,_,_,_,.nil,e=>by simp at e
 |_,_,0,_,.cons r _,e=>by simp at e;subst e;exact⟨_,rfl,r⟩
 |_,_,i+1,u,.cons _ t,e=>by
  obtain⟨x,h1,h2⟩:=kO.getR (i:=i) (u:=u) t (by simpa using e);exact⟨x,by simpa using h1,h2⟩
def isa (t T:String):Bool:=t == T||(t == "bool" && T == "int")
def tyN (K:Δ) (x:V) (H:Hp) (t:String):Prop :=
 match x with
 |.non=>t = "NoneType"
 |.bl _=>t = "bool"
 |.int _=>t = "int"
 |.str _=>t = "str"
 |.ref p=>(t = "list"/\∃xs,SqL K H p xs)\/(t = "tuple"/\∃xs,SqT K H p xs)
 |_=>False
def sQ:List String:=["int","bool","str","list","tuple","dict"]
section
variable {X:Cx}
theorem pD:vD X (.builtin "isinstance") (fun xs H Q=>∃x T t,xs=[x,.ty T]/\T∈sQ/\tyN X.K x H t/\Q (.bl (isa t T)) H):=by
 intro pins s σ H xs us Q I r h;obtain⟨x,T,t,rfl,hT,ht,q⟩:=h;obtain⟨u,w',rfl,rx,rT⟩:=vals2 r;cases rT;have hT':T = "int" ∨ T = "bool" ∨ T = "str" ∨ T = "list" ∨ T = "tuple" ∨ T = "dict":=by simpa [sQ] using hT
 have fin:∀{k:Bool}{s':ς},isa t T=k->Inv X pins σ H s'->EP X pins σ Q (.bool k) s':=fun {k s'} e I'=>by subst e;exact⟨.bl _,H,I',rfl,q⟩
 cases x with
 |non =>
  cases rx;have ht':t = "NoneType":=ht;subst ht';rcases hT' with rfl|rfl|rfl|rfl|rfl|rfl
  ·exact IsiPair.NoneType_int (fin (by decide) (I.tok _))
  ·exact IsiPair.NoneType_bool (fin (by decide) (I.tok _))
  ·exact IsiPair.NoneType_str (fin (by decide) (I.tok _))
  ·exact IsiPair.NoneType_list (fin (by decide) (I.tok _))
  ·exact IsiPair.NoneType_tuple (fin (by decide) (I.tok _))
  ·exact IsiPair.NoneType_dict (fin (by decide) (I.tok _))
 |bl b =>
  cases rx;have ht':t = "bool":=ht;subst ht';rcases hT' with rfl|rfl|rfl|rfl|rfl|rfl
  ·exact IsiPair.bool_int (fin (by decide) I)
  ·exact IsiPair.bool_bool (fin (by decide) I)
  ·exact IsiPair.bool_str (fin (by decide) (I.tok _))
  ·exact IsiPair.bool_list (fin (by decide) (I.tok _))
  ·exact IsiPair.bool_tuple (fin (by decide) (I.tok _))
  ·exact IsiPair.bool_dict (fin (by decide) (I.tok _))
 |int i =>
  obtain⟨tk,rfl⟩:=rx;have ht':t = "int":=ht;subst ht';rcases hT' with rfl|rfl|rfl|rfl|rfl|rfl
  ·exact IsiPair.int_int (fin (by decide) I)
  ·exact IsiPair.int_bool (fin (by decide) (I.tok _))
  ·exact IsiPair.int_str (fin (by decide) (I.tok _))
  ·exact IsiPair.int_list (fin (by decide) (I.tok _))
  ·exact IsiPair.int_tuple (fin (by decide) (I.tok _))
  ·exact IsiPair.int_dict (fin (by decide) (I.tok _))
 |str y =>
  obtain⟨tk,rfl⟩:=rx;have ht':t = "str":=ht;subst ht';rcases hT' with rfl|rfl|rfl|rfl|rfl|rfl
  ·exact IsiPair.str_int (fin (by decide) (I.tok _))
  ·exact IsiPair.str_bool (fin (by decide) (I.tok _))
  ·exact IsiPair.str_str (fin (by decide) I)
  ·exact IsiPair.str_list (fin (by decide) (I.tok _))
  ·exact IsiPair.str_tuple (fin (by decide) (I.tok _))
  ·exact IsiPair.str_dict (fin (by decide) (I.tok _))
 |ref p =>
  cases rx;have ht':(t = "list"/\∃xs,SqL X.K H p xs)\/(t = "tuple"/\∃xs,SqT X.K H p xs):=ht;rcases ht' with⟨rfl,ys,hy⟩|⟨rfl,ys,hy⟩
  ·obtain⟨its,rv,⟨o,n,e,hc,_,_⟩,hz⟩:=I.list hy;rcases hT' with rfl|rfl|rfl|rfl|rfl|rfl
   ·exact IsiPair.list_int e hc (fin (by decide) (I.tok _))
   ·exact IsiPair.list_bool e hc (fin (by decide) (I.tok _))
   ·exact IsiPair.list_str e hc (fin (by decide) (I.tok _))
   ·exact IsiPair.list_list e hc (fin (by decide) I)
   ·exact IsiPair.list_tuple e hc (fin (by decide) (I.tok _))
   ·exact IsiPair.list_dict e hc (fin (by decide) (I.tok _))
  ·obtain⟨its,rv,⟨o,e,hc,n,_⟩,hz⟩:=I.tuple hy;rcases hT' with rfl|rfl|rfl|rfl|rfl|rfl
   ·exact IsiPair.tuple_int e hc (fin (by decide) (I.tok _))
   ·exact IsiPair.tuple_bool e hc (fin (by decide) (I.tok _))
   ·exact IsiPair.tuple_str e hc (fin (by decide) (I.tok _))
   ·exact IsiPair.tuple_list e hc (fin (by decide) (I.tok _))
   ·exact IsiPair.tuple_tuple e hc (fin (by decide) I)
   ·exact IsiPair.tuple_dict e hc (fin (by decide) (I.tok _))
 |_=>exact(show False from ht).elim
end
section
variable {X:Cx}{pos:Pos}
theorem mQ(bs:List Bool):(ir bs.length).all (fun i=>bs.getD i false)=bs.all id:=by
 rw[qr];simp only[ia,vb,id];constructor
 ·intro h x hx;obtain⟨i,hi,rfl⟩:=List.mem_iff_getElem.mp hx;have:=h i hi;simpa [Θ,η hi] using this
 ·intro h i hi;have:=h bs[i] (ju hi);simpa [Θ,η hi] using this
theorem yK(hc:X.calm=true):vD X (.builtin "all") (fun xs H Q=>∃(a:Addr) (bs:List Bool),xs=[.ref a]/\SqL X.K H a (bs.map V.bl)/\Q (.bl (bs.all id)) H):=by
 intro pins s σ H xs us Q I r h;obtain⟨a,bs,rfl,ha,q⟩:=h;obtain⟨u,rfl,rx⟩:=vals1 r;cases rx;obtain⟨its,rv,pl,hz⟩:=I.list ha;have hlen:bs.length=its.length:=by have:=rv.length;simpa using this
 have hlt:a≠s.heap.objs.size:=by obtain⟨o,n,ho,_⟩:=pl;exact ii (gx ho)
 refine call_all_walk (qk pl.isList ?_);refine⟨s.heap.objs.size,_,_,_,_,_,fun i=>bs.getD i false,rfl,Walks.list (show X.A.in1.handled=none from I.ok.hd hc) _ a hlt its.toArray,⟨⟨_,gm _ rfl,rfl,rfl⟩,pl.isList.push _⟩,?_,fun h' tk hk=>?_⟩
 ·intro i v s' Q' E' hP hQ;have hv:its[i]?=some v:=by simpa using hP
  obtain⟨x,hx,rxv⟩:=rv.getR hv;rw[gu]at hx;cases hb:bs[i]? with
  |none=>rw[hb]at hx;cases hx
  |some b =>
   rw[hb]at hx;cases hx;cases rxv;have e:bs.getD i false=b:=by simp[Θ,hb]
   have hQ':Q' (bs.getD i false) s':=hQ;rw[e]at hQ';exact kg hQ'
 ·refine⟨.bl (bs.all id),H,I.kept fun b o e=>hk b o (by simp;exact ii (gx e)) (ω _ e),?_,q⟩;show Value.bool _=Value.bool _;rw[←mQ bs,hlen];simp
end
abbrev Cx.comp (X:Cx) (scope:Scope) (cl:List (Str×Addr)) (N:List Str) (s:ς) (H:Hp) (fp:List Addr) (C:Addr):Cx where
 prog:=X.prog
 w:=X.w
 K:=X.K
 mg:=X.mg
 base:=X.base
 A:=X.A
 N:=N
 s₀:=s
 H₀:=H
 env:=compEnvC scope cl C X.env
 outer:=X.stack
 stack:=X.stack
 ex:=fp
 fn:=fun _=>false
 calm:=X.calm
 pn:=[]
 xe:=fun _ _=>False
def hZ (env:Env):List (Str×Addr)->Prop
 |[]=>True
 |p::r=>env.cells.lookup p.1=some p.2/\hZ env r
theorem hZ.all : ∀{cl:List (Str×Addr)},hZ env cl->∀p∈cl,env.cells.lookup p.1=some p.2
 |[],_,p,hp=>by simp at hp
 |_::_,h,p,hp=>(υ.mp hp).elim (fun e=>e ▸ h.1) (hZ.all h.2 p)
theorem hZ.at(h:hZ env cl)(e:cl.lookup x=some c):env.cells.lookup x=some c :=
 h.all (x,c) (lu e)
def pS (X:Cx) (scope:Scope) (cl:List (Str×Addr)):List Str->List Nat->Prop
 |[],[]=>True
 |y::ys,j::js=>(X.N[j]?=some y/\X.env.kindOf y=some .cell/\(relabel scope X.env).names.lookup y=some .cell/\∃c,cl.lookup y=some c)/\pS X scope cl ys js
 |_,_=>False
theorem pS.get : ∀{ys:List Str}{js:List Nat}{k:Nat}{y:Str},pS X scope cl ys js->ys[k]?=some y →
  ∃j,js[k]?=some j/\X.N[j]?=some y/\X.env.kindOf y=some .cell/\(relabel scope X.env).names.lookup y=some .cell/\∃c,cl.lookup y=some c
 |[],[],k,y,_,e=>by simp at e
 |y'::ys,j::js,0,y,h,e=>by
  simp at e;subst e;exact⟨j,rfl,h.1⟩
 |y'::ys,j::js,k+1,y,h,e=>by
  obtain⟨j',e1,r⟩:=pS.get (k:=k) h.2 (by simpa using e);exact⟨j',by simpa using e1,r⟩
 |[],_::_,_,_,h,_=>h.elim
 |_::_,[],_,_,h,_=>h.elim
theorem pS.len : ∀{ys:List Str}{js:List Nat},pS X scope cl ys js->ys.length=js.length
 |[],[],_=>rfl
 |_::_,_::_,h=>by rw[gj,gj,pS.len h.2]
 |[],_::_,h=>h.elim
 |_::_,[],h=>h.elim
def eU (k:Nat) (js:List Nat) (σ:St):St:=ve k none++js.map fun j=>σ.getD j none
def PIf (X:Cx) (ifs:List Expr) (t:TT):Prop :=
 ∀(pins:List (Addr×Obj)) (s:ς) (σ:St) (H:Hp) (Q:Bool->Hp->Prop),Inv X pins σ H s->t σ H Q →
  gp (ik X.prog X.w) X.A (forIn ifs true fun c r=>if r=true then do let ok ←isTrue c X.env (eval c X.env);pure (uh ok) else pure (uh r)) (TP X pins σ Q) X.xe s
def tYes:TT:=fun _ H Q=>Q true H
theorem kQ : PIf X [] tYes:=fun _ _ _ H _ I h=>wpAny_tests_nil ⟨H,I,h⟩
theorem aMs(h:PT X c t):PIf X [c] t:=fun pins s σ H Q I hq=>wpAny_tests_one (h pins s σ H Q I hq)
theorem Inv.nsys(I:Inv X pins σ H s):s.heap.objs.size≠ja:=fun z=>by
 have h:gv<s.heap.objs.size:=(I.mod.glob.keeps I.bk).lt;rw[z]at h;exact absurd h (by decide)
def dY (J:It) (k:Nat) (js:List Nat) (g:TG) (tc:TT) (te:TE) (σ:St) (Q:VK) (H1:Hp):Prop :=
 ∃W:Nat->Nat->St->List V->Hp->Prop,(∃m,W 0 m (eU k js σ) [] H1)/\∀i m σ' xs H',W i m σ' xs H' →
  (J.stop i H'/\∀p,H' p=none->p≠ja->Q (.ref p) (upd H' p (.lst xs))) ∨
  (J.go i H'/\xs.length<χ/\∃N:St->List V->Hp->Prop,(∀σ' ys H',N σ' ys H'->∃m',m'<m/\W (i+1) m' σ' ys H') ∧
   ∀x H2,J.yld i H' x H2->g x σ' H2 fun σ3 H3=>tc σ3 H3 fun b H4=>if b=true then te σ3 H4 fun v H5=>N σ3 (xs++[v]) H5 else N σ3 xs H4)
def tComp (wi:TI) (k:Nat) (js:List Nat) (g:TG) (tc:TT) (te:TE):TE:=fun σ H Q=>wi σ H fun J H1=>dY J k js g tc te σ Q H1
section
variable {prog:io}{w:jl}{A:km}{R:Result->ς->Prop}{s:ς}
theorem sT{iter:Expr}{acc:Value}(I:Nat->ς->Prop)
  (turn:∀n s,I n s->gp (ik prog w) A (pyNext it) (fun r s₁=>match r with
   |none=>R (.ok .next) s₁
   |some v=>gp (ik prog w) A (wl target it v) (fun _ s₀=>gp (ik prog w) A (assign target env v) (fun _ s₂ =>
     gp (ik prog w) A (forIn ifs true fun c r=>if r=true then do let ok ←isTrue c env (eval c env);pure (uh ok) else pure (uh r)) (fun ok s₃ =>
      if ok=true then gp (ik prog w) A (eval elt env) (fun x s₄ =>
       gp (ik prog w) A (call (.builtin "list.append") [acc,x]) (fun _ s₅=>∃m,m<n/\I m s₅) (fun _ _=>False) s₄) (fun _ _=>False) s₃
      else ∃m,m<n/\I m s₃) (fun _ _=>False) s₂) (fun _ _=>False) s₀) (fun _ _=>False) s₁) (fun _ _=>False) s)
  (n:Nat)(h:I n s):codeAny (ik prog w) A (.compLoop (.ListComp elt [⟨target,iter,ifs,0⟩] scope pos) 0 it acc env) R s:=by
 refine codeAny_loop rfl I (fun n s hI=>?_) n h;show gp _ A ((compTurn (.ListComp elt [⟨target,iter,ifs,0⟩] scope pos) 0 it acc env).onRaise (fun x=>do noteFrame x env;theTreesLotGoes x)) _ _ s;refine wpAny_noted ?_;rw[compTurn_list];refine ε (wpAny_standAt (ε (md (turn n s hI) (fun r s₁ h₁=>?_) fun _ _ z=>kc z)));cases r with
 |none=>exact π h₁
 |some v =>
  refine ε (md h₁ (fun _ s₀ h₀=>?_) fun _ _ z=>kc z);refine ε (md h₀ (fun _ s₂ h₂=>ε (md h₂ (fun ok s₃ h₃=>?_) fun _ _ z=>kc z)) fun _ _ z=>kc z);cases ok with
  |false=>exact π ⟨rfl,h₃⟩
  |true =>
   exact ε (ε (md h₃ (fun x s₄ h₄=>ε (md h₄ (fun _ s₅ h₅=>π (π ⟨rfl,h₅⟩)) fun _ _ z=>kc z)) fun _ _ z=>kc z))
end
theorem HOk.but{H:Hp}{h':kq}(x:HOk P w H h)(hn:H C=none)(k:∀b o,b≠C->h.get? b=some o->h'.get? b=some o):HOk P w H h':=fun b u e =>
 (x b u e).stay (fun c v hc q=>k c v (by
  rcases hc with z|z
  ·intro y;rw[←z,y,hn]at e;cases e
  ·intro y;rw[y,hn]at z;cases z) q) (fun _ q=>q) fun _ _ q=>q
theorem HOk.track{H:Hp}(x:HOk P w H h)(hn:H a=none)(new:qO P w (upd H a o) h a o):HOk P w (upd H a o) h:=fun b u e=>by
 by_cases hb:b=a
 ·subst hb;rw[jR]at e;cases e;exact new
 ·rw[jS hb]at e;exact(x b u e).stay (fun _ _ _ q=>q) (fun c q=>by rw[jS (jM q hn)];exact q) fun c xs q=>by rw[jS (jM q hn)];exact q
section
variable {X:Cx}{elt tg iter:Expr}{ifs:List Expr}{scope:Scope}{cl:List (Str×Addr)}{ts ys:List Str}{js:List Nat}{pos:Pos}{wi:TI}{g:TG}{tc:TT}{te:TE}
theorem aGw{i:Nat}(h:(eU k js σ)[i]?=some (some v)):∃n j,i=k+n/\js[n]?=some j/\σ[j]?=some (some v):=by
 unfold eU at h
 by_cases hi:i<k
 ·rw[ig (by simpa using hi),List.getElem?_replicate]at h
  split at h <;> cases h
 ·rw[gr (by simpa using hi),gu,nj]at h;cases e:js[i-k]? with
  |none=>rw[e]at h;cases h
  |some j =>
   rw[e]at h;have h' : σ.getD j none=some v:=jg h;refine⟨i-k,j,by omega,e,?_⟩;rw[Θ]at h';cases q : σ[j]? with
   |none=>rw[q]at h';cases h'
   |some o=>rw[q]at h';exact congrArg some h'
theorem aCe{s:ς}{fp:List Addr}{C:Addr}{h1:kq}{t':Nat}(I:Inv X pins σ H s)(hsub:hZ X.env cl)(hcap:pS X scope cl ys js)
  (hkind:scope.kind=.function)(hhas:∀x,((relabel scope X.env).names.lookup x=some .cell\/(relabel scope X.env).names.lookup x=some .free)->∃c,cl.lookup x=some c)
  (f2:∀b∈fp,eO X pins H b)(fl:∀b∈fp,b<s.heap.objs.size)(hC:s.heap.objs.size<=C)(hn:h1.Ns C m)(old:∀b o,s.heap.get? b=some o->h1.get? b=some o):
  Inv (X.comp scope cl (ts++ys) s H fp C) [] (eU ts.length js σ) H { s with heap:=h1,toks:=t' }:=by
 obtain⟨mo,hno,hlo⟩:=id I.loc;refine⟨⟨I.ok.mod,hkind,I.ok.glob,I.ok.blt,hC,fun x y c e1 e2=>I.ok.inj x y c (hsub.at e1) (hsub.at e2),fun x hx=>hhas x hx,fun x c z _=>(by cases z),I.ok.hd,I.ok.frames,.inl rfl,
   fun b hb=>⟨ii (Γ (fl b hb) hC),fun x c e=>(f2 b hb).2.2.2.2.1 x c (hsub.at e)⟩,I.bs,Ψ I.ok.bsz I.sz,fun b o e hb=>?_,fun b hb z=>?_,I.stack,I.stkFree⟩,
  rfl,I.bare,Un.kept old,⟨m,hn,fun i x v e1 e2 e3=>?_⟩,fun x c e=>?_,I.hok.fresh hC,fun x c e=>I.freeC x c (hsub.at e),fun p hp=>absurd (show p∈([]:List (Addr×Obj)) from hp) (by simp),I.hok.kept old,?_⟩
 ·-- an object of the base is none of the iterator's
  obtain⟨_,_,_,h3,_⟩:=f2 b hb;rcases h3 with z|z
  ·exact I.ok.noex b o e z
  ·exact absurd (Γ (gx e) (Ψ I.ok.bsz z)) (qb _)
 ·obtain⟨_,h1',h2',_⟩:=f2 b hb;rcases υ.mp (I.stkSub b z) with e|e
  ·exact h1' e
  ·exact h2' e
 ·obtain⟨n,j,rfl,ej,es⟩:=aGw e2;have ey:ys[n]?=some x:=by
   have e1':(ts++ys)[ts.length+n]?=some x:=e1;rw[gr (by omega)]at e1';simpa using e1'
  obtain⟨j',ej',hN,hk,hr,c,hc⟩:=hcap.get ey;rw[ej]at ej';cases ej';obtain⟨u,ru,l⟩:=hlo j x v hN es (.inr (.inl hk));refine⟨u,ru,.inr ⟨.inl hr,c,hc,?_⟩⟩;rcases l with⟨k1,_⟩|⟨_,c',hc',⟨o,ho,hd⟩⟩
  ·rw[hk]at k1;cases k1
  ·have:=hsub.at hc;rw[hc']at this;cases this;exact⟨o,old _ o ho,hd⟩
 ·obtain⟨v,o,ho,hd⟩:=I.cell x c (hsub.at e);exact⟨v,o,old _ o ho,hd⟩
 ·show(eU ts.length js σ).length=(ts++ys).length;unfold eU;rw[ξ,ξ,nj,δ,hcap.len]
theorem aJv{H3:Hp}{s4:ς}{fp:List Addr}{D:Addr}(I2:Inv X pins σ H2 s2)(f2:∀b∈fp,eO X pins H2 b)
  (I4:Inv (X.comp scope cl N s2 H2 fp C) pins' σ' H3 s4)(hC:s2.heap.objs.size<=C)(hD:s2.heap.objs.size<=D)(hDC:D≠C)(hs':qc C s4.heap h')(rv:kO xs its)(hz:xs.length<=χ)(e4:s4.heap.get? D=some { cls:=.type "list",data:=.seq its.toArray n })(hn:H3 D=none):
  Inv X pins σ (upd H3 D (.lst xs)) { s4 with heap:=h' }:=by
 have ext:=hs'.extBut;have neC:∀b o,s2.heap.get? b=some o->b≠C:=fun b o e=>ii (Γ (gx e) hC);have neD:∀b o,s2.heap.get? b=some o->b≠D:=fun b o e=>ii (Γ (gx e) hD);have hok:HOk X.prog X.w (upd H3 D (.lst xs)) h':=by
  have h1:HOk X.prog X.w H3 h':=HOk.but (C:=C) I4.hok I4.free fun b o hb e=>ext b o hb e;exact HOk.track h1 hn ⟨hz,its,n,rv,ext D _ hDC e4⟩
 have B:Un (frs X.stack) fp H2 H3 s2.heap s4.heap:=I4.base;have u:Un (frs X.stack) fp H2 (upd H3 D (.lst xs)) s2.heap h':=by
  refine⟨fun b o e q hb hx=>ext b o (neC b o e) (B.keep b o e q hb hx),fun b o e q hb hx=>?_,fun b o e q hx=>?_,fun b o e hx=>?_,fun b ys q=>?_,fun b o ys q=>?_,fun b ps q=>?_⟩
  ·obtain⟨sl,e1⟩:=B.slot b o e q hb hx;exact⟨sl,ext b _ (neC b o e) e1⟩
  ·rw[jS (neD b o e)];exact B.free b o e q hx
  ·obtain⟨o',e1⟩:=B.there b o e hx;exact⟨o',ext b _ (neC b o e) e1⟩
  ·have:=B.tups b ys q;rw[jS (jM this hn)];exact this
  ·have:=B.frzs b o ys q;rw[jS (jM this hn)];exact this
  ·obtain⟨m1,e1⟩:=B.tbls b ps q;exact⟨m1,by rw[jS (jM e1 hn)];exact e1⟩
 have os:s4.os=s2.os:=I4.os;have gb:=I4.bare;obtain⟨hh,gg,dd,tt,os'⟩:=s4;obtain rfl:os'=s2.os:=os;have fin:=I2.call (h':=h') (g':=gg) (d':=dd) (t':=tt) (ch:=fp) u hok gb fun b hb=>⟨(f2 b hb).2.2.2.1,(f2 b hb).2.1,(f2 b hb).2.2.2.2.1,(f2 b hb).2.2.2.2.2⟩;exact fin
theorem kR(ts ys:List Str)(js:List Nat)(hc:X.calm=true)(hi:PI X tg iter wi)(hclos:closureFor scope X.env=pure cl)(hsub:hZ X.env cl)(hcap:pS X scope cl ys js)
  (hg:∀s H fp C,PG (X.comp scope cl (ts++ys) s H fp C) tg g)(ht:∀s H fp C,PIf (X.comp scope cl (ts++ys) s H fp C) ifs tc)(he:∀s H fp C,PE (X.comp scope cl (ts++ys) s H fp C) elt te)
  (hkind:scope.kind=.function:=by rfl)(hcell:(scope.names.all fun y=>y.2 != .cell)=true:=by rfl)
  (hnames:(scope.names.all fun y=>y.2 != .local||scope.names.lookup y.1 == some .local)=true:=by rfl)
  (hhas:((relabel scope X.env).names.all fun p=>(p.2 != .cell&&p.2 != .free)||(cl.lookup p.1).isSome)=true:=by rfl)
  (hs:∀x,xf iter X.env x=pure x:=by intro _;rfl):PE X (.ListComp elt [⟨tg,iter,ifs,0⟩] scope pos) (tComp wi ts.length js g tc te):=by
 intro pins s σ H Q I h;have hcell':∀y∈scope.names,y.2≠.cell:=fun y hy z=>by
  have:=ia.mp hcell y hy;rw[z]at this;exact absurd this (by decide)
 have hnames':∀y∈scope.names,y.2=.local->scope.names.lookup y.1=some .local:=fun y hy z=>by
  have:=ia.mp hnames y hy;rw[z]at this;simpa using this
 have hhas':∀x,((relabel scope X.env).names.lookup x=some .cell\/(relabel scope X.env).names.lookup x=some .free)->∃c,cl.lookup x=some c:=fun x hx=>by
  rcases hx with hx|hx
  ·have:=ia.mp hhas _ (lu hx);exact nv.mp (by simpa using this)
  ·have:=ia.mp hhas _ (lu hx);exact nv.mp (by simpa using this)
 rw[eval_ListComp];refine wpAny_comprehension_free (use:=none) rfl hs hclos hkind hnames' (thn (hi pins s σ H _ I h) fun v s1 h1=>thn h1 fun itv s2 h2=>?_);obtain⟨it,fp,tn,J,H2,e,I2,T,st2,f2,W,⟨m0,w0⟩,turn⟩:=h2;subst e;have fl:∀b∈fp,b<s2.heap.objs.size:=fun b hb=>by
  obtain⟨o,e,_⟩:=T.obj _ _ st2 b hb;exact gx e
 refine qo (wpAny_newFunctionEnv hcell' (by intro y hy;simp at hy) (fun h₁ hns₁ hsb₁=>?_) hkind);dsimp only at hns₁ hsb₁ ⊢;generalize hHH:s2.heap.push { cls:=.type "list",dict:=none,data:=.seq ([]:List Value).toArray }=HH at hns₁ hsb₁ ⊢;have hC:HH.objs.size=s2.heap.objs.size+1:=by rw[←hHH,rp]
 have hDC:s2.heap.objs.size≠HH.objs.size:=by rw[hC];exact ii (tu _)
 have hCle:s2.heap.objs.size<=HH.objs.size:=by rw[hC];exact rj _
 have old:∀b o,s2.heap.get? b=some o->h₁.get? b=some o:=fun b o e =>
  hsb₁.extBut b o (ii (Γ (gx e) hCle)) (ω _ (hHH ▸ ω _ e))
 have hacc:h₁.get? s2.heap.objs.size=some { cls:=.type "list",data:=.seq ([]:List Value).toArray }:=hsb₁.extBut _ _ hDC (ω _ (hHH ▸ gm _ rfl));have nofs:∀b,s2.heap.objs.size<=b->b∉frs X.stack:=fun b hb z=>by
  rcases υ.mp (I2.stkSub b z) with e|e
  ·exact absurd (Γ I2.lt (e ▸ hb)) (qb _)
  ·exact I2.nofs hb e
 have nocell:∀b,s2.heap.objs.size<=b->∀x c,cl.lookup x=some c->c≠b:=fun b hb x c e z=>by
  obtain⟨v,q⟩:=I2.cell x c (hsub.at e);exact absurd (Γ q.lt (z ▸ hb)) (qb _)
 have I':Inv (X.comp scope cl (ts++ys) s2 H2 fp HH.objs.size) [] (eU ts.length js σ) H2 { s2 with heap:=h₁,toks:=s2.toks+([]:List (Str×Value)).length } :=
  aCe I2 hsub hcap hkind hhas' f2 fl hCle hns₁ old
 have addPin:∀{σ':St}{H':Hp}{s':ς}{o:Obj},Inv (X.comp scope cl (ts++ys) s2 H2 fp HH.objs.size) [] σ' H' s'->s'.heap.get? s2.heap.objs.size=some o->H' s2.heap.objs.size=none->(∀v,o.data≠.cell v) →
   Inv (X.comp scope cl (ts++ys) s2 H2 fp HH.objs.size) [(s2.heap.objs.size,o)] σ' H' s':=fun {σ' H' s' o} J e n d=>J.pins_of fun p hp=>by
  have e':p=(s2.heap.objs.size,o):=by simpa using hp
  subst e';exact⟨e,n,hDC,nofs _ (μ _),d⟩
 have stat:∀{pins':List (Addr×Obj)}{H':Hp},(∀p∈pins',p.1=s2.heap.objs.size)->(∀b∈fp,H' b=none)->∀b∈fp,eO (X.comp scope cl (ts++ys) s2 H2 fp HH.objs.size) pins' H' b:=fun {pins' H'} hp hn b hb =>
  ⟨hn b hb,ii (Γ (fl b hb) hCle),I'.ok.exfs b hb,.inl hb,(I'.ok.exf b hb).2,fun p hq z=>by
   have hq':p∈pins':=by simpa using hq
   exact absurd (fl b hb) (by rw[←z,hp p hq'];exact qb _)⟩
 have tn1:tn 0 h₁:=T.keep _ _ _ st2 fun b _ o e=>old b o e;have loop:∀s₃ : ς,s₃ = { s2 with heap:=h₁,toks:=s2.toks+([]:List (Str×Value)).length } →
   codeAny (ik X.prog X.w) X.A (.compLoop (.ListComp elt [⟨tg,iter,ifs,0⟩] scope pos) 0 (.ref it) (.ref s2.heap.objs.size) (compEnvC scope cl HH.objs.size X.env))
    (compPost (ik X.prog X.w) X.A X.xe none (EP X pins σ Q) (.ref s2.heap.objs.size) HH.objs.size) s₃:=by
  rintro s₃ rfl;refine sT (fun n s'=>∃i σ' xs H' its nn,Inv (X.comp scope cl (ts++ys) s2 H2 fp HH.objs.size) [] σ' H' s'/\kO xs its/\xs.length<=χ/\s'.heap.get? s2.heap.objs.size=some { cls:=.type "list",data:=.seq its.toArray nn }/\H' s2.heap.objs.size=none ∧
   tn i s'.heap/\(∀b∈fp,H' b=none)/\W i n σ' xs H') ?_ m0 ⟨0,_,[],H2,[],0,I',.nil,gw _,hacc,I2.hok.fresh (μ _),tn1,fun b hb=>(f2 b hb).1,w0⟩
  rintro n s3 ⟨i,σ3,xs,H3,its,nn,I3,rv,hz3,ac3,nD3,st3,fr3,w3⟩;have nd:∀v,({ cls:=.type "list",data:=.seq its.toArray nn } : Obj).data≠.cell v:=fun v z=>by
   have z':Data.seq its.toArray nn=Data.cell v:=z;cases z'
  have I3p:=addPin I3 ac3 nD3 nd;have pinD:∀p∈[(s2.heap.objs.size,({ cls:=.type "list",data:=.seq its.toArray nn } : Obj))],p.1=s2.heap.objs.size:=fun p hp=>by
   rw[Φ]at hp;rw[hp]
  rcases turn i n σ3 xs H3 w3 with⟨stop,qn⟩|⟨go,hz,N,hN,step⟩
  ·refine thn (T.done (X.comp scope cl (ts++ys) s2 H2 fp HH.objs.size) rfl rfl rfl hc i _ s3 σ3 H3 (fun _ _=>False) I3p (stat pinD fr3) st3 stop) fun r s4 zq=>?_;obtain⟨hr,I4⟩:=zq;subst hr;obtain⟨m,hn,_⟩:=I4.loc;have ac4:=(I4.pin _ (gq _ (Φ.mpr rfl))).1;exact⟨m,hn,fun h' hs'=>⟨.ref s2.heap.objs.size,_,aJv I2 f2 I4 hCle (μ _) hDC hs' rv hz3 ac4 nD3,rfl,qn _ nD3 I2.nsys⟩⟩
  ·refine thn (T.item (X.comp scope cl (ts++ys) s2 H2 fp HH.objs.size) rfl rfl rfl hc i _ s3 σ3 H3 (fun _ _=>False) I3p (stat pinD fr3) st3 go) fun r s4 zq=>?_;obtain⟨u,hr,h4⟩:=zq;subst hr;refine thn h4 fun _ s5 zq=>?_;obtain⟨x,H5,I5,r5,y5,st5,fr5⟩:=zq;have I5':=I5.pinned (stat pinD fr5) (T.obj _ _ st5);refine thn (hg _ _ _ _ _ s5 σ3 H5 x u _ I5' r5 (step x H5 y5)) fun _ s6 zq=>?_;obtain⟨σ6,H6,I6,q6⟩:=zq;refine thn (ht _ _ _ _ _ s6 σ6 H6 _ I6 q6) fun b s7 zq=>?_;obtain⟨H7,I7,q7⟩:=zq;have facts:∀{σ':St}{H':Hp}{s':ς},Inv (X.comp scope cl (ts++ys) s2 H2 fp HH.objs.size) ([(s2.heap.objs.size,({ cls:=.type "list",data:=.seq its.toArray nn } : Obj))]++dQ fp s5.heap) σ' H' s' →
     s'.heap.get? s2.heap.objs.size=some { cls:=.type "list",data:=.seq its.toArray nn }/\H' s2.heap.objs.size=none/\tn (i+1) s'.heap/\(∀b∈fp,H' b=none):=fun {σ' H' s'} J=>by
    have p1:=J.pin (s2.heap.objs.size,({ cls:=.type "list",data:=.seq its.toArray nn } : Obj)) (by simp);refine⟨p1.1,p1.2.1,T.keep _ _ _ st5 fun b hb o e=>(J.pin (b,o) (gq _ (gq _ (yD hb e)))).1,fun b hb=>?_⟩;obtain⟨o,e,d⟩:=T.obj _ _ st5 b hb;exact(J.pin (b,o) (gq _ (gq _ (yD hb e)))).2.1
   have bare:∀{σ':St}{H':Hp}{s':ς},Inv (X.comp scope cl (ts++ys) s2 H2 fp HH.objs.size) ([(s2.heap.objs.size,({ cls:=.type "list",data:=.seq its.toArray nn } : Obj))]++dQ fp s5.heap) σ' H' s' →
     Inv (X.comp scope cl (ts++ys) s2 H2 fp HH.objs.size) [] σ' H' s':=fun J=>J.pins_of fun p hp=>absurd hp (by simp)
   cases b with
   |false =>
    have q7':N σ6 xs H7:=by simpa using q7
    obtain⟨m',hm,w7⟩:=hN _ _ _ q7';obtain⟨a1,a2,a3,a4⟩:=facts I7;show ∃m,m<n/\_;exact⟨m',hm,i+1,σ6,xs,H7,its,nn,bare I7,rv,hz3,a1,a2,a3,a4,w7⟩
   |true =>
    have q7':te σ6 H7 fun v H5=>N σ6 (xs++[v]) H5:=by
     rw[if_pos rfl]at q7;exact q7
    show gp _ _ (eval elt _) _ _ s7;refine thn (he _ _ _ _ _ s7 σ6 H7 _ I7 q7') fun xv s8 zq=>?_;obtain⟨v,H8,I8,r8,n8⟩:=zq;obtain⟨m',hm,w8⟩:=hN _ _ _ n8;obtain⟨a1,a2,a3,a4⟩:=facts I8;have hl:=rv.length;refine call_meets F.slot_list_append ⟨_,a1,rfl⟩ F.entry_list_append (F.args_list_append_2 _ _) (PySem.list_append s2.heap.objs.size its.toArray nn xv (by rw[Ξ];omega)) ⟨a1,?_⟩;obtain⟨n9,q9⟩ : ∃n9,(s8.heap.update s2.heap.objs.size (Obj.mapSeq fun a=>a.push xv)).get? s2.heap.objs.size=some { cls:=.type "list",data:=.seq (its++[xv]).toArray n9 } :=
     ⟨_,by rw[show(its++[xv]).toArray=its.toArray.push xv by simp];exact PySem.IsL.update a1 (fun a=>a.push xv)⟩
    have I9:Inv (X.comp scope cl (ts++ys) s2 H2 fp HH.objs.size) [] σ6 H8 { s8 with heap:=s8.heap.update s2.heap.objs.size (Obj.mapSeq fun a=>a.push xv),toks:=s8.toks } :=
     (bare I8).turned (it:=s2.heap.objs.size) (fun b o hb e=>(qy s8.heap _ (kh hb)).trans e) a2 hDC (.inr (μ _)) (nocell _ (μ _)) fun p hp=>absurd (show p∈([]:List (Addr×Obj)) from hp) (by simp)
    refine⟨m',hm,i+1,σ6,xs++[v],H8,its++[xv],n9,I9,rv.append (.cons r8 .nil),?_,q9,a2,?_,a4,w8⟩
    ·rw[ξ,lj];omega
    ·exact T.keep _ _ _ a3 fun b hb o e=>(qy s8.heap _ (kh (ii (fl b hb)))).trans e
 exact codeAny_compStart_list (loop _ rfl) (T.self _ 0 _ _ _ tn1 (loop _ rfl))
end
abbrev vE (js:List Nat) (σ:St):St:=js.map fun j=>σ.getD j none
def cQ (P:Nat->List V->Hp->Prop) (i:Nat) (js:List Nat) (σ:St):St->List V->Hp->Prop:=fun σ' ys H=>P (i+1) ys H/\∃o,σ'=o::vE js σ
theorem aD{J:It}{n:Nat}{g:TG}{tc:TT}{te:TE}{Q:VK}(P:Nat->List V->Hp->Prop)(R:St->Prop)(r0:R (eU k js σ))(h0:P 0 [] H1)(hz:n<χ)(hl:∀i ys H,i<=n->P i ys H->ys.length<=i)
  (hg:∀i ys H,i<n->P i ys H->J.go i H)(hd:∀ys H,P n ys H->J.stop n H/\∀p,H p=none->p≠ja->Q (.ref p) (upd H p (.lst ys)))
  (hs:∀i ys σ' H,i<n->P i ys H->R σ'->∀x H',J.yld i H x H'->g x σ' H' fun σ3 H3=>tc σ3 H3 fun b H2=>if b=true then te σ3 H2 fun v H3=>P (i+1) (ys++[v]) H3/\R σ3 else P (i+1) ys H2/\R σ3):dY J k js g tc te σ Q H1:=by
 refine⟨fun i m σ' ys H=>m=n-i/\i<=n/\P i ys H/\R σ',⟨n,rfl,gw _,h0,r0⟩,?_⟩;rintro i m σ' ys H ⟨rfl,hi,p,r⟩;rcases Nat.lt_or_eq_of_le hi with h|rfl
 ·exact .inr ⟨hg i ys H h p,mw (hl i ys H hi p) (Nat.lt_trans h hz),fun σ3 zs H3=>P (i+1) zs H3/\R σ3,fun σ3 zs H3 z=>⟨n-(i+1),Nat.sub_succ_lt_self _ _ h,rfl,h,z.1,z.2⟩,hs i ys σ' H h p r⟩
 ·exact .inl (hd ys H p)
theorem vM{K:Δ}{xs:List V}{k:Nat}{tc:TT}{te:TE}{Q:VK}(P:Nat->List V->Hp->Prop)(h0:P 0 [] H1)(hl:∀i ys H,i<=xs.length->P i ys H->SqL K H a xs/\ys.length<=i)(hz:xs.length<χ)
  (hs:∀i x ys H,xs[i]?=some x->P i ys H->tc (some x::vE js σ) H fun b H2=>if b=true then te (some x::vE js σ) H2 fun v H3=>cQ P i js σ (some x::vE js σ) (ys++[v]) H3 else cQ P i js σ (some x::vE js σ) ys H2)
  (hd:∀ys H,P xs.length ys H->∀p,H p=none->Q (.ref p) (upd H p (.lst ys)))(hk:k=1:=by rfl):
  dY (Itl K a) k js (yZ 0) tc te σ Q H1:=by
 subst hk;refine aD P (fun σ'=>∃o,σ'=o::vE js σ) ⟨none,rfl⟩ h0 hz (fun i ys H h p=>(hl i ys H h p).2) (fun i ys H h p=>⟨xs,xs[i],(hl i ys H (jw h) p).1,η h⟩) (fun ys H p=>⟨⟨xs,(hl _ ys H (μ _) p).1,μ _⟩,fun l n _=>hd ys H p l n⟩) fun i ys σ' H h p r x H' y=>?_;obtain⟨o,rfl⟩:=r;have q:=(hl i ys H (jw h) p).1;obtain⟨rfl,y⟩:=y;exact hs i x ys _ (y xs q) p
theorem aAd{K:Δ}{xs:List V}{k:Nat}{tc:TT}{te:TE}{Q:VK}(P:Nat->List V->Hp->Prop)(h0:P 0 [] H1)(hl:∀i ys H,i<=xs.length->P i ys H->SqT K H a xs/\ys.length<=i)(hz:xs.length<χ)
  (hs:∀i x ys H,xs[i]?=some x->P i ys H->tc (some x::vE js σ) H fun b H2=>if b=true then te (some x::vE js σ) H2 fun v H3=>cQ P i js σ (some x::vE js σ) (ys++[v]) H3 else cQ P i js σ (some x::vE js σ) ys H2)
  (hd:∀ys H,P xs.length ys H->∀p,H p=none->Q (.ref p) (upd H p (.lst ys)))(hk:k=1:=by rfl):
  dY (Itt K a) k js (yZ 0) tc te σ Q H1:=by
 subst hk;refine aD P (fun σ'=>∃o,σ'=o::vE js σ) ⟨none,rfl⟩ h0 hz (fun i ys H h p=>(hl i ys H h p).2) (fun i ys H h p=>⟨xs,xs[i],(hl i ys H (jw h) p).1,η h⟩) (fun ys H p=>⟨⟨xs,(hl _ ys H (μ _) p).1,μ _⟩,fun l n _=>hd ys H p l n⟩) fun i ys σ' H h p r x H' y=>?_;obtain⟨o,rfl⟩:=r;have q:=(hl i ys H (jw h) p).1;obtain⟨rfl,y⟩:=y;exact hs i x ys _ (y xs q) p
theorem mB{lo:Int}{n k:Nat}{tc:TT}{te:TE}{Q:VK}(P:Nat->List V->Hp->Prop)(h0:P 0 [] H1)(hl:∀i ys H,i<=n->P i ys H->ys.length<=i)(hz:n<χ)
  (hs:∀i ys H,i<n->P i ys H->tc (some (.int (lo+i))::vE js σ) H fun b H2=>if b=true then te (some (.int (lo+i))::vE js σ) H2 fun v H3=>cQ P i js σ (some (.int (lo+i))::vE js σ) (ys++[v]) H3 else cQ P i js σ (some (.int (lo+i))::vE js σ) ys H2)
  (hd:∀ys H,P n ys H->∀p,H p=none->p≠ja->Q (.ref p) (upd H p (.lst ys)))(hk:k=1:=by rfl):dY (Itr lo n) k js (yZ 0) tc te σ Q H1:=by
 subst hk;refine aD P (fun σ'=>∃o,σ'=o::vE js σ) ⟨none,rfl⟩ h0 hz hl (fun i ys H h p=>h) (fun ys H p=>⟨μ _,hd ys H p⟩) fun i ys σ' H h p r x H' y=>?_;obtain⟨o,rfl⟩:=r;obtain⟨rfl,rfl⟩:=y;exact hs i ys _ h p
theorem xT{lo:Int}{n:Nat}{k:Nat}{tc:TT}{te:TE}{Q:VK}(P:Nat->List V->Hp->Prop)(h0:P 0 [] H1)(hl:∀i ys H,i<=n->P i ys H->ys.length<=i)(hz:n<χ)
  (hs:∀i ys H,i<n->P i ys H->tc (some (.int (lo+i))::vE js σ) H fun b H2=>if b=true then te (some (.int (lo+i))::vE js σ) H2 fun v H3=>cQ P i js σ (some (.int (lo+i))::vE js σ) (ys++[v]) H3 else cQ P i js σ (some (.int (lo+i))::vE js σ) ys H2)
  (hd:∀ys H,P n ys H->∀p,H p=none->Q (.ref p) (upd H p (.lst ys)))(hk:k=1:=by rfl):
  dY (Itr lo n) k js (yZ 0) tc te σ Q H1:=mB P h0 hl hz hs (fun ys H p l n _=>hd ys H p l n) hk
section
variable {X:Cx}
theorem gO(K:Δ)(h:X.K=K):IxR X (rIxT K):=h ▸ jT
theorem aBi(K:Δ)(h:X.K=K):IxR X (rIxL K):=h ▸ jX
end
section
variable {κ : Type} [DecidableEq κ]
def vX (kvs:List (κ×V)) (k : κ):Option V:=(kvs.find? fun kv=>decide (kv.1=k)).map (·.2)
def putK (kvs:List (κ×V)) (k : κ) (v:V):List (κ×V) :=
 if (kvs.any fun kv=>decide (kv.1=k))=true then kvs.map (fun kv=>if kv.1=k then (kv.1,v) else kv) else kvs++[(k,v)]
def aOu (kvs:List (κ×V)) (k : κ):List (κ×V):=kvs.filter fun kv=>decide (kv.1≠k)
theorem vO{p: κ×V}{r:List (κ×V)}{k: κ}(e:p.1=k):vX (p::r) k=some p.2:=by simp[vX,si,e]
theorem vN{p: κ×V}{r:List (κ×V)}{k: κ}(e:¬ p.1=k):vX (p::r) k=vX r k:=by simp[vX,si,e]
theorem gY(k : κ):∀kvs:List (κ×V),(kvs.any fun kv=>decide (kv.1=k))=(vX kvs k).isSome
 |[]=>rfl
 |p::r=>by
  rw[yj]
  by_cases e:p.1=k
  ·simp only[vO e,decide_eq_true e,Bool.true_or,Option.isSome_some]
  ·rw[vN e,decide_eq_false e,Bool.false_or];exact gY k r
theorem aBm(k j : κ)(y:V):∀kvs:List (κ×V),vX (kvs.map fun kv=>if kv.1=k then (kv.1,y) else kv) j=(vX kvs j).map fun x=>if j=k then y else x
 |[]=>rfl
 |p::r=>by
  have ih:=aBm k j y r;rw[jp]
  by_cases h:p.1=k
  ·rw[if_pos h]
   by_cases e:p.1=j
   ·rw[vO (p:=(p.1,y)) e,vO e,sq,if_pos (e.symm.trans h)]
   ·rw[vN (p:=(p.1,y)) e,vN e,ih]
  ·rw[if_neg h]
   by_cases e:p.1=j
   ·rw[vO (p:=p) e,vO e,sq,if_neg (fun z=>h (e.trans z))]
   ·rw[vN (p:=p) e,vN e,ih]
theorem rV(k j : κ)(y:V):∀kvs:List (κ×V),vX kvs k=none->vX (kvs++[(k,y)]) j=if j=k then some y else vX kvs j
 |[],_=>by
  by_cases e:k=j
  ·rw[if_pos e.symm];exact vO (p:=(k,y)) e
  ·rw[if_neg (fun z=>e z.symm)];exact vN (p:=(k,y)) e
 |p::r,hn=>by
  rw[oo];have hk:¬ p.1=k:=fun z=>by rw[vO z]at hn;cases hn
  rw[vN hk]at hn;have ih:=rV k j y r hn
  by_cases e:p.1=j
  ·rw[vO e,vO e,if_neg (fun z=>hk (e.trans z))]
  ·rw[vN e,vN e,ih]
theorem aIc(kvs:List (κ×V))(k j : κ)(y:V):vX (putK kvs k y) j=if j=k then some y else vX kvs j:=by
 unfold putK
 by_cases a:(kvs.any fun kv=>decide (kv.1=k))=true
 ·rw[if_pos a,aBm];rw[gY]at a
  by_cases e:j=k
  ·obtain⟨x,hx⟩:=nv.mp a;rw[if_pos e,e,hx,sq,if_pos rfl]
  ·rw[if_neg e];cases vX kvs j with
   |none=>rfl
   |some x=>rw[sq,if_neg e]
 ·rw[if_neg a];refine rV k j y kvs ?_;rw[gY]at a;cases q:vX kvs k with
  |none=>rfl
  |some x=>rw[q]at a;exact(a rfl).elim
theorem aC(kvs:List (κ×V))(k : κ)(v:V):(putK kvs k v).length<=kvs.length+1:=by
 unfold putK
 split
 ·rw[δ];omega
 ·rw[ξ,gj,List.length_nil];omega
theorem bS.isSome_eq(r:bS o u):o.isSome=u.isSome:=by
 cases o with
 |none=>cases u with
  |none=>rfl
  |some _=>exact(show False from r).elim
 |some _=>cases u with
  |none=>exact(show False from r).elim
  |some _=>rfl
theorem bS.getD(r:bS o u)(rd:RelV d d'):RelV (o.getD d) (u.getD d'):=by
 cases o with
 |none=>cases u with
  |none=>exact rd
  |some _=>exact(show False from r).elim
 |some _=>cases u with
  |none=>exact(show False from r).elim
  |some _=>exact r
theorem KV.val(r:KV kvs vs)(k : κ):bS (vX kvs k) (vm vs k):=by
 unfold KV at r
 induction r with
 |nil=>exact iu
 | @cons p q ps qs h t ih =>
  obtain⟨h1,h2⟩:=h
  by_cases e:p.1=k
  ·have e':q.1=k:=h1.symm.trans e;have b:vm (q::qs) k=some q.2:=by simp[vm,si,e']
   rw[vO e,b];exact h2
  ·have e':¬ q.1=k:=fun z=>e (h1.trans z);have b:vm (q::qs) k=vm qs k:=by simp[vm,si,e']
   rw[vN e,b];exact ih
theorem KV.any(r:KV kvs vs)(k : κ):(kvs.any fun kv=>decide (kv.1=k))=vs.any fun kv=>decide (kv.1=k):=by
 unfold KV at r
 induction r with
 |nil=>rfl
 |cons h t ih=>rw[yj,yj,ih,h.1]
theorem KV.repl(r:KV kvs vs)(k : κ)(ry:RelV y u):
  KV (kvs.map fun kv=>if kv.1=k then (kv.1,y) else kv) (vs.map fun kv=>if kv.1=k then (kv.1,u) else kv):=by
 unfold KV at r ⊢
 induction r with
 |nil=>exact .nil
 | @cons p q ps qs h t ih =>
  rw[jp,jp];refine .cons ?_ ih;obtain⟨h1,h2⟩:=h
  by_cases e:p.1=k
  ·rw[if_pos e,if_pos (h1.symm.trans e)];exact⟨h1,ry⟩
  ·rw[if_neg e,if_neg (fun z=>e (h1.trans z))];exact⟨h1,h2⟩
theorem KV.put(r:KV kvs vs)(k : κ)(ry:RelV y u):KV (putK kvs k y) (stored vs k u):=by
 unfold putK stored;rw[r.any k]
 by_cases e:(vs.any fun kv=>decide (kv.1=k))=true
 ·rw[if_pos e,if_pos e];exact r.repl k ry
 ·rw[if_neg e,if_neg e];exact Paired.snoc r ⟨rfl,ry⟩
theorem KV.drop(r:KV kvs vs)(k : κ):KV (aOu kvs k) (without vs k):=by
 unfold KV at r ⊢;unfold aOu without
 induction r with
 |nil=>exact .nil
 | @cons p q ps qs h t ih =>
  obtain⟨h1,h2⟩:=h;rw[vn,vn]
  by_cases e:p.1=k
  ·have a:¬ decide (p.1≠k)=true:=by simp[e]
   have b:¬ decide (q.1≠k)=true:=by simp[h1.symm.trans e]
   rw[if_neg a,if_neg b];exact ih
  ·have e':¬ q.1=k:=fun z=>e (h1.trans z);have a:decide (p.1≠k)=true:=by simp[e]
   have b:decide (q.1≠k)=true:=by simp[e']
   rw[if_pos a,if_pos b];exact .cons ⟨h1,h2⟩ ih
theorem KV.keys{kvs:List (κ×V)}{vs:List (κ×Value)}(r:KV kvs vs):kvs.map (·.1)=vs.map (·.1):=by
 unfold KV at r
 induction r with
 |nil=>rfl
 |cons h t ih=>rw[jp,jp,ih,h.1]
theorem KV.length{kvs:List (κ×V)}{vs:List (κ×Value)}(r:KV kvs vs):kvs.length=vs.length:=wd r
end
theorem lZ(r:RelV (kV k) u):(kT P w).is k u=true:=by
 cases k with
 |inl i=>obtain⟨t,e⟩:=(show ∃t,u=Value.int i t from r);subst e;exact aAi P w i t
 |inr x=>obtain⟨t,e⟩:=(show ∃t,u=Value.str x t from r);subst e;exact wR P w x t
theorem rS : ∀{ks:List Key}{us:List Value},kO (ks.map kV) us->ItemsAre (kT P w) ks us
 |[],_,r=>by rw[List.map_nil]at r;cases r;exact .nil
 |k::ks,_,r=>by
  rw[jp]at r;cases r with
  |cons h t=>exact .cons (lZ h) (rS t)
abbrev KT (H:Hp):List (List Key×V)->List (List Key×Addr×Value)->Prop:=Paired fun p q=>p.1=q.1/\H q.2.1=some (.tup (p.1.map kV))/\RelV p.2 q.2.2
theorem KT.val(r:KT H kvs xs)(k:List Key):bS (vX kvs k) ((atKey xs k).map (·.2)):=by
 induction r with
 |nil=>exact iu
 | @cons p q ps qs h t ih =>
  obtain⟨h1,_,h2⟩:=h
  by_cases e:p.1=k
  ·have e':q.1=k:=h1.symm.trans e;have b:atKey (q::qs) k=some q.2:=by simp[atKey,si,e']
   rw[vO e,b];exact h2
  ·have e':¬ q.1=k:=fun z=>e (h1.trans z);have b:atKey (q::qs) k=atKey qs k:=by simp[atKey,si,e']
   rw[vN e,b];exact ih
theorem KT.repl(r:KT H kvs xs)(k:List Key)(ry:RelV y u):
  KT H (kvs.map fun kv=>if kv.1=k then (kv.1,y) else kv) (xs.map (putAt k u)):=by
 induction r with
 |nil=>exact .nil
 | @cons p q ps qs h t ih =>
  rw[jp,jp];refine .cons ?_ ih;obtain⟨h1,h2,h3⟩:=h;unfold putAt
  by_cases e:p.1=k
  ·rw[if_pos e,if_pos (h1.symm.trans e)];exact⟨h1,h2,ry⟩
  ·rw[if_neg e,if_neg (fun z=>e (h1.trans z))];exact⟨h1,h2,h3⟩
theorem KT.put{H:Hp}(r:KT H kvs xs)(k:List Key)(hb:H b=some (.tup (k.map kV)))(ry:RelV y u):
  KT H (putK kvs k y) (storedH xs k b u):=by
 have e:(kvs.any fun kv=>decide (kv.1=k))=(atKey xs k).isSome:=by
  rw[gY,(r.val k).isSome_eq,xj]
 unfold putK storedH;rw[e]
 by_cases q:(atKey xs k).isSome=true
 ·rw[if_pos q,if_pos q];exact r.repl k ry
 ·rw[if_neg q,if_neg q];exact Paired.snoc r ⟨rfl,hb,ry⟩
theorem KT.keeps{H H':Hp}(r:KT H kvs xs)(ht:∀b ys,H b=some (.tup ys)->H' b=some (.tup ys)):KT H' kvs xs :=
 Paired.mapP r fun _ _ z=>⟨z.1,ht _ _ z.2.1,z.2.2⟩
section
variable {P:io}{w:jl}{H:Hp}{h:kq}{a:Addr}
theorem aPf(ok:HOk P w H h)(e:Rd H a u):qO P w H h a u:=e.ok ok
theorem aCb(ok:HOk P w H h)(e:Rd H a (.dK kvs)):kvs.length<=χ/\(a == ja)=false/\∃vs,KV kvs vs/\h.DictOf (kT P w) a vs :=
 show qO P w H h a (.dK kvs) from aPf ok e
theorem dN(ok:HOk P w H h)(e:H a=some (.dK kvs)):kvs.length<=χ/\(a == ja)=false/\∃vs,KV kvs vs/\h.DictOf (kT P w) a vs:=aCb ok (.inl e)
theorem oE{ks:List Key}(ok:HOk P w H h)(e:H a=some (.tup (ks.map kV))):(tupleKind (kT P w)).is h ks a:=by
 obtain⟨_,its,r,o,h1,h2,n,h3⟩:=(show qO P w H h a (.tup (ks.map kV)) from ok a _ e);exact⟨o,its.toArray,n,h1,h2,h3,by simpa using rS r⟩
theorem aAv(ok:HOk P w H h)(e:Rd H a (.dT kvs)):kvs.length<=χ/\(a == ja)=false ∧
  ∃xs,KT H kvs xs/\h.DictOfH (tupleKind (kT P w)) a xs:=by
 obtain⟨z,y,xs,r,o,es,ep,h1,h2,h3,h4,h5⟩:=(show qO P w H h a (.dT kvs) from aPf ok e);refine⟨z,y,xs,r,o,es,ep,h1,h2,h3,h4,fun x hx=>?_,h5⟩;have all:∀{l:List (List Key×V)}{m:List (List Key×Addr×Value)},KT H l m->∀x∈m,(tupleKind (kT P w)).is h x.1 x.2.1:=by
  intro l m q
  induction q with
  |nil=>intro x hx;exact nomatch hx
  | @cons p q ps qs hq t ih =>
   intro x hx;rcases υ.mp hx with e|hx
   ·subst e;exact oE ok (by rw[←hq.1];exact hq.2.1)
   ·exact ih x hx
 exact all r x hx
theorem dt_of(ok:HOk P w H h)(e:H a=some (.dT kvs)):kvs.length<=χ/\(a == ja)=false ∧
  ∃xs,KT H kvs xs/\h.DictOfH (tupleKind (kT P w)) a xs:=aAv ok (.inl e)
end
def bB (H:Hp) (a:Addr) (y:V) (r:Option V):Prop :=
 (∃kvs k,Rd H a (.dK kvs)/\y=kV k/\r=vX kvs k)\/∃kvs k b,Rd H a (.dT kvs)/\y=.ref b/\H b=some (.tup (k.map kV))/\r=vX kvs k
def aGd (H:Hp) (a:Addr) (y v:V) (H':Hp):Prop :=
 (∃kvs k,H a=some (.dK kvs)/\y=kV k/\kvs.length<χ/\H'=upd H a (.dK (putK kvs k v))) ∨
 ∃kvs k b,H a=some (.dT kvs)/\y=.ref b/\H b=some (.tup (k.map kV))/\kvs.length<χ/\H'=upd H a (.dT (putK kvs k v))
theorem bB.k{H:Hp}{a:Addr}{kvs:List (Key×V)}{k:Key}(e:H a=some (.dK kvs)):bB H a (kV k) (vX kvs k):=.inl ⟨kvs,k,.inl e,rfl,rfl⟩
theorem bB.t{H:Hp}{k:List Key}(e:H a=some (.dT kvs))(eb:H b=some (.tup (k.map kV))):bB H a (.ref b) (vX kvs k):=.inr ⟨kvs,k,b,.inl e,rfl,eb,rfl⟩
theorem aGd.k{H:Hp}{a:Addr}{kvs:List (Key×V)}{k:Key}{v:V}(e:H a=some (.dK kvs))(hl:kvs.length<χ):aGd H a (kV k) v (upd H a (.dK (putK kvs k v))):=.inl ⟨kvs,k,e,rfl,hl,rfl⟩
theorem aGd.t{H:Hp}{k:List Key}(e:H a=some (.dT kvs))(eb:H b=some (.tup (k.map kV)))(hl:kvs.length<χ):
  aGd H a (.ref b) v (upd H a (.dT (putK kvs k v))):=.inr ⟨kvs,k,b,e,rfl,eb,hl,rfl⟩
section
variable {X:Cx}{pins:List (Addr×Obj)}{σ:St}{H:Hp}{s:ς}{a:Addr}{y v:V}{u r:Value}{o:Option V}{A:km}{E:Value->ς->Prop}
theorem Inv.big(I:Inv X pins σ H s):ja<s.heap.objs.size:=by
 have h:gv<s.heap.objs.size:=(I.mod.glob.keeps I.bk).lt;exact Nat.lt_trans (by decide) h
theorem aHf{Q:Value->ς->Prop}(hu:A.units+1<pw)(I:Inv X pins σ H s)(g:bB H a y (some v))(ry:RelV y u)(h:∀w' s',Inv X pins σ H s'->RelV v w'->Q w' s'):
  gp (ik X.prog X.w) A (getItem (.ref a) u) Q E s:=by
 rcases g with⟨kvs,k,e,ey,l⟩|⟨kvs,k,b,e,ey,eb,l⟩
 ·subst ey;obtain⟨z,hd,vs,rel,dd⟩:=aCb I.hok e;obtain⟨w',hw,rw'⟩:=bS.some_of (v:=v) (o:=vm vs k) (by rw[l];exact rel.val k);exact wpAny_getItem_of (lZ ry) dd.mapOf hw (h w' _ (I.tok _) rw')
 ·subst ey;cases (show u=jm b from ry);obtain⟨z,hd,xs,rel,dd⟩:=aAv I.hok e;obtain⟨w',hw,rw'⟩:=bS.some_of (v:=v) (o:=(atKey xs k).map (·.2)) (by rw[l];exact rel.val k);obtain⟨p,hp,hp2⟩:=Option.map_eq_some_iff.mp hw;refine wpAny_getItem_heap (wu hu) (oE I.hok eb) dd hp ?_;rw[hp2];exact h w' _ (I.tok _) rw'
theorem d_in{Q:Value->ς->Prop}(hu:A.units+1<pw)(I:Inv X pins σ H s)(g:bB H a y o)(ry:RelV y u)(h:∀s',Inv X pins σ H s'->Q (.bool o.isSome) s'):
  gp (ik X.prog X.w) A (kn .In u (.ref a)) Q E s:=by
 rcases g with⟨kvs,k,e,ey,l⟩|⟨kvs,k,b,e,ey,eb,l⟩
 ·subst ey;obtain⟨z,hd,vs,rel,dd⟩:=aCb I.hok e;refine wpAny_in_of (lZ ry) hd dd.mapOf ?_;rw[←(rel.val k).isSome_eq,←l];exact h _ (I.tok _)
 ·subst ey;cases (show u=jm b from ry);obtain⟨z,hd,xs,rel,dd⟩:=aAv I.hok e;refine wpAny_in_heap (wu hu) (oE I.hok eb) hd dd ?_;have q:=(rel.val k).isSome_eq;rw[xj]at q;rw[←q,←l];exact h _ (I.tok _)
theorem aNj{Q:Value->ς->Prop}(hu:A.units+1<pw)(I:Inv X pins σ H s)(g:bB H a y o)(ry:RelV y u)(h:∀s',Inv X pins σ H s'->Q (.bool (!o.isSome)) s'):
  gp (ik X.prog X.w) A (kn .NotIn u (.ref a)) Q E s:=by
 rcases g with⟨kvs,k,e,ey,l⟩|⟨kvs,k,b,e,ey,eb,l⟩
 ·subst ey;obtain⟨z,hd,vs,rel,dd⟩:=aCb I.hok e;refine wpAny_notIn_of (lZ ry) hd dd.mapOf ?_;rw[←(rel.val k).isSome_eq,←l];exact h _ (I.tok _)
 ·subst ey;cases (show u=jm b from ry);obtain⟨z,hd,xs,rel,dd⟩:=aAv I.hok e;refine wpAny_notIn_heap (wu hu) (oE I.hok eb) hd dd ?_;have q:=(rel.val k).isSome_eq;rw[xj]at q;rw[←q,←l];exact h _ (I.tok _)
theorem eG{t':Nat}(I:Inv X pins σ H s)(mu:Mut (H a))(hs:qc a s.heap h')(he:∃q,h'.get? a=some q)(new:qO X.prog X.w (upd H a ob) h' a ob):
  Inv X pins σ (upd H a ob) { s with heap:=h',toks:=t' } :=
 I.write (x:=a) (e:=a) mu (.inl rfl) (fun b q hb z=>(hs.2 b hb).trans z) he new
theorem iU{h':kq}{kvs:List (Key×V)}(z:kvs.length<=χ)(hd:(a == ja)=false)(rel:KV kvs vs)(dd:h'.DictOf (kT P w) a vs):
  qO P w H' h' a (.dK kvs):=⟨z,hd,vs,rel,dd⟩
theorem aHd{Q:Unit->ς->Prop}(hu:A.units+1<pw)(I:Inv X pins σ H s)(g:aGd H a y v H')(ry:RelV y u)(rv:RelV v r)(h:∀s',Inv X pins σ H' s'->Q () s'):
  gp (ik X.prog X.w) A (setItem (.ref a) u r) Q E s:=by
 rcases g with⟨kvs,k,e,ey,l,eH⟩|⟨kvs,k,b,e,ey,eb,l,eH⟩
 ·subst ey eH;obtain⟨z,hd,vs,rel,dd⟩:=dN I.hok e;have hz:vs.length<=χ:=by rw[←rel.length];exact z
  have hl:(putK kvs k v).length<=χ:=by have:=aC kvs k v;omega
  refine wpAny_setItem_pairs (hsz:=hz) (lZ ry) dd fun h' dd' hs=>h _ ?_;have he:∃q,h'.get? a=some q:=let ⟨q,_,_,hq,_⟩:=dd'; ⟨q,hq⟩;exact eG I (by rw[e];exact iu) hs he (iU hl hd (rel.put k rv) dd')
 ·subst ey eH;cases (show u=jm b from ry);obtain⟨z,hd,xs,rel,dd⟩:=dt_of I.hok e;have hz:xs.length<=χ:=by rw[←wd rel];exact z
  have hl:(putK kvs k v).length<=χ:=by have:=aC kvs k v;omega
  refine wpAny_setItem_heap (hsz:=hz) (wu hu) (oE I.hok eb) dd fun h' dd' hs=>h _ ?_;obtain⟨q,es,ep,hq,h2,h3,h4,_,h5⟩:=dd';refine eG I (by rw[e];exact iu) hs ⟨q,hq⟩ ⟨hl,hd,_,(rel.put k eb rv).keeps fun c ys ec=>?_,q,es,ep,hq,h2,h3,h4,h5⟩;rw[jS (hJ ec e (fun z=>nomatch z))];exact ec
end
def NoSl (i:Expr):Prop:=∀ov iv,subscripted i false ov iv=operate [ov,iv] (getItem ov iv)
theorem aNq{prog:io}{w:jl}{A:km}{E:Value->ς->Prop}{s:ς}{env:Env}{value slice:Expr}{pos:Pos}{T id:String}{Q:Value->ς->Prop}
  (hl:typeLookup (.type T) "__getitem__" = pure (some (.builtin id)))(hs:NoSl slice)
  (h:gp (ik prog w) A (eval value env) (fun o s₁=>gp (ik prog w) A (eval slice env) (fun i s₂=>s₂.TypeIs o T/\gp (ik prog w) A (getItem o i) Q E s₂) E s₁) E s):
  gp (ik prog w) A (eval (.Subscript value slice pos) env) Q E s:=by
 refine Subscript_ (md h (fun o s₁ h₁=>md h₁ (fun i s₂ h₂=>?_) fun _ _ x=>x) fun _ _ x=>x);obtain⟨hT,h₂⟩:=h₂;unfold subscriptTail;refine ε ?_;rw[getitemInPython_of_ne hT.not_modules];refine ε (wpAny_specialOf hT hl ?_);have fin:gp (ik prog w) A (subscripted slice false o i) (fun r s₃=>gp (ik prog w) A (letTemporaryGo value o r >>= fun _=>pure r) Q E s₃) E s₂:=by
  rw[hs o i];exact wpAny_operating (md h₂ (fun r s₃ h₃=>ε (wpAny_letTemporaryGo (π h₃))) fun _ _ x=>x)
 first
  |exact π (ε fin)
  |exact ε (π (ε fin))
  |exact ε fin
theorem wI(I:Inv X pins σ H s)(g:bB H a y o):s.TypeIs (.ref a) "dict":=by
 rcases g with⟨kvs,k,e,_,_⟩|⟨kvs,k,b,e,_,_,_⟩
 ·obtain⟨_,_,vs,_,dd⟩:=aCb I.hok e;exact dd.typeIs
 ·obtain⟨_,_,xs,_,dd⟩:=aAv I.hok e;exact dd.typeIs
def tDGet (td ty:TE):TE:=fun σ H Q=>td σ H fun x H1=>ty σ H1 fun y H2=>∃a v,x=.ref a/\bB H2 a y (some v)/\Q v H2
def aMm (ty td:TE):TE:=fun σ H Q=>ty σ H fun y H1=>td σ H1 fun x H2=>∃a o,x=.ref a/\bB H2 a y o/\Q (.bl (!o.isSome)) H2
def sDPut (td ty tv:TE):TS:=fun D σ H=>tv σ H fun v H1=>td σ H1 fun x H2=>ty σ H2 fun y H3=>∃a H4,x=.ref a/\aGd H3 a y v H4/\D.nx σ H4
section
variable {X:Cx}{o i e value:Expr}{pos pos' tpos:Pos}{td ty tv:TE}
theorem bO(hu:X.A.units+1<pw)(ho:PE X o td)(hi:PE X i ty)(hs:NoSl i):PE X (.Subscript o i pos) (tDGet td ty):=by
 intro pins s σ H Q I h;refine aNq PySem.F.slot_dict_getitem.lookup hs (thn (ho pins s σ H _ I h) fun u s1 zq=>zq.el fun x H1 I1 rx q1=>thn (hi pins s1 σ H1 _ I1 q1) fun iv s2 zq=>?_);obtain⟨y,H2,I2,ry,a,v,ex,g,q2⟩:=zq;subst ex;obtain rfl:u=jm a:=rx;exact⟨wI I2 g,aHf hu I2 g ry fun w' s3 I3 rw'=>⟨v,H2,I3,rw',q2⟩⟩
theorem aHp(hu:X.A.units+1<pw)(hi:PE X i ty)(ho:PE X o td):PC X .NotIn i o (aMm ty td):=by
 intro pins s σ H Q I h;refine thn (hi pins s σ H _ I h) fun iv s1 zq=>zq.el fun y H1 I1 ry q1=>thn (ho pins s1 σ H1 _ I1 q1) fun u s2 zq=>?_;obtain⟨x,H2,I2,rx,a,ov,ex,g,q2⟩:=zq;subst ex;obtain rfl:u=jm a:=rx;exact aNj hu I2 g ry fun s3 I3=>⟨.bl (!ov.isSome),H2,I3,rfl,q2⟩
theorem eF(hu:X.A.units+1<pw)(ho:PE X o td)(hi:PE X i ty)(hv:PE X value tv)(hs:swapsWith value (some (.Subscript o i pos')) pos.line X.env=pure false):
  PS X (.Assign [.Subscript o i pos'] value pos) (sDPut td ty tv):=by
 intro pins s σ H D I h;refine wpAny_Assign_Subscript (thn (hv pins s σ H _ I h) fun r s1 zq=>zq.el fun v H1 I1 rv q1=>thn (ho pins s1 σ H1 _ I1 q1) fun u s2 zq=>zq.el fun x H2 I2 rx q2=>thn (hi pins s2 σ H2 _ I2 q2) fun iv s3 zq=>?_) hs;obtain⟨y,H3,I3,ry,a,H4,ex,g,q3⟩:=zq;subst ex;obtain rfl:u=jm a:=rx;exact aHd hu I3 g ry rv fun s4 I4=>⟨σ,H4,I4,q3⟩
end
theorem oM(h:kq)(hb:ja<h.objs.size):qO P w H (h.push { cls:=.type "dict",data:=.dict #[] }) h.objs.size (.dK []) :=
 ⟨gw _,beq_eq_false_iff_ne.mpr (kh (ii hb)),[],.nil,kq.DictOf.new h⟩
def aQn:TE:=fun _ H Q=>∀p,H p=none->Q (.ref p) (upd H p (.dK []))
section
variable {X:Cx}{pos:Pos}
theorem zO:PE X (.Dict [] [] pos) aQn:=fun pins s σ H Q I h =>
 wpAny_Dict_empty ⟨.ref s.heap.objs.size,_,I.laid (a:=s.heap.objs.size) (o:=.dK []) (t':=s.toks) (fun _ _ q=>ω _ q) (μ _) (oM s.heap I.big),rfl,h _ (I.hok.fresh (μ _))⟩
end
def aDn:List (TE×TE)->St->Hp->(List (V×V)->Hp->Prop)->Prop
 |[],_,H,Q=>Q [] H
 | (tk,tv)::r,σ,H,Q=>tk σ H fun x H1=>tv σ H1 fun y H2=>aDn r σ H2 fun ps H3=>Q ((x,y)::ps) H3
abbrev VV:List (V×V)->List (Value×Value)->Prop:=Paired fun p q=>RelV p.1 q.1/\RelV p.2 q.2
def PPs (X:Cx) (pos:Pos) (keys:List (Option Expr)) (values:List Expr) (trs:List (TE×TE)):Prop :=
 ∀(pins:List (Addr×Obj)) (s:ς) (σ:St) (H:Hp) (Q:List (V×V)->Hp->Prop),Inv X pins σ H s->aDn trs σ H Q →
  gp (ik X.prog X.w) X.A (evalPairs (pairTrees keys values X.env pos)) (fun vs s'=>∃ps H',Inv X pins σ H' s'/\VV ps vs/\Q ps H') X.xe s
theorem aMv : PPs X pos [] [] []:=fun pins s σ H Q I h=>pairTrees_nil_walk ⟨[],H,I,.nil,h⟩
theorem aCg(hk:PE X k tk)(hv:PE X v tv)(hr:PPs X pos ks vs trs):
  PPs X pos (some k::ks) (v::vs) ((tk,tv)::trs):=fun pins s σ H Q I h =>
 pairTrees_cons_walk (thn (hk pins s σ H _ I h) fun u s1 zq=>zq.el fun x H1 I1 rx q1=>thn (hv pins s1 σ H1 _ I1 q1) fun w2 s2 zq=>zq.el fun y H2 I2 ry q2=>
  thn (hr pins s2 σ H2 _ I2 q2) fun ws s3 ⟨ps,H3,I3,rel,q3⟩=>⟨(x,y)::ps,H3,I3,.cons ⟨rx,ry⟩ rel,q3⟩)
def oV (kvs more:List (Key×V)):List (Key×V):=more.foldl (fun acc kv=>putK acc kv.1 kv.2) kvs
theorem KV.merge:∀{more:List (Key×V)}{rs:List (Key×Value)}{kvs:List (Key×V)}{vs:List (Key×Value)},KV more rs->KV kvs vs->KV (oV kvs more) (merged vs rs):=by
 intro more rs kvs vs r;unfold KV at r
 induction r generalizing kvs vs with
 |nil=>intro q;exact q
 | @cons p q ps qs h t ih =>
  intro r0;have e:KV (putK kvs p.1 p.2) (stored vs q.1 q.2):=by
   have:=r0.put p.1 h.2;rw[←h.1];exact this
  exact ih e
theorem eR:∀(more kvs:List (Key×V)),(oV kvs more).length<=kvs.length+more.length
 |[],kvs=>by show kvs.length<=kvs.length+0;omega
 |p::r,kvs=>by
  have h1:=eR r (putK kvs p.1 p.2);have h2:=aC kvs p.1 p.2;show(oV (putK kvs p.1 p.2) r).length<=_;rw[gj];omega
theorem nP : ∀{kvs:List (Key×V)}{ws:List (Value×Value)},VV (kvs.map fun kv=>(kV kv.1,kv.2)) ws->∃rs,Carries (kT P w) ws rs/\KV kvs rs
 |[],_,r=>by rw[List.map_nil]at r;cases r;exact⟨[],iu,.nil⟩
 |p::kvs,_,r=>by
  rw[jp]at r;cases r with
  | @cons a b as bs h t =>
   obtain⟨rs,c,q⟩:=nP (P:=P) (w:=w) t;obtain⟨b1,b2⟩:=b;exact⟨(p.1,b2)::rs,⟨lZ h.1,rfl,c⟩,.cons ⟨rfl,h.2⟩ q⟩
def aOx (trs:List (TE×TE)):TE:=fun σ H Q=>∀p,H p=none->aDn trs σ (upd H p (.dK [])) fun ps H2=>H2 p=some (.dK [])/\∃kvs:List (Key×V),ps=kvs.map (fun kv=>(kV kv.1,kv.2))/\kvs.length<=15/\Q (.ref p) (upd H2 p (.dK (oV [] kvs)))
theorem aLs(h:PPs X pos keys values trs)(hall:keys.all (·.isSome)=true)(hl:keys.length=values.length)(h0:keys≠[])
  (h15:keys.length<=15):PE X (.Dict keys values pos) (aOx trs):=by
 intro pins s σ H Q I q;have hn:=I.hok.fresh (μ s.heap.objs.size);have I1:=I.laid (a:=s.heap.objs.size) (o:=.dK []) (h':=s.heap.push { cls:=.type "dict",data:=.dict #[] }) (t':=s.toks) (fun _ _ q=>ω _ q) (μ _) (oM s.heap I.big);refine wpAny_Dict_walk (knd:=kT X.prog X.w) hall hl h0 h15 (thn (h pins _ σ _ _ I1 (q _ hn)) fun ws s2 zq=>?_);obtain⟨ps,H2,I2,rel,e,kvs,ep,lk,q2⟩:=zq;subst ep;obtain⟨rs,c,rk⟩:=nP (P:=X.prog) (w:=X.w) rel;obtain⟨z,hd,vs0,r0,dd⟩:=dN I2.hok e;cases r0;refine⟨rs,c,dd,fun h' dd' hs=>⟨.ref s.heap.objs.size,_,?_,rfl,q2⟩⟩;have hz:(oV [] kvs).length<=χ:=by
  have h1:=eR kvs [];rw[List.length_nil]at h1;rw[ic];omega
 have he:∃q,h'.get? s.heap.objs.size=some q:=let ⟨q,_,_,hq,_⟩:=dd'; ⟨q,hq⟩;exact eG I2 (by rw[e];exact iu) hs he (iU hz hd (rk.merge .nil) dd')
section
variable {X:Cx}
theorem aGy:vD X (.builtin "isinstance") (fun xs H Q=>∃p T kvs,xs=[.ref p,.ty T]/\T∈sQ/\H p=some (.dK kvs)/\Q (.bl (isa "dict" T)) H):=by
 intro pins s σ H xs us Q I r h;obtain⟨p,T,kvs,rfl,hT,ht,q⟩:=h;obtain⟨u,w',rfl,rx,rT⟩:=vals2 r;cases rT;cases rx;have hT':T = "int" ∨ T = "bool" ∨ T = "str" ∨ T = "list" ∨ T = "tuple" ∨ T = "dict":=by simpa [sQ] using hT
 have fin:∀{k:Bool}{s':ς},isa "dict" T=k->Inv X pins σ H s'->EP X pins σ Q (.bool k) s':=fun {k s'} e I'=>by subst e;exact⟨.bl _,H,I',rfl,q⟩
 obtain⟨_,_,vs,_,o,es,ep,e,hx,_⟩:=I.hok p _ ht;have hc:o.cls=.type "dict":=hx.1;rcases hT' with rfl|rfl|rfl|rfl|rfl|rfl
 ·exact IsiPair.dict_int e hc (fin (by decide) (I.tok _))
 ·exact IsiPair.dict_bool e hc (fin (by decide) (I.tok _))
 ·exact IsiPair.dict_str e hc (fin (by decide) (I.tok _))
 ·exact IsiPair.dict_list e hc (fin (by decide) (I.tok _))
 ·exact IsiPair.dict_tuple e hc (fin (by decide) (I.tok _))
 ·exact IsiPair.dict_dict e hc (fin (by decide) I)
def Itx (x:Str):It:=⟨fun i _=>i<x.cps.size,fun i H v H'=>H'=H/\∃c,x.cps[i]?=some c/\v=.str ⟨#[c]⟩,fun i _=>x.cps.size<=i⟩
theorem aIr{K:Δ}(it:Addr)(x:Str)(t:Tok)(ty:String)
  (hty : ["enumerate","zip","dict_itemiterator","dict_reverseitemiterator","odict_iterator","itertools.zip_longest","itertools.pairwise"].contains ty=false)
  (W:∀A:km,A.handled=none->Walks P w A it [it] [it] x.cps.size (SignAt x) (fun i h=>h.IsStrIter it ty x t i))
  (hself:∀(A:km) (i:Nat) (s:ς) (Q:Value->ς->Prop) (E:Value->ς->Prop),s.heap.IsStrIter it ty x t i->Q (.ref it) s->gp (ik P w) A (pyIter (.ref it)) Q E s):Turn P w K tg (Itx x) [it] it (fun i h=>h.IsStrIter it ty x t i/\i<=x.cps.size) where
 mem:=by simp
 obj:=fun i h st b hb=>by
  have e:b=it:=by simpa using hb
  subst e;obtain⟨⟨o,e,c,d⟩,_⟩:=st;exact⟨o,e,fun v z=>by rw[d]at z;cases z⟩
 keep:=fun i h h' st k=>⟨let ⟨o,ho,r⟩:=st.1; ⟨o,k it (by simp) o ho,r⟩,st.2⟩
 item:=by
  intro X hP hw hK hc i pins s σ H E I hf st hg;subst hP hw hK;obtain⟨f0,f1,f2,f3,f4,f5⟩:=hf it (by simp);refine(W X.A (I.ok.hd hc)).item i s _ _ hg st.1 fun v h' tk hv st' kk=>?_;obtain⟨c,u,hcc,rfl⟩:=hv;have I1:Inv X pins σ H { s with heap:=h',toks:=tk }:=I.turned (fun b o hb e=>kk b o (by simpa using hb) e) f0 f1 f3 f4 f5;obtain⟨o,e,cc,d⟩:=id st';exact⟨_,rfl,aEe (s:={ s with heap:=h',toks:=tk }) e cc d hty ⟨.str ⟨#[c]⟩,H,I1,⟨u,rfl⟩,⟨rfl,c,hcc,rfl⟩,⟨st',hg⟩,fun b hb=>(hf b hb).1⟩⟩
 done:=by
  intro X hP hw hK hc i pins s σ H E I hf st hg;subst hP hw hK;obtain⟨f0,f1,f2,f3,f4,f5⟩:=hf it (by simp);have hi:i=x.cps.size:=Nat.le_antisymm st.2 hg;subst hi;exact(W X.A (I.ok.hd hc)).done s _ _ st.1 fun h' tk eb=>⟨rfl,I.turned (fun b o hb e=>eb b o (by simpa using hb) e) f0 f1 f3 f4 f5⟩
 self:=fun A i s Q E st h=>hself A i s Q E st.1 h
def iStr (tl:TE):TI:=fun σ H R=>tl σ H fun v H1=>∃x,v=.str x/\R (Itx x) H1
theorem aQg(hl:PE X l tl):PI X tg l (iStr tl):=by
 intro pins s σ H R I h;refine thn (hl pins s σ H _ I h) fun v s1 zq=>?_;obtain⟨y,H1,I1,r1,q1⟩:=zq;obtain⟨x,e,q⟩:=q1;subst e;obtain⟨t,rfl⟩:=r1;have fin:∀(ty:String) (o:Obj),["enumerate","zip","dict_itemiterator","dict_reverseitemiterator","odict_iterator","itertools.zip_longest","itertools.pairwise"].contains ty=false →
   (∀A:km,A.handled=none->Walks X.prog X.w A s1.heap.objs.size [s1.heap.objs.size] [s1.heap.objs.size] x.cps.size (SignAt x) (fun i h=>h.IsStrIter s1.heap.objs.size ty x t i)) →
   (∀(A:km) (i:Nat) (s:ς) (Q:Value->ς->Prop) (E:Value->ς->Prop),s.heap.IsStrIter s1.heap.objs.size ty x t i->Q (.ref s1.heap.objs.size) s->gp (ik X.prog X.w) A (pyIter (.ref s1.heap.objs.size)) Q E s) →
   (s1.heap.push o).IsStrIter s1.heap.objs.size ty x t 0->PIE X pins σ tg R (.ref s1.heap.objs.size) { s1 with heap:=s1.heap.push o }:=fun ty o hty W hs st=>by
  refine⟨s1.heap.objs.size,[s1.heap.objs.size],_,_,H1,rfl,I1.kept (t':=s1.toks) fun b o e=>ω _ e,aIr _ x t ty hty W hs,⟨st,gw _⟩,fun b hb=>?_,q⟩;have e:b=s1.heap.objs.size:=by simpa using hb
  subst e;exact I1.fpOk (μ _) (I1.hok.fresh (μ _))
 cases ha:x.cps.all (·<128)
 ·exact wpAny_pyIter_wide ha (fin "str_iterator" _ (by decide) (fun A hA=>Walks.strWide hA _ x t) (fun A i s Q E st h=>wpAny_pyIter_striter_wide st h) ⟨_,gm _ rfl,rfl,rfl⟩)
 ·exact wpAny_pyIter_ascii ha (fin "str_ascii_iterator" _ (by decide) (fun A hA=>Walks.strAscii hA _ x t) (fun A i s Q E st h=>wpAny_pyIter_striter_ascii st h) ⟨_,gm _ rfl,rfl,rfl⟩)
theorem aHz{x:Str}{k:Nat}{tc:TT}{te:TE}{Q:VK}(P:Nat->List V->Hp->Prop)(h0:P 0 [] H1)(hl:∀i ys H,i<=x.length->P i ys H->ys.length<=i)(hz:x.length<χ)
  (hs:∀i c ys H,x.cps.toList[i]?=some c->P i ys H->tc (some (.str ⟨#[c]⟩)::vE js σ) H fun b H2=>if b=true then te (some (.str ⟨#[c]⟩)::vE js σ) H2 fun v H3=>cQ P i js σ (some (.str ⟨#[c]⟩)::vE js σ) (ys++[v]) H3 else cQ P i js σ (some (.str ⟨#[c]⟩)::vE js σ) ys H2)
  (hd:∀ys H,P x.length ys H->∀p,H p=none->Q (.ref p) (upd H p (.lst ys)))(hk:k=1:=by rfl):
  dY (Itx x) k js (yZ 0) tc te σ Q H1:=by
 subst hk;refine aD P (fun σ'=>∃o,σ'=o::vE js σ) ⟨none,rfl⟩ h0 hz hl (fun i ys H h p=>h) (fun ys H p=>⟨μ _,fun l n _=>hd ys H p l n⟩) fun i ys σ' H h p r x H' y=>?_;obtain⟨o,rfl⟩:=r;obtain⟨rfl,c,hc,rfl⟩:=y;exact hs i c ys _ (by simpa using hc) p
theorem aQx(x:Str)(c:Nat):(!(om x ⟨#[c]⟩ 0 x.length 1).isEmpty)=decide (c∈x.cps.toList):=by
 rw[PyProof.Rows.empty_one,Bool.not_not]
theorem aDo{ys:List Str}: ∀{us:List Value},kO (ys.map V.str) us->StrsAre us ys:=by
 induction ys with
 |nil=>intro us r;cases r;exact .nil
 |cons y ys ih =>
  intro us r;cases r with
  |cons a b=>obtain⟨t,rfl⟩:=a;exact .cons _ _ (ih b)
theorem sR:∀(tk:Nat) (ps:List Str),kO (ps.map V.str) (strsFrom tk ps)
 |_,[]=>.nil
 |tk,p::ps=>.cons ⟨_,rfl⟩ (sR (tk+1) ps)
theorem cA:vD X (.type "int") (fun xs H Q=>∃(x:Str) (n:Int),xs=[.str x]/\PySem.intText? x=some n/\x.length<=640/\Q (.int n) H):=by
 intro pins s σ H xs us Q I r h;obtain⟨x,n,rfl,h1,h2,q⟩:=h;obtain⟨u,rfl,t,rfl⟩:=vals1 r;exact PySem.W.KIN.call_text h1 h2 ⟨.int n,H,I.tok _,⟨_,rfl⟩,q⟩
end
end L2
namespace L2
open PySem
theorem kP{c k p}{es:List Expr}: ip (.Constant c k p::es) env=(false,eval (.Constant c k p) env)::ip es env:=rfl
theorem nH{xs p}{es:List Expr}: ip (.List xs p::es) env=(false,eval (.List xs p) env)::ip es env:=rfl
theorem bI{xs k p}{es:List Expr}: ip (.Tuple xs k p::es) env=(false,eval (.Tuple xs k p) env)::ip es env:=rfl
theorem iM{ks vs p}{es:List Expr}: ip (.Dict ks vs p::es) env=(false,eval (.Dict ks vs p) env)::ip es env:=rfl
end L2
namespace L2
open PySem PySem.Spec PyProof.Rows
structure PEx (X:Cx) (e:Expr) (t:TE):Prop where
 h:PE X e t
structure PAx (X:Cx) (es:List Expr) (t:TA):Prop where
 h:PA X es t
structure tM (X:Cx) (st:Stmt) (t:TS):Prop where
 h:PS X st t
structure PSx (X:Cx) (sts:List Stmt) (t:TS):Prop where
 h:PSs X sts t
section
variable {X:Cx}{e:Expr}{es:List Expr}{te:TE}{t:TA}{st:Stmt}{rest:List Stmt}{ts us:TS}
theorem vH:PAx X [] aIe:=⟨jB⟩
theorem jP(ha:PEx X e te)(hr:PAx X es t)(hs:ip (e::es) X.env=(false,eval e X.env)::ip es X.env):PAx X (e::es) (aOk te t):=⟨jA ha.h hr.h hs⟩
theorem jY(h:PE X e te):PEx X e te:=⟨h⟩
theorem wU(hes:PAx X es t)(hi:PEx X ix ti)(hs:uH ix):PEx X (.Subscript (.List es p1) ix p2) (tOp (rIxL X.K) (tLst t) ti):=⟨aOy jX (qU hes.h) hi.h hs⟩
theorem xC(h:PS X st ts):tM X st ts:=⟨h⟩
theorem kW(h1:tM X st ts)(h2:PSx X rest us):PSx X (st::rest) (vF ts us):=⟨jE h1.h h2.h⟩
theorem vC(h1:tM X st ts):PSx X [st] ts:=⟨jD h1.h⟩
end
def CDivL (i j:Int):Prop:=0<j/\j<2 ^ 128
theorem log2_small{n:Nat}(h:n<2 ^ 128):n.log2<9000:=by
 by_cases h0:n=0
 ·subst h0;decide
 ·have:=(Nat.log2_lt h0).mpr h;omega
section
variable {X:Cx}
theorem aJq:OpR X (qt .FloorDiv) (rI CDivL fun i j=>.int (i / j)):=opI fun i j _ _ _ _ _ hc q=>by
 have hj : 0<=j:=Int.le_of_lt hc.1;have e:i.fdiv j=i / j:=Int.fdiv_eq_ediv_of_nonneg _ hj;refine floordiv_int (Int.ne_of_gt hc.1) (by rw[e];exact q) (.inl (PyProof.noPylong_of_log2 (log2_small ?_)));obtain⟨n,rfl⟩:=xc hj;have h2:=hc.2;simp only[Int.natAbs_natCast]
 exact_mod_cast h2
theorem uF(l:Addr)(items:Array Value)(n:Nat)(b:Addr)(items2:Array Value)(n2:Nat)(sl sl2:Array (Option Value))(hc0:items.size+items2.size<=χ):
  Meets (oy.«list.__add__» ⟨[.ref l,.ref b],[]⟩) (fun _ R s=>s.heap.get? l=some { cls:=.type "list",dict:=none,data:=.seq items n,slots:=sl }/\s.heap.get? b=some { cls:=.type "list",dict:=none,data:=.seq items2 n2,slots:=sl2 }/\R (.ok (.ret (jm s.heap.objs.size))) { s with heap:=s.heap.push { cls:=wn "list",data:=Data.seq (items++items2) },toks:=s.toks }) :=
 .of_wp fun prog w A R s h=>by obtain⟨hp,g,d,tk,os⟩:=s;obtain⟨hl,hb,h⟩:=h;have f1:=AutoSeq1.idx_int;have f2:=AutoSeq1.sub_tuple_tuple;have f3:=AutoSeq1.sub_list_list;have f4:=AutoSeq1.sub_tuple_list;have f5:=AutoSeq1.sub_list_tuple;wp_walk using AutoSeq1.wpAny_loadPart' hl,AutoSeq1.wpAny_loadPart' hb;exact⟨_,rfl,h⟩
mutual
inductive Dat (K:Δ) (H:Hp):V->ν->Prop
 |non:Dat K H .non .none
 |bl (b:Bool):Dat K H (.bl b) (.bool b)
 |int (i:Int):Dat K H (.int i) (.int i)
 |str (x:Str):Dat K H (.str x) (.str x)
 |lst {a:Addr}{xs:List V}{ds:List ν} : SqL K H a xs->DatAll K H xs ds->Dat K H (.ref a) (.list ds)
 |tup {a:Addr}{xs:List V}{ds:List ν} : SqT K H a xs->DatAll K H xs ds->Dat K H (.ref a) (.tuple ds)
inductive DatAll (K:Δ) (H:Hp):List V->List ν->Prop
 |nil:DatAll K H [] []
 |cons {x:V}{xs:List V}{d:ν}{ds:List ν} : Dat K H x d->DatAll K H xs ds->DatAll K H (x::xs) (d::ds)
end
mutual
theorem Inv.reads(I:Inv X pins σ H s):∀{x:V}{d:ν}{u:Value},Dat X.K H x d->RelV x u->∃as,Reads s.heap u d as
 |_,_,_,.non,r=>by cases r;exact⟨_,.none⟩
 |_,_,_,.bl b,r=>by cases r;exact⟨_,.bool b⟩
 |_,_,_,.int i,r=>by obtain⟨t,rfl⟩:=r;exact⟨_,.int i t⟩
 |_,_,_,.str x,r=>by obtain⟨t,rfl⟩:=r;exact⟨_,.str x t⟩
 |_,_,_,.lst h ds,r=>by
  cases r;obtain⟨its,rv,⟨o,n,e,hc,_,hd⟩,_⟩:=I.list h;obtain⟨as,ra⟩:=Inv.readsAll I ds rv;exact⟨_,.list e hc hd ra⟩
 |_,_,_,.tup h ds,r=>by
  cases r;obtain⟨its,rv,⟨o,e,hc,n,hd⟩,_⟩:=I.tuple h;obtain⟨as,ra⟩:=Inv.readsAll I ds rv;exact⟨_,.tuple e hc hd ra⟩
theorem Inv.readsAll(I:Inv X pins σ H s):∀{xs:List V}{ds:List ν}{us:List Value},DatAll X.K H xs ds->kO xs us->∃as,ReadsAll s.heap us ds as
 |_,_,_,.nil,r=>by cases r;exact⟨_,.nil⟩
 |_,_,_,.cons h t,r=>by
  cases r with
  |cons r1 r2 =>
   obtain⟨a1,e1⟩:=Inv.reads I h r1;obtain⟨a2,e2⟩:=Inv.readsAll I t r2;exact⟨_,.cons e1 e2⟩
end
def rEqD (K:Δ) (neg:Bool):R2:=fun x y H Q=>∃d d':ν,Dat K H x d/\Dat K H y d'/\vo d=true/\vo d'=true/\Q (.bl (xor neg (ν.eqv d d'))) H
theorem aIp(hu:X.A.units+64<pw):OpR X (kn .NotEq) (rEqD X.K true):=by
 intro pins s σ H x y v u Q I rx ry h;obtain⟨d,d',hx,hy,s1,s2,q⟩:=h;obtain⟨as,ra⟩:=I.reads hx rx;obtain⟨bs,rb⟩:=I.reads hy ry;exact ne_dataH ra rb s1 s2 hu ⟨.bl _,H,I,rfl,by simpa using q⟩
end
mutual
theorem Dat.same{K:Δ}(g:jG H H'):∀{x:V}{d:ν},Dat K H x d->Dat K H' x d
 |_,_,.non=>.non
 |_,_,.bl b=>.bl b
 |_,_,.int i=>.int i
 |_,_,.str x=>.str x
 |_,_,.lst h t=>.lst (g.seq h) (DatAll.same g t)
 |_,_,.tup h t=>.tup (by
   rcases h with (h|⟨o,h⟩)|h
   ·exact .inl (.inl (g _ _ h))
   ·exact .inl (.inr ⟨o,g _ _ h⟩)
   ·exact .inr h) (DatAll.same g t)
theorem DatAll.same{K:Δ}(g:jG H H'):∀{xs:List V}{ds:List ν},DatAll K H xs ds->DatAll K H' xs ds
 |_,_,.nil=>.nil
 |_,_,.cons h t=>.cons (Dat.same g h) (DatAll.same g t)
end
section
variable {X:Cx}
theorem aAx(hc:X.calm=true):vD X (.builtin "sum") (fun xs H Q=>∃(a:Addr) (ns:List Int),xs=[.ref a]/\SqL X.K H a (ns.map V.int)/\Q (.int ns.sum) H):=by
 intro pins s σ H xs us Q I r h;obtain⟨a,ns,rfl,ha,q⟩:=h;obtain⟨u,rfl,rx⟩:=vals1 r;cases rx;obtain⟨its,rv,pl,_⟩:=I.list ha;have hi:=intsAre_of rv;obtain⟨ys,hy⟩:=hi.allInts.items;refine sum_intListG (I.ok.hd hc) (hy ▸ pl.isList) fun h' tk t' hk=>?_;have e1:ns=ys.toList.map (·.1):=by
  rw[←nums_intItems,←hy];exact(show numsOf its.toArray.toList=ns from hi.numsOf).symm
 rw[preSum_eq,mh (by simp),←e1];exact⟨.int ns.sum,H,I.kept hk,⟨_,rfl⟩,q⟩
end
section
variable {X:Cx}
theorem xF{K:Δ}{n:Nat}(hK:X.K=K)(hc:X.calm=true)(h:PGs X es t)
  (hn:(vc es X.env).length=n:=by rfl)(hst:(vc es X.env).findIdx? (·.1)=none:=by rfl):PG X (.Tuple es k pos) (gTup K n t):=hK ▸ cO hc h hn hst
end
def rZ (P:Nat->List V->Hp->Prop) (i k:Nat) (js:List Nat) (σ:St):St->List V->Hp->Prop:=fun σ' ys H=>P (i+1) ys H/\∃os:St,os.length=k/\σ'=os++vE js σ
theorem zU{K:Δ}{xs:List V}{k:Nat}{g:TG}{tc:TT}{te:TE}{Q:VK}(P:Nat->List V->Hp->Prop)(h0:P 0 [] H1)(hl:∀i ys H,i<=xs.length->P i ys H->SqL K H a xs/\ys.length<=i)(hz:xs.length<χ)
  (hs:∀i x ys H (os:St),os.length=k->xs[i]?=some x->P i ys H->g x (os++vE js σ) H fun σ3 H3=>tc σ3 H3 fun b H2=>if b=true then te σ3 H2 fun v H3=>rZ P i k js σ σ3 (ys++[v]) H3 else rZ P i k js σ σ3 ys H2)
  (hd:∀ys H,P xs.length ys H->∀p,H p=none->Q (.ref p) (upd H p (.lst ys))):
  dY (Itl K a) k js g tc te σ Q H1:=by
 refine aD P (fun σ'=>∃os:St,os.length=k/\σ'=os++vE js σ) ⟨ve k none,nj,rfl⟩ h0 hz (fun i ys H h p=>(hl i ys H h p).2) (fun i ys H h p=>⟨xs,xs[i],(hl i ys H (jw h) p).1,η h⟩) (fun ys H p=>⟨⟨xs,(hl _ ys H (μ _) p).1,μ _⟩,fun l n _=>hd ys H p l n⟩) fun i ys σ' H h p r x H' y=>?_;obtain⟨os,ho,rfl⟩:=r;have q:=(hl i ys H (jw h) p).1;obtain⟨rfl,y⟩:=y;exact hs i x ys _ os ho (y xs q) p
def But (l:Addr) (H H':Hp):Prop:=∀b o,b≠l->H b=some o->H' b=some o
theorem But.trans(a:But l H H1)(b:But l H1 H2):But l H H2:=fun x o n q=>b x o n (a x o n q)
theorem But.refl : But l H H:=fun _ _ _ q=>q
theorem But.of(g:jG H H'):But l H H':=fun x o _ q=>g x o q
theorem But.same{H:Hp}(a:But l H H')(h:H l=none):jG H H':=fun x o q=>a x o (jM q h) q
theorem But.upd : But l H (upd H l o):=fun x u n q=>by rw[jS n];exact q
theorem But.tup{K:Δ}{l:Addr}{H H':Hp}{zs:List V}(e:But l H H')(hl:H l=some (.lst zs)){a:Addr}{xs:List V}(h:SqT K H a xs):SqT K H' a xs:=by
 rcases h with (h|⟨o,h⟩)|h
 ·exact .inl (.inl (e _ _ (hJ h hl (by intro z;cases z)) h))
 ·exact .inl (.inr ⟨o,e _ _ (hJ h hl (by intro z;cases z)) h⟩)
 ·exact .inr h
end L2
namespace L2
open PySem
section
variable {prog:io}{w:jl}{M:Model}{A:km}{E:Value->ς->Prop}{h:kq}{g:Array GenState}{d:Drawn}{t:Nat}{os:OsState}
 {nm qn:Str}{C N:Addr}{bs bm:List Value}{hdct:Bool}{sn:List Str}{sub:List Value}{ab:Bool}{col:Option Bool}{dd:Option Addr}{k0 k1 k2 k3 k5:Option Value}
abbrev xcls (nm qn:Str) (C N:Addr) (bs bm:List Value) (hdct:Bool) (sn:List Str) (sub:List Value) (ab:Bool) (col:Option Bool) (dd:Option Addr) (k0 k1 k2 k3 k5:Option Value):Obj :=
 excClassObj nm qn C N bs bm hdct sn sub ab col dd k0 k1 k2 k3 k5 "ValueError.__new__"
end
end L2
namespace L2
open PySem PyProof.Rows
abbrev VB:List Value:=[.type "ValueError",.type "Exception",.type "BaseException",.type "object"]
structure ExCl (K:Δ) (C R fI:Addr):Prop where
 obj:∃(nm qn:Str) (N:Addr) (bs:List Value) (sn:List Str) (sub:List Value) (ab:Bool) (col:Option Bool) (dd:Option Addr) (k0 k1 k2 k3 k5:Option Value),
  K.lookup C=some (xcls nm qn C N bs (.ref R::VB) true sn sub ab col dd k0 k1 k2 k3 k5)/\PySem.W.nsOkIn K N=true/\nsIn K N "__init__" = some (some (.ref fI))
 fn:isFn K (.ref fI)=true
 kp:keepIn K (.ref C)=true
 sa:sf K (.ref C) "__setattr__" = some (some (.builtin "object.__setattr__"))
 ga:sf K (.ref C) "__getattribute__" = some (some (.builtin "BaseException.__getattribute__"))
 gh:sf K (.ref C) "__getattr__" = some none
theorem aDw{K:Δ}{m:Str->Option Value}(X:K.In h)(G:h.Ns N m)(e:nsIn K N n=some (some v)):m n=some v:=by
 obtain⟨o,es,ep,ho,hd,_,hf⟩:=G;unfold nsIn at e;cases q:K.lookup N with
 |none=>rw[q]at e;cases e
 |some o' =>
  have z:=X _ _ q;rw[ho]at z;cases z;rw[q]at e;obtain⟨c,d,dt,sl⟩:=o;cases hd;rw[←hf];unfold nsFind findBy;rw[←Array.find?_toList];dsimp only at e;cases q2:es.toList.find? (fun x=>x.key.isStr n) with
  |some y =>
   rw[q2]at e;exact congrArg (fun z:Option (Option Value)=>z.getD none) e
  |none =>
   rw[q2]at e;dsimp only at e
   split at e <;> cases e
theorem ExCl.cls{K:Δ}(c:ExCl K C R fI)(X:K.In h):
  ∃(nm qn:Str) (N:Addr) (bs:List Value) (sn:List Str) (sub:List Value) (ab:Bool) (col:Option Bool) (dd:Option Addr) (k0 k1 k2 k3 k5:Option Value) (mN:Str->Option Value) (oI:Obj),
   h.get? C=some (xcls nm qn C N bs (.ref R::VB) true sn sub ab col dd k0 k1 k2 k3 k5)/\h.Ns N mN/\mN "__init__" = some (.ref fI)/\h.get? fI=some oI/\oI.cls=.type "function":=by
 obtain⟨nm,qn,N,bs,sn,sub,ab,col,dd,k0,k1,k2,k3,k5,lk,nsok,nsi⟩:=c.obj;have hN:=kq.Ns.of_isNs (PySem.W.isNs_of_in X nsok);have hf:=c.fn;unfold isFn PySem.W.typeIn at hf;have hf':=beq_iff_eq.mp hf;obtain⟨oI,q,r⟩:=Option.map_eq_some_iff.mp hf';exact⟨nm,qn,N,bs,sn,sub,ab,col,dd,k0,k1,k2,k3,k5,_,oI,X _ _ lk,hN,aDw X hN nsi,X _ _ q,r⟩
end L2
namespace L2
open PySem PySem.Spec PyProof.Rows
theorem Cx.Ok.back{X:Cx}{pn:List (Addr×Obj)}{E:Value->ς->Prop}(ok:Cx.Ok { X with pn:=pn,xe:=E }):X.Ok :=
 ⟨ok.mod,ok.kind,ok.glob,ok.blt,ok.above,ok.inj,ok.has,ok.cab,ok.hd,ok.frames,ok.stk,ok.exf,ok.bs,ok.bsz,ok.noex,ok.exfs,ok.funs,ok.frf⟩
section
variable {X:Cx}{pins:List (Addr×Obj)}{σ:St}{H:Hp}{s:ς}
theorem Inv.back{pn:List (Addr×Obj)}{E:Value->ς->Prop}(I:Inv { X with pn:=pn,xe:=E } pins' σ H s)(h:∀p∈X.pn++pins,p∈pn++pins'):Inv X pins σ H s :=
 ⟨I.ok.back,I.os,I.bare,I.base,I.loc,I.cell,I.free,I.freeC,fun p hp=>I.pin p (h p hp),I.hok,I.len⟩
end
structure XCls (K:Δ) (C:Addr) (bm:List Value):Prop where
 obj:∃(nm q:Str) (N:Addr) (bs:List Value) (hd:Bool) (sn:List Str) (sub:List Value) (ab:Bool) (col:Option Bool) (dd:Option Addr) (k0 k1 k2 k3 k5:Option Value) (ni:String),K.lookup C=some (excClassObj nm q C N bs bm hd sn sub ab col dd k0 k1 k2 k3 k5 ni)
 b:bm.contains (.type "BaseException")=true
theorem nM{v i p}{es:List Expr}: ip (.Subscript v i p::es) env=(false,eval (.Subscript v i p) env)::ip es env:=rfl
theorem zJ{l o r p}{es:List Expr}: ip (.BinOp l o r p::es) env=(false,eval (.BinOp l o r p) env)::ip es env:=rfl
section
variable {X:Cx}
theorem yA(hc:PT X c tc)(ha:PSx X a t)(hb:PSs X b u):tM X (.If c a b pos) (aIw tc t u):=⟨kK hc ha.h hb⟩
end
section
variable {X:Cx}
def tyM (K:Δ) (x:V) (H:Hp) (t:String):Prop:=tyN K x H t\/(t = "dict"/\∃p kvs,x=.ref p/\H p=some (.dK kvs))
end
end L2
namespace L2
open PySem PyProof.Rows
def keyD:Key->ν
 |.inl n=>.int n
 |.inr x=>.str x
theorem aHt(hk:(kT P w).is k u=true):Reads h u (keyD k) []:=by
 rcases qJ hk with⟨i,t,rfl,rfl⟩|⟨x,t,rfl,rfl⟩
 ·exact .int _ _
 ·exact .str _ _
end L2
namespace L2
open PySem PySem.Spec PyProof.Rows
section
variable {X:Cx}{pins:List (Addr×Obj)}{σ:St}{H:Hp}{s:ς}{h':kq}
theorem Inv.turned2{t':Nat}{e it p:Addr}(I:Inv X pins σ H s)(k:∀b u,b≠e->b≠it->s.heap.get? b=some u->h'.get? b=some u)(fe:eO X pins H e)(fi:eO X pins H it)
  (hp:s.heap.objs.size<=p)(new:qO X.prog X.w (upd H p o) h' p o):Inv X pins σ (upd H p o) { s with heap:=h',toks:=t' }:=by
 have hn:=I.hok.fresh hp;have ne:∀b u,H b=some u->b≠e:=fun b u q=>jM q fe.1;have ni:∀b u,H b=some u->b≠it:=fun b u q=>jM q fi.1;have nx:∀b,b∉[e,it]->b≠e/\b≠it:=fun b hb=>⟨fun z=>hb (by simp[z]),fun z=>hb (by simp[z])⟩;have np:∀b u,s.heap.get? b=some u->b≠p:=fun b u q=>ii (Γ (gx q) hp);have u:Un (frs X.stack) [e,it] H (upd H p o) s.heap h':=by
  refine⟨fun b u q _ _ hx=>k b u (nx b hx).1 (nx b hx).2 q,fun b u q _ _ hx=>⟨u.slots,k b u (nx b hx).1 (nx b hx).2 q⟩,fun b u q n _=>?_,fun b u q hx=>⟨u,k b u (nx b hx).1 (nx b hx).2 q⟩,fun b xs q=>?_,fun b o' u q=>?_,fun b ps q=>⟨#[],?_⟩⟩
  ·rw[jS (np b u q)];exact n
  ·rw[jS (jM q hn)];exact q
  ·rw[jS (jM q hn)];exact q
  ·rw[jS (jM q hn),q];simp
 have hok:HOk X.prog X.w (upd H p o) h':=fun b v eb=>by
  by_cases hb:b=p
  ·subst hb;rw[jR]at eb;cases eb;exact new
  ·rw[jS hb]at eb;refine(I.hok b v eb).stay (fun c w hc q=>k c w ?_ ?_ q) (fun c q=>by rw[jS (jM q hn)];exact q) fun c xs q=>by rw[jS (jM q hn)];exact q
   ·rcases hc with z|z
    ·rw[z];exact ne b v eb
    ·exact ne c _ z
   ·rcases hc with z|z
    ·rw[z];exact ni b v eb
    ·exact ni c _ z
 refine I.call (g':=s.gens) (d':=s.drawn) (t':=t') (ch:=[e,it]) u hok I.bare fun b hb=>?_;have:b=e\/b=it:=by simpa using hb
 rcases this with rfl|rfl
 ·exact⟨fe.2.2.2.1,fe.2.1,fe.2.2.2.2.1,fe.2.2.2.2.2⟩
 ·exact⟨fi.2.2.2.1,fi.2.1,fi.2.2.2.2.1,fi.2.2.2.2.2⟩
end
def Ite (K:Δ) (a:Addr):It :=
 ⟨fun i H=>∃xs x,SqL K H a xs/\xs[i]?=some x,fun i H x H'=>∃y p,x=.ref p/\H p=none/\H'=upd H p (.tup [.int (i:Int),y])/\∀xs,SqL K H a xs->xs[i]?=some y,fun i H=>∃xs,SqL K H a xs/\xs.length<=i⟩
theorem aHm{K:Δ}(a e it:Addr)(hne:e≠it):Turn P w K (.Tuple elts x1 pos) (Ite K a) [e,it] e (fun i h=>(∃old,IsEnum h e it (i:Int) old)/\h.IsListIter it a i) where
 mem:=by simp
 obj:=fun i h st b hb=>by
  have:b=e\/b=it:=by simpa using hb
  obtain⟨⟨old,he⟩,o,ho,hc,hd⟩:=st;rcases this with rfl|rfl
  ·exact⟨_,he,fun v z=>by cases z⟩
  ·exact⟨o,ho,fun v z=>by rw[hd]at z;cases z⟩
 keep:=fun i h h' st k=>by
  obtain⟨⟨old,he⟩,o,ho,r⟩:=st;exact⟨⟨old,k e (by simp) _ he⟩,o,k it (by simp) _ ho,r⟩
 item:=by
  intro X hP hw hK hc i pins s σ H E I hf st hg;subst hP hw hK;obtain⟨xs,x,hq,hx⟩:=hg;obtain⟨its,rv,p,hz⟩:=I.list hq;obtain⟨u,hu,ru⟩:=rv.get hx;have fe:=hf e (by simp);have fi:=hf it (by simp);obtain⟨⟨old,he⟩,hit⟩:=st;refine wpAny_pyNext_enum_item he hit p.isList (x:=u) (by simpa using hu) hne fun h1 heo hit1 ht1 hz1 hk1=>⟨_,rfl,?_⟩;refine wpAny_letOwnedTupleGo_enum heo fun h2 he2 hs2=>?_;replace hs2:qc e h1 h2:=hs2;have ne:s.heap.objs.size≠e:=vi (gx he);have ht2:h2.get? s.heap.objs.size=some { cls:=.type "tuple",data:=.seq #[.int i s.toks,u] }:=(hs2.2 _ ne).trans ht1;have k2:∀b v,b≠e->b≠it->s.heap.get? b=some v->h2.get? b=some v:=fun b v n1 n2 q=>(hs2.2 b n1).trans (hk1 b v n1 n2 q);refine⟨.ref s.heap.objs.size,upd H s.heap.objs.size (.tup [.int (i:Int),x]),I.turned2 (t':=s.toks+1) k2 fe fi (μ _) ⟨(by show 2<=χ;decide),[.int i s.toks,u],.cons ⟨_,rfl⟩ (.cons ru .nil),_,ht2,rfl,_,rfl⟩,rfl,⟨x,_,rfl,I.hok.fresh (μ _),rfl,fun ys hy=>by rw[I.list_inj hy hq];exact hx⟩,⟨⟨_,he2⟩,?_⟩,fun b hb=>?_⟩
  ·obtain⟨o,ho,r⟩:=hit1;exact⟨o,(hs2.2 it (kh hne)).trans ho,r⟩
  ·have:b=e\/b=it:=by simpa using hb
   obtain⟨oi,hoi,_⟩:=hit;rcases this with rfl|rfl
   ·rw[jS (kh ne)];exact fe.1
   ·rw[jS (ii (gx hoi))];exact fi.1
 done:=by
  intro X hP hw hK hc i pins s σ H E I hf st hg;subst hP hw hK;obtain⟨xs,hq,hl⟩:=hg;obtain⟨its,rv,p,hz⟩:=I.list hq;have hlen:=rv.length;obtain⟨f0,f1,f2,f3,f4,f5⟩:=hf it (by simp);obtain⟨⟨old,he⟩,hit⟩:=st;exact wpAny_pyNext_enum_end (I.ok.hd hc) he hit p.isList (by simp;omega) fun h' eb=>⟨rfl,I.turned (t':=s.toks) (fun b o hb e=>eb b o hb e) f0 f1 f3 f4 f5⟩
 self:=fun _ _ _ _ _ st h=>by
  obtain⟨⟨old,he⟩,_⟩:=st;exact wpAny_pyIter_enum he h
def iEnum (K:Δ) (ta:TA):TI:=fun σ H R=>ta σ H fun vs H1=>∃a xs,vs=[.ref a]/\SqL K H1 a xs/\R (Ite K a) H1
theorem aFm{a:Expr}(hg:Gl X "enumerate")(hm:X.mg "enumerate" = none)(ha:PA X [a] ta)(hs:ip [a] X.env=[(false,eval a X.env)]:=by rfl):PI X (.Tuple elts x1 tpos) (.Call (.Name "enumerate" p) [a] [] pos) (iEnum X.K ta):=by
 intro pins s σ H R I h;refine Call_ (iY I hg hm boot_enumerate (qx (thn (ha pos pins s σ H _ I h) fun us s1 zq=>?_) hs rfl));obtain⟨vs,H1,I1,r1,q1⟩:=zq;obtain⟨l,xs,e,hl,q⟩:=q1;subst e;obtain⟨u,rfl,rx⟩:=vals1 r1;cases rx;obtain⟨its,rv,pl,hz⟩:=I1.list hl;refine call_enumerate_list pl.isList fun h' he hit hsz hk=>wpAny_pyIter_enum he ?_;refine⟨s1.heap.objs.size+1,[s1.heap.objs.size+1,s1.heap.objs.size],_,_,H1,rfl,I1.kept (t':=s1.toks) hk,aHm l _ _ (Nat.succ_ne_self _),⟨⟨_,he⟩,hit⟩,fun b hb=>?_,q⟩;have:b=s1.heap.objs.size+1\/b=s1.heap.objs.size:=by simpa using hb
 rcases this with rfl|rfl
 ·exact I1.fpOk (rj _) (I1.hok.fresh (rj _))
 ·exact I1.fpOk (μ _) (I1.hok.fresh (μ _))
theorem aAk{K:Δ}{xs:List V}{g:TG}{tb:TS}{D:Ends}{σ:St}{H:Hp}(Pv:Nat->St->Hp->Prop)(h0:Pv 0 σ H)(hl:∀i σ H,i<=xs.length->Pv i σ H->SqL K H a xs)
  (hs:∀i x σ H p,xs[i]?=some x->Pv i σ H->H p=none->LpL (let D2:Ends:={ D with nx:=Pv (i+1),ct:=Pv (i+1),bk:=D.nx };g (.ref p) σ (upd H p (.tup [.int (i:Int),x])) fun σ2 H2=>tb D2 σ2 H2))(hd:∀σ H,Pv xs.length σ H->D.nx σ H):
  ∃W:Nat->Nat->St->Hp->Prop,(∃m,W 0 m σ H)/\∀i m σ H,W i m σ H →
   ((Ite K a).stop i H/\D.nx σ H)\/((Ite K a).go i H/\∃N:St->Hp->Prop,(∀σ' H',N σ' H'->∃m',m'<m/\W (i+1) m' σ' H')/\∀x H',(Ite K a).yld i H x H'->g x σ H' fun σ2 H2=>tb { D with nx:=N,ct:=N,bk:=D.nx } σ2 H2):=by
 refine⟨fun i m σ H=>m=xs.length-i/\i<=xs.length/\Pv i σ H,⟨xs.length,by simp,gw _,h0⟩,?_⟩;rintro i m σ H ⟨rfl,hi,p⟩;have q:=hl i σ H hi p
 by_cases hlt:i<xs.length
 ·refine .inr ⟨⟨xs,xs[i],q,by simp[hlt]⟩,Pv (i+1),fun σ' H' p'=>⟨xs.length-(i+1),by omega,rfl,hlt,p'⟩,fun x H' y=>?_⟩;obtain⟨y',pa,rfl,hn,rfl,hy⟩:=y;exact hs i y' σ H pa (hy xs q) p hn
 ·have e:i=xs.length:=by omega
  subst e;exact .inl ⟨⟨xs,q,μ _⟩,hd σ H p⟩
section
variable {X:Cx}
def unlike (ns:List Int):Nat:=(firstMet (fun i=>ns.getD i 0) ns.length).length
end
end L2
namespace L2
open PySem
theorem xG.units1(r:xG k A):A.units+1<pw:=by
 have:=r.units;omega
end L2
namespace L2
open PySem PySem.Spec PyProof.Rows
def Sq2 (K:Δ):Bool->Hp->Addr->List V->Prop
 |false,H,a,xs=>SqL K H a xs
 |true,H,a,xs=>SqT K H a xs
def aE:Bool->kq->Addr->Addr->Nat->Prop
 |false,h,j,a,i=>h.IsListIter j a i
 |true,h,j,a,i=>h.IsTupleIter j a i
def zA:Bool->kq->Addr->Array Value->Prop
 |false,h,a,xs=>h.IsList a xs
 |true,h,a,xs=>h.IsTuple a xs
theorem aE.keep{g:kq}(x:aE b h j a i)(k:∀o,h.get? j=some o->g.get? j=some o):aE b g j a i:=by
 cases b <;> (obtain⟨o,e,r⟩:=x;exact⟨o,k o e,r⟩)
theorem zA.keep{g:kq}(x:zA b h a xs)(k:∀o,h.get? a=some o->g.get? a=some o):zA b g a xs:=by
 cases b <;> (obtain⟨o,e,r⟩:=x;exact⟨o,k o e,r⟩)
theorem aE.obj(x:aE b h j a i):∃o,h.get? j=some o/\∀v,o.data≠.cell v:=by
 cases b <;> (obtain⟨o,e,c,d⟩:=x;exact⟨o,e,fun v z=>by rw[d]at z;cases z⟩)
theorem zA.lt(x:zA b h a xs):a<h.objs.size:=by
 cases b <;> (obtain⟨o,e,_⟩:=x;exact gx e)
section
variable {P:io}{w:jl}{A:km}{E:Value->ς->Prop}{s:ς}
theorem aNp{Q:Value->ς->Prop}(hj:s.heap.IsTupleIter j a n)(ha:s.heap.IsTuple a vs)(hv:vs[n]?=some v)
  (q:∀g,g.IsTupleIter j a (n+1)->qc j s.heap g->Q v { s with heap:=g }):gp (ik P w) A (jx (.ref j)) Q E s:=by
 obtain⟨oj,ej,cj,dj⟩:=id hj;obtain⟨oa,ea,ca,na,da⟩:=ha;unfold jx;refine ε (wpAny_callSpecial?_slot (name:=ζ "__next__") hj.typeIs rq (mn rq hj.typeIs F.entry_tuple_iterator_next ?_ (F.args_tuple_iterator_next_1 _)));show gp _ _ (field (.ref j) 0 >>= _) _ _ s;refine ε (qg ej dj (x:=.ref a) rfl ?_);show gp _ _ (if (jm a == mz)=true then _ else _) _ _ s;rw[if_neg (show ¬ ((jm a == mz)=true) from ο)];show gp _ _ (field (.ref j) 1 >>= _) _ _ s;refine ε (qg ej dj (x:=.int n 0) rfl ?_);show gp _ _ (seqItems? (.ref a) >>= _) _ _ s;refine ε (qh ea da ?_);simp only[ql,hv];refine ε (wpAny_setField ej dj (by simp) (π ⟨v,rfl,π (q _ ?_ (vz ..))⟩));exact⟨_,uw _ ej (Obj.isFreed_of_fields (ww dj _)),(Obj.cls_mapFields ..).trans cj,by rw[ww dj];simp[rawInt]⟩
theorem aQh(hh:A.handled=none)(hj:s.heap.IsTupleIter j a n)(ha:s.heap.IsTuple a vs)(hv:vs[n]?=none)
  (hE:∀g x,kq.ExtBut j s.heap g->(∃o,g.get? x=some o/\o.cls=.type "StopIteration")->E (.ref x) { s with heap:=g }):gp (ik P w) A (jx (.ref j)) Q E s:=by
 obtain⟨oj,ej,cj,dj⟩:=id hj;obtain⟨oa,ea,ca,na,da⟩:=ha;unfold jx;refine ε (wpAny_callSpecial?_slot (name:=ζ "__next__") hj.typeIs rq (mn rq hj.typeIs F.entry_tuple_iterator_next ?_ (F.args_tuple_iterator_next_1 _)));show gp _ _ (field (.ref j) 0 >>= _) _ _ s;refine ε (qg ej dj (x:=.ref a) rfl ?_);show gp _ _ (if (jm a == mz)=true then _ else _) _ _ s;rw[if_neg (show ¬ ((jm a == mz)=true) from ο)];show gp _ _ (field (.ref j) 1 >>= _) _ _ s;refine ε (qg ej dj (x:=.int n 0) rfl ?_);show gp _ _ (seqItems? (.ref a) >>= _) _ _ s;refine ε (qh ea da ?_);simp only[ql,hv];refine ε (wx (ε (wpAny_setField ej dj (by simp) ?_)));show gp _ _ (newExc (.type "StopIteration") [] >>= fun x=>raiseNew x) _ _ _;refine ε ?_;simp only[newExc,newTuple];refine ε (qo ?_ (by size_fits));refine ε (m:=firstArgMember _ _) (wpAny_of_eq (a:=mz) (by first|rfl|(simp only[firstArgMember];rfl)) ?_);refine qo ?_ (by size_fits);simp only[raiseNew];refine ε (wpAny_handled ?_)
 first|rw[show A.in1.handled=none from hh]|rw[hh]
 exact ε (π (wpAny_throw (hE _ _ (((vz ..).extBut.push _).push _) ⟨_,gm _ rfl,rfl⟩)))
theorem aDm{Q:Value->ς->Prop}(hj:aE b s.heap j a n)(ha:zA b s.heap a vs)(hv:vs[n]?=some v)
  (q:∀g,aE b g j a (n+1)->qc j s.heap g->Q v { s with heap:=g }):gp (ik P w) A (jx (.ref j)) Q E s:=by
 cases b
 ·exact wpAny_nextOf_list_item hj ha hv q
 ·exact aNp hj ha hv q
theorem aPe(hh:A.handled=none)(hj:aE b s.heap j a n)(ha:zA b s.heap a vs)(hv:vs[n]?=none)
  (hE:∀g x,kq.ExtBut j s.heap g->(∃o,g.get? x=some o/\o.cls=.type "StopIteration")->E (.ref x) { s with heap:=g }):gp (ik P w) A (jx (.ref j)) Q E s:=by
 cases b
 ·exact wpAny_nextOf_list_end hh hj ha hv hE
 ·exact aQh hh hj ha hv hE
end
abbrev itN (b:Bool):String:=if b then "tuple_iterator" else "list_iterator"
abbrev zp1 (b:Bool) (h:kq) (a:Addr):kq:=h.push { cls:=.type (itN b),data:=.fields #[.ref a,.int 0 0] }
section
variable {X:Cx}{pins:List (Addr×Obj)}{σ:St}{H:Hp}{s:ς}{h':kq}
theorem Inv.turnedL{t':Nat}{ch:List Addr}{p:Addr}(I:Inv X pins σ H s)(k:∀b u,b∉ch->s.heap.get? b=some u->h'.get? b=some u)(f:∀b∈ch,eO X pins H b)
  (hp:s.heap.objs.size<=p)(new:qO X.prog X.w (upd H p o) h' p o):Inv X pins σ (upd H p o) { s with heap:=h',toks:=t' }:=by
 have hn:=I.hok.fresh hp;have nx:∀b u,H b=some u->b∉ch:=fun b u q z=>jM q (f b z).1 rfl;have np:∀b u,s.heap.get? b=some u->b≠p:=fun b u q=>ii (Γ (gx q) hp);have u:Un (frs X.stack) ch H (upd H p o) s.heap h':=by
  refine⟨fun b u q _ _ hx=>k b u hx q,fun b u q _ _ hx=>⟨u.slots,k b u hx q⟩,fun b u q n _=>?_,fun b u q hx=>⟨u,k b u hx q⟩,fun b xs q=>?_,fun b o' u q=>?_,fun b ps q=>⟨#[],?_⟩⟩
  ·rw[jS (np b u q)];exact n
  ·rw[jS (jM q hn)];exact q
  ·rw[jS (jM q hn)];exact q
  ·rw[jS (jM q hn),q];simp
 have hok:HOk X.prog X.w (upd H p o) h':=fun b v eb=>by
  by_cases hb:b=p
  ·subst hb;rw[jR]at eb;cases eb;exact new
  ·rw[jS hb]at eb;refine(I.hok b v eb).stay (fun c w hc q=>k c w ?_ q) (fun c q=>by rw[jS (jM q hn)];exact q) fun c xs q=>by rw[jS (jM q hn)];exact q
   rcases hc with z|z
   ·rw[z];exact nx b v eb
   ·exact nx c _ z
 exact I.call (g':=s.gens) (d':=s.drawn) (t':=t') (ch:=ch) u hok I.bare fun b hb=>⟨(f b hb).2.2.2.1,(f b hb).2.1,(f b hb).2.2.2.2.1,(f b hb).2.2.2.2.2⟩
theorem Inv.turnedL0{t':Nat}{ch:List Addr}(I:Inv X pins σ H s)(k:∀b u,b∉ch->s.heap.get? b=some u->h'.get? b=some u)(f:∀b∈ch,eO X pins H b):Inv X pins σ H { s with heap:=h',toks:=t' }:=by
 have nx:∀b u,H b=some u->b∉ch:=fun b u q z=>jM q (f b z).1 rfl;have u:Un (frs X.stack) ch H H s.heap h':=by
  refine⟨fun b u q _ _ hx=>k b u hx q,fun b u q _ _ hx=>⟨u.slots,k b u hx q⟩,fun b u q n _=>n,fun b u q hx=>⟨u,k b u hx q⟩,fun b xs q=>q,fun b o' u q=>q,fun b ps q=>⟨#[],?_⟩⟩;rw[q];simp
 have hok:HOk X.prog X.w H h':=fun b v eb=>by
  refine(I.hok b v eb).stay (fun c w hc q=>k c w ?_ q) (fun c q=>q) fun c xs q=>q;rcases hc with z|z
  ·rw[z];exact nx b v eb
  ·exact nx c _ z
 exact I.call (g':=s.gens) (d':=s.drawn) (t':=t') (ch:=ch) u hok I.bare fun b hb=>⟨(f b hb).2.2.2.1,(f b hb).2.1,(f b hb).2.2.2.2.1,(f b hb).2.2.2.2.2⟩
theorem Inv.seq2(I:Inv X pins σ H s)(h:Sq2 X.K b H a xs):∃its:List Value,kO xs its/\zA b s.heap a its.toArray:=by
 cases b
 ·obtain⟨its,r,p,_⟩:=I.list h;exact⟨its,r,p.isList⟩
 ·obtain⟨its,r,p,_⟩:=I.tuple h;exact⟨its,r,p⟩
theorem Inv.seq2_inj(I:Inv X pins σ H s)(h:Sq2 X.K b H a xs)(h':Sq2 X.K b H a ys):xs=ys:=by
 cases b
 ·exact I.list_inj h h'
 ·exact I.tuple_inj h h'
end
section
variable {X:Cx}
theorem mG:vD X (.type "int") (fun xs H Q=>∃b:Bool,xs=[.bl b]/\Q (.int (if b then 1 else 0)) H):=by
 intro pins s σ H xs us Q I r h;obtain⟨b,rfl,q⟩:=h;obtain⟨u,rfl,r1⟩:=vals1 r;cases r1;exact call_int_bool ⟨.int _,H,I.tok _,⟨_,rfl⟩,q⟩
end
def aDk (K:Δ) (H:Hp) (x:V) (d:ν):Prop:=Dat K H x d\/(∃a kvs,x=.ref a/\H a=some (.dK kvs))/\d=.dict []
def tyD:ν->String
 |.none=>"NoneType"
 |.bool _=>"bool"
 |.int _=>"int"
 |.str _=>"str"
 |.list _=>"list"
 |.tuple _=>"tuple"
 |.dict _=>"dict"
theorem Dat.ty{K:Δ}(h:Dat K H x d):tyN K x H (tyD d):=by
 cases h with
 |lst h _=>exact .inl ⟨rfl,_,h⟩
 |tup h _=>exact .inr ⟨rfl,_,h⟩
 |_=>rfl
theorem aDk.ty{K:Δ}(h:aDk K H x d):tyM K x H (tyD d):=by
 rcases h with h|⟨⟨a,kvs,rfl,h⟩,rfl⟩
 ·exact .inl h.ty
 ·exact .inr ⟨rfl,a,kvs,rfl,h⟩
theorem aDk.same{K:Δ}(h:aDk K H x d)(g:jG H H'):aDk K H' x d:=by
 rcases h with h|⟨⟨a,kvs,rfl,h⟩,rfl⟩
 ·exact .inl (h.same g)
 ·exact .inr ⟨⟨a,kvs,rfl,g _ _ h⟩,rfl⟩
theorem DatAll.length{K:Δ}{H:Hp}: ∀{xs:List V}{ds:List ν},DatAll K H xs ds->xs.length=ds.length
 |_,_,.nil=>rfl
 |_,_,.cons _ t=>congrArg (·+1) (DatAll.length t)
theorem DatAll.get{K:Δ}: ∀{xs:List V}{ds:List ν}{i:Nat}{x:V},DatAll K H xs ds->xs[i]?=some x->∃d,ds[i]?=some d/\Dat K H x d
 |_,_,_,_,.nil,e=>by simp at e
 |_,_,0,_,.cons h _,e=>by simp at e;subst e;exact⟨_,rfl,h⟩
 |_,_,i+1,x,.cons _ t,e=>by
  obtain⟨d,h1,h2⟩:=DatAll.get (i:=i) (x:=x) t (by simpa using e);exact⟨d,by simpa using h1,h2⟩
theorem DatAll.app{K:Δ}: ∀{xs ys:List V}{ds es:List ν},DatAll K H xs ds->DatAll K H ys es->DatAll K H (xs++ys) (ds++es)
 |_,_,_,_,.nil,s=>s
 |_,_,_,_,.cons h t,s=>.cons h (DatAll.app t s)
theorem DatAll.take{K:Δ}: ∀{xs:List V}{ds:List ν}(n:Nat),DatAll K H xs ds->DatAll K H (xs.take n) (ds.take n)
 |_,_,0,_=>.nil
 |_,_,_+1,.nil=>.nil
 |_,_,n+1,.cons h t=>.cons h (DatAll.take n t)
theorem DatAll.drop{K:Δ}: ∀{xs:List V}{ds:List ν}(n:Nat),DatAll K H xs ds->DatAll K H (xs.drop n) (ds.drop n)
 |_,_,0,h=>h
 |_,_,_+1,.nil=>.nil
 |_,_,n+1,.cons _ t=>DatAll.drop n t
end L2
namespace L2
open PySem
theorem qB{H H1:Hp}(e:upd H p o=H1)(hp:H p=none):jG H H1/\H1 p=some o:=by
 subst e;exact⟨fun b u q=>by rw[jS (jM q hp)];exact q,jR⟩
theorem bH{H1:Hp}(e:upd H p o=H1):But p H H1/\H1 p=some o:=by
 subst e;exact⟨But.upd,jR⟩
theorem jG.at{H H1:Hp}(g:jG H H1)(h:H a=some o):H1 a=some o:=g _ _ h
theorem jG.tp{K:Δ}(e:jG H H')(h:SqT K H a xs):SqT K H' a xs:=by
 rcases h with (h|⟨o,h⟩)|h
 ·exact .inl (.inl (e _ _ h))
 ·exact .inl (.inr ⟨o,e _ _ h⟩)
 ·exact .inr h
theorem jG.dt{K:Δ}(g:jG H H')(h:Dat K H x d):Dat K H' x d:=h.same g
theorem jG.dts{K:Δ}(g:jG H H')(h:DatAll K H xs ds):DatAll K H' xs ds:=h.same g
theorem jG.dtt{K:Δ}(g:jG H H')(h:aDk K H x d):aDk K H' x d:=h.same g
theorem join{R:VK}(hk:R v H')(h:∀Q:VK,Q v H'->tIf t ta tb σ H Q):tIf t ta tb σ H R:=h R hk
theorem aOt(P:St->Hp->Prop){D:Ends}{rest:TS}(hk:∀σ' H',P σ' H'->rest D σ' H')(h:∀nx:St->Hp->Prop,(∀σ' H',P σ' H'->nx σ' H')->aIw c t u { D with nx:=nx } σ H):vF (aIw c t u) rest D σ H:=h (rest D) hk
end L2
local macro_rules | `(tactic| walk_at"hp") => `(tactic| first
 |assumption
 |exact L2.jR
 |exact L2.jG.refl _
 | (refine' L2.jG.at ?k1 ?_; (case k1=>assumption);walk_at"hp";done)
 | (refine L2.SqL.of ?_;walk_at"hp";done)
 | (refine L2.SqT.of ?_;walk_at"hp";done)
 | (refine' L2.jG.seq ?k1 ?_; (case k1=>assumption);walk_at"hp";done)
 | (refine' L2.jG.tp ?k1 ?_; (case k1=>assumption);walk_at"hp";done)
 | (refine' L2.jG.dt ?k1 ?_; (case k1=>assumption);walk_at"hp";done)
 | (refine' L2.jG.dts ?k1 ?_; (case k1=>assumption);walk_at"hp";done)
 | (refine' L2.jG.dtt ?k1 ?_; (case k1=>assumption);walk_at"hp";done)
 | (refine' L2.jG.trans ?_ ?k1; (case k1=>assumption);walk_at"hp";done))
local macro_rules | `(tactic| walk_at"al") => `(tactic| (intro pX hX;generalize eX : L2.upd _ pX _ = HX;obtain ⟨gX,kX⟩ := L2.qB eX hX;clear eX))
local macro_rules | `(tactic| o_unpack $r:ident) => `(tactic| (intro $r:ident hX;generalize eX : L2.upd _ $r:ident _ = HX;obtain ⟨gX,kX⟩ := L2.qB eX hX;clear eX))
local macro_rules | `(tactic| walk_at"ch") => `(tactic| (generalize eX : L2.upd _ _ _ = HX;obtain ⟨gX,kX⟩ := L2.bH eX;clear eX))
local macro_rules | `(tactic| walk_at"rd") => `(tactic| repeat first
 | (refine⟨_,rfl,?_⟩)
 | (refine⟨_,_,rfl,rfl,?_⟩)
 | (refine⟨_,_,rfl,rfl,⟨by decide,by decide⟩,?_⟩)
 | (refine' ⟨_,_,rfl,.inl ?k1,?_⟩; (case k1=>walk_at"hp"))
 | (refine' ⟨_,_,_,_,rfl,rfl,?k1,?k2,?_⟩; (case k1=>walk_at"hp"); (case k2=>rfl)))
namespace L2
open PySem PySem.Spec PyProof.Rows
section
variable {X:Cx}
theorem aKl(hu:X.A.units+64<pw):OpR X (kn .NotEq) (fun x y H Q=>∃(a b:Addr) (xs:List V),x=.ref a/\y=.ref b/\SqL X.K H a xs/\SqL X.K H b []/\Q (.bl (!xs.isEmpty)) H):=by
 intro pins s σ H x y v u Q I rx ry h;obtain⟨a,b,xs,rfl,rfl,ha,hb,q⟩:=h;cases rx;cases ry;obtain⟨i1,r1,p1,_⟩:=I.list ha;obtain⟨i2,r2,p2,_⟩:=I.list hb;cases r2;show gp _ _ (richCompare .NotEq (.ref a) (.ref b)) _ _ _;cases xs with
 |nil =>
  cases r1;refine SeqAt.RcNeAt.lists (e:=fun _=>true) p1.isList p2.isList rfl (by omega) (fun j h1 _=>absurd h1 (ui _)) _ _ _ _ ?_;exact⟨.bl false,H,I,rfl,q⟩
 |cons z zs =>
  cases r1 with
  |cons rz rt =>
   refine SeqAt.RcNeAt.lists_lengths p1.isList p2.isList (by simp) (by omega) _ _ _ _ ?_;exact⟨.bl true,H,I,rfl,q⟩
end
section
variable {X:Cx}
theorem wM : ((ir n).all fun _=>true)=true:=by simp
end
end L2
namespace L2
open PySem
structure Sm (d:ν) (n m:Nat):Prop where
 sh:d.showable=true
 ls:d.leavesShort 200=true
 wt:d.weight<=n
 dp:d.depth<=m
 nd:d.hasDict=false
theorem cM{n:Nat}(h:n<2 ^ 100):n.log2<100:=by
 by_cases h0:n=0
 ·subst h0;decide
 ·exact(Nat.log2_lt h0).mpr h
theorem Sm.int{i:Int}(h:i.natAbs<2 ^ 100):Sm (.int i) 101 0:=by
 have hl:=cM h;refine⟨?_,?_,?_,μ _,rfl⟩
 ·simp only[ν.showable,decide_eq_true_eq];omega
 ·simp only[ν.leavesShort,decide_eq_true_eq];have:=int_text_length_le (a:=i) (k:=100) (by decide) hl;show(ζ (toString i)).length<=200;rw[ofString_length];omega
 ·simp only[ν.weight]
  split <;> omega
theorem Sm.none:Sm .none 0 0:=⟨rfl,rfl,μ _,μ _,rfl⟩
theorem Sm.bool(b:Bool):Sm (.bool b) 0 0:=⟨rfl,rfl,μ _,μ _,rfl⟩
theorem Sm.le{n' m':Nat}(h:Sm d n m)(hn:n<=n')(hm:m<=m'):Sm d n' m':=⟨h.sh,h.ls,Ψ h.wt hn,Ψ h.dp hm,h.nd⟩
theorem Sm.len(h:Sm d n m)(hn:n<=10000):d.shown.length<=χ:=by
 have h1:=ν.shown_le 200 (by decide) d h.ls;have h2:=h.wt;rw[ic];omega
end L2
namespace L2
open PySem PySem.Spec PyProof.Rows
theorem tN{x p}{es:List Expr}: ip (.Name x p::es) env=(false,eval (.Name x p) env)::ip es env:=rfl
section
variable {X:Cx}{e:Expr}{es:List Expr}{te:TE}{t:TA}
theorem eK{x1}(h:PAx X es t):PEx X (.Tuple es x1 pos) (tTup t):=⟨kY h.h⟩
theorem zF(h:PAx X es t):PEx X (.List es pos) (tLst t):=⟨qU h.h⟩
theorem xD(h:PEx X e te):tM X (.Return (some e) pos) (tRet te):=⟨jJ h.h⟩
theorem iC{i:Nat}(hN:X.N.Nodup)(hi:X.N[i]?=some x)(hx:X.env.scope.names.lookup x=some .local)(he:PEx X (.List es p1) te):
  tM X (.Assign [.Name x pos'] (.List es p1) pos) (aGr te (yZ i)):=⟨aCx hN hi (.inl hx) he.h rfl (.inr hx)⟩
end
section
variable {X:Cx}{es:List Expr}{t:TA}{pos:Pos}
def tLstS (t:TA):TE:=fun σ H Q=>t σ H fun xs H1=>xs.length<=χ/\∀p,p≠ja->H1 p=none->Q (.ref p) (upd H1 p (.lst xs))
theorem aEh(h:PA X es t):PE X (.List es pos) (tLstS t):=by
 intro pins s σ H Q I hq;refine wpAny_List_spliced (thn (h pos pins s σ H _ I hq) fun us s1 ⟨xs,H1,I1,r,z,q⟩=>⟨by rw[←r.length];exact z,?_⟩);have hf:H1 s1.heap.objs.size=none:=I1.hok.fresh (μ _);exact⟨.ref s1.heap.objs.size,upd H1 s1.heap.objs.size (.lst xs),I1.laid (t':=s1.toks) (fun b u e=>ω _ e) (μ _) ⟨z,us,0,r,gm _ rfl⟩,rfl,q _ (vi I1.big) hf⟩
def rSlS (K:Δ):V->Option Int->Option Int->Hp->VK->Prop:=fun x lo hi H Q=>∃a xs,x=.ref a/\SqL K H a xs/\∀p,p≠ja->H p=none->Q (.ref p) (upd H p (.lst (zW xs lo hi)))
theorem gU:SlR X (rSlS X.K):=by
 intro pins s σ H x v vl vu lo hi sl Q I rx hs pl pu h;obtain⟨a,xs,rfl,hx,q⟩:=h;cases rx;obtain⟨its,r,ht,hz⟩:=I.list hx;have hl:=r.length;refine⟨"list",_,xh.lookup,ht.isList.typeIs,wg ht.isList hs pl pu .none (by simp) ?_ (by rw[Ξ] <;> omega)⟩;rw[fA,←hl];exact⟨.ref s.heap.objs.size,_,I.laid (t':=s.toks) (o:=.lst (zW xs lo hi)) (fun b ob q=>ω _ q) (μ _) ⟨Ψ (dF xs lo hi) hz,_,0,(r.drop (HT.sIx xs.length 0 lo)).take (HT.sIx xs.length xs.length hi-HT.sIx xs.length 0 lo),gm _ rfl⟩,rfl,q _ (vi I.big) (I.hok.fresh (μ _))⟩
end
structure aB (P:io) (w:jl) (K:Δ) (mg:Str->Option Value) (base:kq) (CX:CXT) (k:Nat) (m:Str) (C:Addr) (sp:Sp):Prop where
 cl:Cls K C
 ex:∃f fd ps,Meth K C m f/\kJ P w K mg base CX k f fd ps sp/\Binds K fd ps []
section
variable {X:Cx}{CX:CXT}{k:Nat}{E:XK}{m:Str}{pos apos:Pos}{e o:Expr}{es:List Expr}{ta:TE}{t:TA}{T:Addr->Sp->Prop}
def aKj (T:Addr->Sp->Prop) (m:Str) (E:XK) (ta:TE) (t:TA):TE:=fun σ H Q=>ta σ H fun x H1=>∃a C dx fs sp,x=.ref a/\H1 a=some (.ins C dx fs)/\fs.lookup m=none/\T C sp/\t σ H1 fun vs H2=>sp (x::vs) H2 Q E
theorem aBl(he:PE X o ta)(hT:∀C sp,T C sp->aB X.prog X.w X.K X.mg X.base CX k m C sp)(hr:xG k X.A)(hx:zR CX X E)(ha:PA X (e::es) t)
  (hst:ip (e::es) X.env=(false,eval e X.env)::ip es X.env:=by rfl)(hpl:(vy pos (ip es X.env)).any (·.1)=false:=by rfl)
  (ht:eval (.Call (.Attribute o m apos) (e::es) [] pos) X.env=(do
   let ov ←eval o X.env
   standAt apos.atName
   let (f,first) ←holding [ov] (getMethod ov m pl)
   callWith pos f first (vy pos (ip (e::es) X.env)) (backToKw pos (keywordEach [] X.env))):=by rfl):
  PE X (.Call (.Attribute o m apos) (e::es) [] pos) (aKj T m E ta t):=by
 intro pins s σ H Q I h;refine xr (pl:=pl) (thn (he pins s σ H _ I h) fun u s1 zq=>?_) ht;obtain⟨x,H1,I1,rx,a,C,dx,fs,sp,ex,ea,l,hC,q⟩:=zq;subst ex;obtain rfl:u=jm a:=rx;obtain⟨c,f,fd,ps,hm,F,hb⟩:=hT C sp hC;refine gL I1 ea c hm l ?_;refine PySem.W.callWith_K (first:=[.ref a]) (h₀:=X.base) I.ok.mod.kin hm.kp (thn (ha pos pins s1 σ H1 _ I1 q) fun us s2 zq=>zq.el fun vs H2 I2 r q2=>⟨I2.kIn,?_⟩) hst hpl;exact tF (us:=.ref a::us) (vs:=.ref a::vs) (dvs:=[]) F hr hb .nil hx I2 (.cons rfl r) (by rw[mi];exact q2)
theorem yF(he:PE X o ta)(hT:∀C sp,T C sp->aB X.prog X.w X.K X.mg X.base CX k m C sp)(hr:xG k X.A)(hx:zR CX X E)
  (ht:eval (.Call (.Attribute o m apos) [] [] pos) X.env=(do
   let ov ←eval o X.env
   standAt apos.atName
   let (f,first) ←holding [ov] (getMethod ov m pl)
   callWith pos f first (vy pos (ip [] X.env)) (backToKw pos (keywordEach [] X.env))):=by rfl):
  PE X (.Call (.Attribute o m apos) [] [] pos) (aKj T m E ta aIe):=by
 intro pins s σ H Q I h;refine xr (pl:=pl) (thn (he pins s σ H _ I h) fun u s1 zq=>?_) ht;obtain⟨x,H1,I1,rx,a,C,dx,fs,sp,ex,ea,l,hC,q⟩:=zq;subst ex;obtain rfl:u=jm a:=rx;obtain⟨c,f,fd,ps,hm,F,hb⟩:=hT C sp hC;refine gL I1 ea c hm l ?_;exact PySem.W.callWith_K0 (first:=[.ref a]) I1.kIn hm.kp (tF (us:=[.ref a]) (vs:=[.ref a]) (dvs:=[]) F hr hb .nil hx I1 (.cons rfl .nil) q)
end
def aBs:V->Option Str
 |.str x=>some x
 |.int i=>if i.natAbs<2 ^ 100 then some (toString i) else none
 |_=>none
def TJ:=St->Hp->Str->(Str->Hp->Prop)->Prop
def PJ (X:Cx) (es:List Expr) (t:TJ):Prop:=∀(pins:List (Addr×Obj)) (s:ς) (σ:St) (H:Hp) (acc:Str) (Q:Str->Hp->Prop),Inv X pins σ H s->t σ H acc Q →
 gp (ik X.prog X.w) X.A (joinParts acc (evalEach es X.env)) (EP X pins σ fun v H'=>∃z,v=.str z/\Q z H') X.xe s
section
variable {X:Cx}{e e1 e2:Expr}{es:List Expr}{te:TE}{t:TJ}{pos p:Pos}{x:Str}
def jNil:TJ:=fun _ H acc Q=>acc.length<=χ/\Q acc H
theorem aRp:PJ X [] jNil:=fun _ s _ H acc Q I h=>joinParts_nil ⟨.str acc,H,I.tok _,⟨_,rfl⟩,acc,rfl,h.2⟩ h.1
def jStr (x:Str) (t:TJ):TJ:=fun σ H acc Q=>(acc++x).length<=χ/\t σ H (acc++x) Q
theorem aQf{j}(ht:PJ X es t):PJ X (.Constant (.str x) j p::es) (jStr x t):=by
 intro pins s σ H acc Q I h;refine joinParts_cons (Calls.Constant_str ⟨h.1,ht pins _ σ H _ Q (I.tok _) h.2⟩)
theorem aLn{s:ς}{R:Value->ς->Prop}(I:Inv X pins σ H s)(r:RelV v u)(hy:aBs v=some y)(hl:y.length<=χ)
  (h:∀t' tk,Inv X pins σ H { s with toks:=tk }->R (.str y t') { s with toks:=tk }):gp (ik X.prog X.w) X.A (formatField u Str.empty) R E s:=by
 cases v with
 |str x =>
  obtain⟨t,rfl⟩:=r;cases hy;exact formatField_str (fun t' tk=>h t' tk (I.kept fun _ _ q=>q)) hl
 |int i =>
  obtain⟨t,rfl⟩:=r;have hy':(if i.natAbs<2 ^ 100 then some (ζ (toString i)) else none)=some y:=hy
  by_cases hi:i.natAbs<2 ^ 100
  ·rw[if_pos hi]at hy';cases hy';refine formatField_int_small ?_ (h _ _ (I.kept fun _ _ q=>q));have:=cM hi;omega
  ·rw[if_neg hi]at hy';cases hy'
 |_=>cases hy
def jVal (te:TE) (t:TJ):TJ:=fun σ H acc Q=>te σ H fun v H1=>∃y,aBs v=some y/\y.length<=χ/\(acc++y).length<=χ/\t σ H1 (acc++y) Q
theorem aJt(he:PE X e te)(ht:PJ X es t):PJ X (.FormattedValue e (-1) none p::es) (jVal te t):=by
 intro pins s σ H acc Q I h;refine joinParts_cons (FormattedValue_plain (thn (he pins s σ H _ I h) fun u s1 zq=>?_));obtain⟨v,H1,I1,r,y,hy,hl,ha,q⟩:=zq;exact aLn I1 r hy hl fun t' tk I2=>⟨ha,ht pins _ σ H1 _ Q I2 q⟩
def tJoin (t:TJ):TE:=fun σ H Q=>t σ H Str.empty fun z H1=>Q (.str z) H1
theorem aMf(h:PJ X (e1::e2::es) t):PE X (.JoinedStr (e1::e2::es) pos) (tJoin t):=by
 intro pins s σ H Q I hq;exact JoinedStr_many (thn (h pins s σ H Str.empty _ I hq) fun u s1 ⟨v,H1,I1,r,z,ez,q⟩=>⟨v,H1,I1,r,by rw[ez];exact q⟩)
def aPk (te:TE):TE:=fun σ H Q=>te σ H fun v H1=>∃y,aBs v=some y/\y.length<=χ/\Q (.str y) H1
theorem aIl(he:PE X e te):PE X (.JoinedStr [.FormattedValue e (-1) none p] pos) (aPk te):=by
 intro pins s σ H Q I h;refine JoinedStr_one (FormattedValue_plain (thn (he pins s σ H _ I h) fun u s1 zq=>?_));obtain⟨v,H1,I1,r,y,hy,hl,q⟩:=zq;exact aLn I1 r hy hl fun t' tk I2=>⟨.str y,H1,I2,⟨_,rfl⟩,q⟩
end
end L2
namespace L2
open PySem
def jn (c:Nat):List (List Nat)->List Nat
 |[]=>[]
 |[p]=>p
 |p::q::r=>p++c::jn c (q::r)
theorem aFe{c:Nat}: ∀{p1 p2 t1 t2:List Nat},c∉p1->c∉p2->p1++c::t1=p2++c::t2->p1=p2/\t1=t2
 |[],[],t1,t2,_,_,h=>⟨rfl,(tf h).2⟩
 |[],b::p2,t1,t2,_,h2,h=>absurd (υ.mpr (.inl (tf h).1)) h2
 |a::p1,[],t1,t2,h1,_,h=>absurd (υ.mpr (.inl (tf h).1.symm)) h1
 |a::p1,b::p2,t1,t2,h1,h2,h=>by
  obtain⟨e1,e2⟩:=tf h;obtain⟨e3,e4⟩:=aFe (fun z=>h1 (ρ _ z)) (fun z=>h2 (ρ _ z)) e2;exact⟨by rw[e1,e3],e4⟩
theorem aIu{c:Nat}: ∀{ps qs:List (List Nat)},ps≠[]->qs≠[]->(∀p∈ps,c∉p)->(∀q∈qs,c∉q)->jn c ps=jn c qs->ps=qs
 |[],_,h,_,_,_,_=>absurd rfl h
 |_,[],_,h,_,_,_=>absurd rfl h
 |[p],[q],_,_,_,_,h=>by rw[show p=q from h]
 |[p],q::q2::qs,_,_,hp,_,h=>by
  have e:p=q++c::jn c (q2::qs):=h;exact absurd (by rw[e];simp) (hp p (ψ ..))
 |p::p2::ps,[q],_,_,_,hq,h=>by
  have e:p++c::jn c (p2::ps)=q:=h;exact absurd (by rw[←e];simp) (hq q (ψ ..))
 |p::p2::ps,q::q2::qs,_,_,hp,hq,h=>by
  obtain⟨e1,e2⟩:=aFe (hp p (ψ ..)) (hq q (ψ ..)) h;have ih:=aIu (by simp) (by simp) (fun z hz=>hp z (ρ _ hz)) (fun z hz=>hq z (ρ _ hz)) e2;rw[e1,ih]
theorem nE(c:Nat):∀ys:List Str,(je ⟨#[c]⟩ ys).cps.toList=jn c (ys.map fun y=>y.cps.toList)
 |[]=>rfl
 |[y]=>rfl
 |y::z::ys=>by
  show(y++⟨#[c]⟩++je ⟨#[c]⟩ (z::ys)).cps.toList=_;rw[og,og,nc,nc,nE c (z::ys),kj];rfl
theorem aLd(x y:Str):pz x y≠[]:=fun h=>by
 unfold pz at h
 split at h
 ·cases h
 ·split at h
  ·cases h
  ·rw[StrLaws.partsBetween_eq]at h;obtain⟨p,r,e⟩:=StrLaws.partsFrom_ne x y.length 0 (om x y 0 x.length (x.length+1));rw[e]at h;cases h
theorem nQ{c:Nat}{ys:List Str}(hne:ys≠[])(hf:∀y∈ys,c∉y.cps.toList):pz (je ⟨#[c]⟩ ys) ⟨#[c]⟩=ys:=by
 have h1:=StrLaws.join_split (je ⟨#[c]⟩ ys) ⟨#[c]⟩;have h2:=congrArg (fun z:Str=>z.cps.toList) h1;simp only[nE]at h2;have h3:=aIu (by simpa using aLd _ _) (by simpa using hne) (fun p hp=>by
  obtain⟨y,hy,rfl⟩:=ib.mp hp;exact StrLaws.split_free _ c y hy) (fun p hp=>by
  obtain⟨y,hy,rfl⟩:=ib.mp hp;exact hf y hy) h2
 have hi:∀{as bs:List Str},(as.map fun y=>y.cps.toList)=(bs.map fun y=>y.cps.toList)->as=bs:=by
  intro as
  induction as with
  |nil=>intro bs h;cases bs with
   |nil=>rfl
   |cons b bs=>cases h
  |cons a as ih=>intro bs h;cases bs with
   |nil=>cases h
   |cons b bs =>
    obtain⟨e1,e2⟩:=tf h;rw[ih e2,Str.ext' (Array.toList_inj.mp e1)]
 exact hi h3
end L2
namespace L2
open PySem PySem.Spec PyProof.Rows
section
variable {X:Cx}
theorem sB:MtR X "str.split" (fun x vs H Q=>∃z y:Str,x=.str z/\vs=[.str y]/\(y.length == 0)=false/\z.length+2<=χ/\∀p,H p=none->Q (.ref p) (upd H p (.lst ((pz z y).map V.str)))):=by
 intro pins s σ H x vs v us Q I rx rv h;obtain⟨z,y,rfl,rfl,h2,h4,q⟩:=h;have hn:(oy.Str.partsBetween z (om z y 0 z.length (z.length+1)) y.length).length<=χ:=by
  have e1:=StrLaws.occ_length_le z y 0 z.length (z.length+1);rw[length_partsBetween];omega
 obtain⟨t,rfl⟩:=rx;obtain⟨u,rfl,ru⟩:=vals1 rv;obtain⟨t',rfl⟩:=ru;have fin:∀(tk:Nat) (ws:List Value),kO ((pz z y).map V.str) ws->(pz z y).length<=χ →
   EP X pins σ Q (.ref s.heap.objs.size) { s with toks:=tk,heap:=s.heap.push { cls:=.type "list",data:=.seq ws.toArray } }:=fun tk ws rw' hl=>by
  refine⟨.ref s.heap.objs.size,_,I.laid (o:=.lst ((pz z y).map V.str)) (fun b o e=>ω _ e) (μ _) ?_,rfl,q _ (I.hok.fresh (μ _))⟩;exact⟨by rw[δ];exact hl,_,0,rw',gm _ rfl⟩
 cases h1:(decide (z.length<y.length)||decide (oy.Str.strKind z<oy.Str.strKind y))
 ·cases hf:(om z y 0 z.length (z.length+1)).isEmpty
  ·refine call_meets F.slot_str_split (typeIs_str _ _ _) F.entry_str_split (F.args_str_split_2 _ _) (meets_str_split_sep z y t t' h1 h2 hf (by omega) hn) ?_;have e:pz z y=oy.Str.partsBetween z (om z y 0 z.length (z.length+1)) y.length:=(if_neg (ne_true_of_eq_false h1)).trans (if_neg (ne_true_of_eq_false hf));exact fin _ _ (by rw[e];exact sR _ _) (by rw[e];exact hn)
  ·have e:pz z y=[z]:=(if_neg (ne_true_of_eq_false h1)).trans (if_pos hf);exact call_meets F.slot_str_split (typeIs_str _ _ _) F.entry_str_split (F.args_str_split_2 _ _) (meets_str_split_not_found z y t t' h1 h2 hf) (fin s.toks [.str z t] (by rw[e];exact .cons ⟨_,rfl⟩ .nil) (by rw[e];show 1<=χ;decide))
 ·have e:pz z y=[z]:=if_pos h1;exact call_meets F.slot_str_split (typeIs_str _ _ _) F.entry_str_split (F.args_str_split_2 _ _) (meets_str_split_cannot_occur z y t t' h1) (fin s.toks [.str z t] (by rw[e];exact .cons ⟨_,rfl⟩ .nil) (by rw[e];show 1<=χ;decide))
theorem nS:MtR X "str.join" (fun x vs H Q=>∃(sep:Str) (a:Addr) (ys:List Str),x=.str sep/\vs=[.ref a]/\SqL X.K H a (ys.map V.str)/\(ys.map (·.length)).sum+ys.length*sep.length<=16777216/\Q (.str (je sep ys)) H):=by
 intro pins s σ H x vs v us Q I rx rv h;obtain⟨sep,a,ys,rfl,rfl,ha,hz,q⟩:=h;obtain⟨t,rfl⟩:=rx;obtain⟨u,rfl,ru⟩:=vals1 rv;cases ru;obtain⟨its,r,pl,_⟩:=I.list ha;refine PyProof.Rows.join_list pl.isList (aDo (by simpa using r)) hz fun t' k=>⟨.str _,H,I.tok _,⟨_,rfl⟩,?_⟩;rw[show Txt.join sep ys=je sep ys from StrLaws.glued_eq_join sep ys];exact q
end
section
variable {X:Cx}
theorem lY(f:Nat->Int):∀k,argBest (fun i j=>decide (f i > f j)) k<=k/\∀j,j<=k->f j<=f (argBest (fun i j=>decide (f i > f j)) k)
 |0=>⟨μ _,fun j hj=>by rw[show j=0 by omega];exact Int.le_refl _⟩
 |k+1=>by
  obtain⟨h1,h2⟩:=lY f k;unfold argBest
  by_cases h:f (k+1) > f (argBest (fun i j=>decide (f i > f j)) k)
  ·rw[if_pos (decide_eq_true h)];refine⟨μ _,fun j hj=>?_⟩
   by_cases e:j=k+1
   ·rw[e];exact Int.le_refl _
   ·have:=h2 j (by omega);omega
  ·rw[if_neg (by rw[decide_eq_false h];exact ο)];refine⟨by omega,fun j hj=>?_⟩
   by_cases e:j=k+1
   ·rw[e];omega
   ·exact h2 j (by omega)
theorem zI(hc:X.calm=true):vD X (.builtin "max") (fun xs H Q=>∃(a:Addr) (ns:List Int),xs=[.ref a]/\SqL X.K H a (ns.map V.int)/\ns≠[]/\∀m:Int,m∈ns->(∀n∈ns,n<=m)->Q (.int m) H):=by
 intro pins s σ H xs us Q I r h;obtain⟨a,ns,rfl,ha,hne,q⟩:=h;obtain⟨u,rfl,rx⟩:=vals1 r;cases rx;obtain⟨its,rv,pl,_⟩:=I.list ha;have hi:=intsAre_of rv;obtain⟨ys,hy⟩:=hi.allInts.items;have e1:ns=ys.toList.map (·.1):=by
  rw[←nums_intItems,←hy];exact(show numsOf its.toArray.toList=ns from hi.numsOf).symm
 have hsz:ys.size=ns.length:=by rw[e1,δ,jb]
 have hpos : 0<ns.length:=qu.mpr hne;have hat:∀j,ns[j]?=ys[j]?.map (fun x:Int×Tok=>x.1):=fun j=>by rw[e1,gu,px]
 have hnum:∀j,j<ns.length->ns[j]?=some (numAt ys j):=fun j hj=>by
  have hj2:j<ys.size:=by omega
  rw[hat,iy hj2];unfold numAt;rw[iy hj2];rfl
 refine max_intList (I.ok.hd hc) (hy ▸ pl.isList) (by omega) fun v h' tk hv hk=>?_;obtain⟨t,rfl⟩:=intItems_at hv;obtain⟨b1,b2⟩:=lY (numAt ys) (ys.size-1);refine⟨.int _,H,I.kept hk,⟨_,rfl⟩,q _ (ι (hnum _ (by omega))) fun n hn=>?_⟩;obtain⟨j,hj⟩:=jz.mp hn;have hjl:j<ns.length:=(θ.mp hj).1;rw[hnum j hjl]at hj;cases hj;exact b2 j (by omega)
theorem aFb:OpR X (qt .Mult) (fun x y H Q=>∃(z:Str) (n:Int),x=.str z/\y=.int n/\(n=0\/n=1)/\z.length<=χ/\Q (.str (if n=1 then z else Str.empty)) H):=by
 intro pins s σ H x y v u Q I rx ry h;obtain⟨z,n,rfl,rfl,hn,hl,q⟩:=h;obtain⟨t,rfl⟩:=rx;obtain⟨t',rfl⟩:=ry;rcases hn with rfl|rfl
 ·refine P.mul_str_none (by decide) (by decide) ⟨.str _,H,I.tok _,⟨_,rfl⟩,q⟩
 ·refine P.mul_str (by decide) (fun _ h=>by simp at h) (fun _ h=>by simp at h) ?_;exact⟨.str _,H,I,⟨_,rfl⟩,q⟩
theorem aKx(hu:X.A.units+64<pw):OpR X (kn .Eq) (fun x y H Q=>∃(a b:Addr) (xs:List V),x=.ref a/\y=.ref b/\SqL X.K H a xs/\SqL X.K H b []/\Q (.bl xs.isEmpty) H):=by
 intro pins s σ H x y v u Q I rx ry h;obtain⟨a,b,xs,rfl,rfl,ha,hb,q⟩:=h;cases rx;cases ry;obtain⟨i1,r1,p1,_⟩:=I.list ha;obtain⟨i2,r2,p2,_⟩:=I.list hb;cases r2;cases xs with
 |nil =>
  cases r1;refine SeqAt.eq_listAt (e:=fun _=>true) p1.isList p2.isList rfl (by omega) (fun j h1 _=>absurd h1 (ui _)) ?_;exact⟨.bl true,H,I,rfl,q⟩
 |cons z zs =>
  cases r1 with
  |cons rz rt =>
   refine SeqAt.eq_list_lengthsAt p1.isList p2.isList (by simp) (by omega) ?_;exact⟨.bl false,H,I,rfl,q⟩
end
def aDc (J:It) (k:Nat) (js:List Nat) (g:TG) (tc:TT) (tk tv:TE) (σ:St) (Q:VK) (H1:Hp):Prop:=∀D,H1 D=none →
 ∃W:Nat->Nat->St->List (Key×V)->Hp->Prop,(∃m,W 0 m (eU k js σ) [] (upd H1 D (.dK [])))/\∀i m σ' kvs H',W i m σ' kvs H' →
  (J.stop i H'/\Q (.ref D) H') ∨
  (J.go i H'/\∃N:St->List (Key×V)->Hp->Prop,(∀σ' ys H',N σ' ys H'->∃m',m'<m/\W (i+1) m' σ' ys H') ∧
   ∀x H2,J.yld i H' x H2->g x σ' H2 fun σ3 H3=>tc σ3 H3 fun b H4=>if b=true then tk σ3 H4 fun y H5=>tv σ3 H5 fun v H6=>∃key,y=kV key/\H6 D=some (.dK kvs)/\kvs.length<χ/\N σ3 (putK kvs key v) (upd H6 D (.dK (putK kvs key v))) else N σ3 kvs H4)
def aRl (wi:TI) (k:Nat) (js:List Nat) (g:TG) (tc:TT) (tk tv:TE):TE:=fun σ H Q=>wi σ H fun J H1=>aDc J k js g tc tk tv σ Q H1
section
variable {prog:io}{w:jl}{A:km}{R:Result->ς->Prop}{s:ς}
theorem rE{iter:Expr}(I:Nat->ς->Prop)
  (turn:∀n s,I n s->gp (ik prog w) A (pyNext it) (fun r s₁=>match r with
   |none=>R (.ok .next) s₁
   |some v=>gp (ik prog w) A (wl target it v) (fun _ s₀=>gp (ik prog w) A (assign target env v) (fun _ s₂ =>
     gp (ik prog w) A (forIn ifs true fun c r=>if r=true then do let ok ←isTrue c env (eval c env);pure (uh ok) else pure (uh r)) (fun ok s₃ =>
      if ok=true then gp (ik prog w) A (eval kx env) (fun kv s₄=>gp (ik prog w) A (eval vx env) (fun vv s₅ =>
       gp (ik prog w) A (dictSet D kv vv) (fun _ s₆=>∃m,m<n/\I m s₆) (fun _ _=>False) s₅) (fun _ _=>False) s₄) (fun _ _=>False) s₃
      else ∃m,m<n/\I m s₃) (fun _ _=>False) s₂) (fun _ _=>False) s₀) (fun _ _=>False) s₁) (fun _ _=>False) s)
  (n:Nat)(h:I n s):codeAny (ik prog w) A (.compLoop (.DictComp kx vx [⟨target,iter,ifs,0⟩] scope pos) 0 it (.ref D) env) R s:=by
 refine codeAny_loop rfl I (fun n s hI=>?_) n h;show gp _ A ((compTurn (.DictComp kx vx [⟨target,iter,ifs,0⟩] scope pos) 0 it (.ref D) env).onRaise (fun x=>do noteFrame x env;theTreesLotGoes x)) _ _ s;refine wpAny_noted ?_;rw[compTurn_dict];refine ε (wpAny_standAt (ε (md (turn n s hI) (fun r s₁ h₁=>?_) fun _ _ z=>kc z)));cases r with
 |none=>exact π h₁
 |some v =>
  refine ε (md h₁ (fun _ s₀ h₀=>?_) fun _ _ z=>kc z);refine ε (md h₀ (fun _ s₂ h₂=>ε (md h₂ (fun ok s₃ h₃=>?_) fun _ _ z=>kc z)) fun _ _ z=>kc z);cases ok with
  |false=>exact π ⟨rfl,h₃⟩
  |true =>
   exact ε (ε (md h₃ (fun kv s₄ h₄=>ε (lh (md h₄ (fun vv s₅ h₅=>ε (wpAny_standAt (lh (md h₅ (fun _ s₆ h₆=>π ⟨rfl,h₆⟩) fun _ _ z=>kc z)))) fun _ _ z=>kc z))) fun _ _ z=>kc z))
end
section
variable {X:Cx}{elt tg iter:Expr}{ifs:List Expr}{scope:Scope}{cl:List (Str×Addr)}{ts ys:List Str}{js:List Nat}{pos:Pos}{wi:TI}{g:TG}{tc:TT}{te:TE}
theorem aGp{s4:ς}{fp:List Addr}(I2:Inv X pins σ H2 s2)(f2:∀b∈fp,eO X pins H2 b)
  (I4:Inv (X.comp scope cl N s2 H2 fp C) pins' σ' H3 s4)(hC:s2.heap.objs.size<=C)(hs':qc C s4.heap h'):Inv X pins σ H3 { s4 with heap:=h' }:=by
 have ext:=hs'.extBut;have neC:∀b o,s2.heap.get? b=some o->b≠C:=fun b o e=>ii (Γ (gx e) hC);have hok:HOk X.prog X.w H3 h':=HOk.but (C:=C) I4.hok I4.free fun b o hb e=>ext b o hb e;have B:Un (frs X.stack) fp H2 H3 s2.heap s4.heap:=I4.base;have u:Un (frs X.stack) fp H2 H3 s2.heap h':=by
  refine⟨fun b o e q hb hx=>ext b o (neC b o e) (B.keep b o e q hb hx),fun b o e q hb hx=>?_,B.free,fun b o e hx=>?_,B.tups,B.frzs,B.tbls⟩
  ·obtain⟨sl,e1⟩:=B.slot b o e q hb hx;exact⟨sl,ext b _ (neC b o e) e1⟩
  ·obtain⟨o',e1⟩:=B.there b o e hx;exact⟨o',ext b _ (neC b o e) e1⟩
 have os:s4.os=s2.os:=I4.os;have gb:=I4.bare;obtain⟨hh,gg,dd,tt,os'⟩:=s4;obtain rfl:os'=s2.os:=os;have fin:=I2.call (h':=h') (g':=gg) (d':=dd) (t':=tt) (ch:=fp) u hok gb fun b hb=>⟨(f2 b hb).2.2.2.1,(f2 b hb).2.1,(f2 b hb).2.2.2.2.1,(f2 b hb).2.2.2.2.2⟩;exact fin
theorem wS(ts ys:List Str)(js:List Nat)(hc:X.calm=true)(hi:PI X tg iter wi)(hclos:closureFor scope X.env=pure cl)(hsub:hZ X.env cl)(hcap:pS X scope cl ys js)
  (hg:∀s H fp C,PG (X.comp scope cl (ts++ys) s H fp C) tg g)(ht:∀s H fp C,PIf (X.comp scope cl (ts++ys) s H fp C) ifs tc)(hek:∀s H fp C,PE (X.comp scope cl (ts++ys) s H fp C) kx tk)(hev:∀s H fp C,PE (X.comp scope cl (ts++ys) s H fp C) vx tv)
  (hkind:scope.kind=.function:=by rfl)(hcell:(scope.names.all fun y=>y.2 != .cell)=true:=by rfl)
  (hnames:(scope.names.all fun y=>y.2 != .local||scope.names.lookup y.1 == some .local)=true:=by rfl)
  (hhas:((relabel scope X.env).names.all fun p=>(p.2 != .cell&&p.2 != .free)||(cl.lookup p.1).isSome)=true:=by rfl)
  (hs:∀x,xf iter X.env x=pure x:=by intro _;rfl):PE X (.DictComp kx vx [⟨tg,iter,ifs,0⟩] scope pos) (aRl wi ts.length js g tc tk tv):=by
 intro pins s σ H Q I h;have hcell':∀y∈scope.names,y.2≠.cell:=fun y hy z=>by
  have:=ia.mp hcell y hy;rw[z]at this;exact absurd this (by decide)
 have hnames':∀y∈scope.names,y.2=.local->scope.names.lookup y.1=some .local:=fun y hy z=>by
  have:=ia.mp hnames y hy;rw[z]at this;simpa using this
 have hhas':∀x,((relabel scope X.env).names.lookup x=some .cell\/(relabel scope X.env).names.lookup x=some .free)->∃c,cl.lookup x=some c:=fun x hx=>by
  rcases hx with hx|hx
  ·have:=ia.mp hhas _ (lu hx);exact nv.mp (by simpa using this)
  ·have:=ia.mp hhas _ (lu hx);exact nv.mp (by simpa using this)
 rw[arm_eval_DictComp];refine wpAny_comprehension_free (use:=none) rfl hs hclos hkind hnames' (thn (hi pins s σ H _ I h) fun v s1 h1=>thn h1 fun itv s2 h2=>?_);obtain⟨it,fp,tn,J,H2,e,I2,T,st2,f2,hD⟩:=h2;subst e;have fl:∀b∈fp,b<s2.heap.objs.size:=fun b hb=>by
  obtain⟨o,e,_⟩:=T.obj _ _ st2 b hb;exact gx e
 refine qo (wpAny_newFunctionEnv hcell' (by intro y hy;simp at hy) (fun h₁ hns₁ hsb₁=>?_) hkind);dsimp only at hns₁ hsb₁ ⊢;have hn2:H2 s2.heap.objs.size=none:=I2.hok.fresh (μ _);obtain⟨W,⟨m0,w0⟩,turn⟩:=hD _ hn2;have I2d:Inv X pins σ (upd H2 s2.heap.objs.size (.dK [])) { s2 with heap:=s2.heap.push { cls:=.type "dict",data:=.dict #[] } } :=
  I2.laid (a:=s2.heap.objs.size) (o:=.dK []) (h':=s2.heap.push { cls:=.type "dict",data:=.dict #[] }) (t':=s2.toks) (fun _ _ q=>ω _ q) (μ _) (oM s2.heap I2.big)
 generalize hHH:s2.heap.push { cls:=.type "dict",dict:=none,data:=.dict #[] }=HH at hns₁ hsb₁ I2d ⊢;have hC:HH.objs.size=s2.heap.objs.size+1:=by rw[←hHH,rp]
 have hlt:s2.heap.objs.size<HH.objs.size:=by rw[hC];exact tu _
 have f2d:∀b∈fp,eO X pins (upd H2 s2.heap.objs.size (.dK [])) b:=fun b hb=>⟨by rw[jS (ii (fl b hb))];exact(f2 b hb).1,(f2 b hb).2⟩;have fld:∀b∈fp,b<HH.objs.size:=fun b hb=>Nat.lt_trans (fl b hb) hlt;have old:∀b o,HH.get? b=some o->h₁.get? b=some o:=fun b o e=>hsb₁.extBut b o (ii (gx e)) (ω _ e);have I':Inv (X.comp scope cl (ts++ys) { s2 with heap:=HH } (upd H2 s2.heap.objs.size (.dK [])) fp HH.objs.size) [] (eU ts.length js σ) (upd H2 s2.heap.objs.size (.dK [])) { s2 with heap:=h₁,toks:=s2.toks+([]:List (Str×Value)).length } :=
  aCe (s:={ s2 with heap:=HH }) I2d hsub hcap hkind hhas' f2d fld (μ _) hns₁ old
 have stat:∀{H':Hp},(∀b∈fp,H' b=none)->∀b∈fp,eO (X.comp scope cl (ts++ys) { s2 with heap:=HH } (upd H2 s2.heap.objs.size (.dK [])) fp HH.objs.size) [] H' b:=fun {H'} hn b hb =>
  ⟨hn b hb,ii (fld b hb),I'.ok.exfs b hb,.inl hb,(I'.ok.exf b hb).2,fun p hq=>absurd (show p∈([]:List (Addr×Obj)) from by simpa using hq) (by simp)⟩
 have tn1:tn 0 h₁:=T.keep _ _ _ st2 fun b _ o e=>old b o (hHH ▸ ω _ e);have loop:∀s₃ : ς,s₃ = { s2 with heap:=h₁,toks:=s2.toks+([]:List (Str×Value)).length } →
   codeAny (ik X.prog X.w) X.A (.compLoop (.DictComp kx vx [⟨tg,iter,ifs,0⟩] scope pos) 0 (.ref it) (.ref s2.heap.objs.size) (compEnvC scope cl HH.objs.size X.env))
    (compPost (ik X.prog X.w) X.A X.xe none (EP X pins σ Q) (.ref s2.heap.objs.size) HH.objs.size) s₃:=by
  rintro s₃ rfl;refine rE (fun n s'=>∃i σ' kvs H',Inv (X.comp scope cl (ts++ys) { s2 with heap:=HH } (upd H2 s2.heap.objs.size (.dK [])) fp HH.objs.size) [] σ' H' s'/\tn i s'.heap/\(∀b∈fp,H' b=none)/\W i n σ' kvs H') ?_ m0 ⟨0,_,[],_,I',tn1,fun b hb=>(f2d b hb).1,w0⟩;rintro n s3 ⟨i,σ3,kvs,H3,I3,st3,fr3,w3⟩;rcases turn i n σ3 kvs H3 w3 with⟨stop,qn⟩|⟨go,N,hN,step⟩
  ·refine thn (T.done (X.comp scope cl (ts++ys) { s2 with heap:=HH } (upd H2 s2.heap.objs.size (.dK [])) fp HH.objs.size) rfl rfl rfl hc i _ s3 σ3 H3 (fun _ _=>False) I3 (stat fr3) st3 stop) fun r s4 zq=>?_;obtain⟨hr,I4⟩:=zq;subst hr;obtain⟨m,hn,_⟩:=I4.loc;exact⟨m,hn,fun h' hs'=>⟨.ref s2.heap.objs.size,_,aGp (s2:={ s2 with heap:=HH }) I2d f2d I4 (μ _) hs',rfl,qn⟩⟩
  ·refine thn (T.item (X.comp scope cl (ts++ys) { s2 with heap:=HH } (upd H2 s2.heap.objs.size (.dK [])) fp HH.objs.size) rfl rfl rfl hc i _ s3 σ3 H3 (fun _ _=>False) I3 (stat fr3) st3 go) fun r s4 zq=>?_;obtain⟨u,hr,h4⟩:=zq;subst hr;refine thn h4 fun _ s5 zq=>?_;obtain⟨x,H5,I5,r5,y5,st5,fr5⟩:=zq;have I5':=I5.pinned (stat fr5) (T.obj _ _ st5);refine thn (hg _ _ _ _ _ s5 σ3 H5 x u _ I5' r5 (step x H5 y5)) fun _ s6 zq=>?_;obtain⟨σ6,H6,I6,q6⟩:=zq;refine thn (ht _ _ _ _ _ s6 σ6 H6 _ I6 q6) fun b s7 zq=>?_;obtain⟨H7,I7,q7⟩:=zq;have facts:∀{σ':St}{H':Hp}{s':ς},Inv (X.comp scope cl (ts++ys) { s2 with heap:=HH } (upd H2 s2.heap.objs.size (.dK [])) fp HH.objs.size) ([]++dQ fp s5.heap) σ' H' s'->tn (i+1) s'.heap/\(∀b∈fp,H' b=none):=fun {σ' H' s'} J=>by
    refine⟨T.keep _ _ _ st5 fun b hb o e=>(J.pin (b,o) (gq _ (gq _ (yD hb e)))).1,fun b hb=>?_⟩;obtain⟨o,e,d⟩:=T.obj _ _ st5 b hb;exact(J.pin (b,o) (gq _ (gq _ (yD hb e)))).2.1
   have bare:∀{σ':St}{H':Hp}{s':ς},Inv (X.comp scope cl (ts++ys) { s2 with heap:=HH } (upd H2 s2.heap.objs.size (.dK [])) fp HH.objs.size) ([]++dQ fp s5.heap) σ' H' s'->Inv (X.comp scope cl (ts++ys) { s2 with heap:=HH } (upd H2 s2.heap.objs.size (.dK [])) fp HH.objs.size) [] σ' H' s':=fun J=>J.pins_of fun p hp=>absurd hp (by simp);cases b with
   |false =>
    have q7':N σ6 kvs H7:=by simpa using q7
    obtain⟨m',hm,w7⟩:=hN _ _ _ q7';obtain⟨a3,a4⟩:=facts I7;show ∃m,m<n/\_;exact⟨m',hm,i+1,σ6,kvs,H7,bare I7,a3,a4,w7⟩
   |true =>
    rw[if_pos rfl]at q7;show gp _ _ (eval kx _) _ _ s7;refine thn (hek _ _ _ _ _ s7 σ6 H7 _ I7 q7) fun kv s8 zq=>?_;obtain⟨y,H8,I8,r8,q8⟩:=zq;refine thn (hev _ _ _ _ _ s8 σ6 H8 _ I8 q8) fun vv s9 zq=>?_;obtain⟨v,H9,I9,r9,key,ek,eD,hl,n9⟩:=zq;subst ek;obtain⟨m',hm,w9⟩:=hN _ _ _ n9;obtain⟨a3,a4⟩:=facts I9;have I9':=bare I9;obtain⟨z,hd,vs,rel,dd⟩:=dN I9'.hok eD;have hz:vs.length<=χ:=by rw[←rel.length];exact z
    have hlp:(putK kvs key v).length<=χ:=by have:=aC kvs key v;omega
    refine wpAny_dictSet_pairs (hsz:=hz) (lZ r8) dd fun h' dd' hs=>?_;have he:∃q,h'.get? s2.heap.objs.size=some q:=let ⟨q,_,_,hq,_⟩:=dd'; ⟨q,hq⟩;exact⟨m',hm,i+1,σ6,putK kvs key v,_,eG I9' (by rw[eD];exact iu) hs he (iU hlp hd (rel.put key r9) dd'),T.keep _ _ _ a3 fun b hb o e=>(hs.2 b (ii (fl b hb))).trans e,fun b hb=>by rw[jS (ii (fl b hb))];exact a4 b hb,w9⟩
 exact codeAny_compStart_dict (loop _ rfl) (T.self _ 0 _ _ _ tn1 (loop _ rfl))
end
def aCs (P:Nat->List (Key×V)->Hp->Prop) (i:Nat) (js:List Nat) (σ:St):St->List (Key×V)->Hp->Prop:=fun σ' ys H=>P (i+1) ys H/\∃o,σ'=o::vE js σ
theorem aEd{K:Δ}{xs:List V}{k:Nat}{tc:TT}{tk tv:TE}{Q:VK}{H1:Hp}(P:Addr->Nat->List (Key×V)->Hp->Prop)(h0:∀D,H1 D=none->P D 0 [] (upd H1 D (.dK [])))(hl:∀D i ys H,i<=xs.length->P D i ys H->SqL K H a xs)
  (hs:∀D i x ys H,xs[i]?=some x->P D i ys H->tc (some x::vE js σ) H fun b H2=>if b=true then tk (some x::vE js σ) H2 fun y H3=>tv (some x::vE js σ) H3 fun v H4=>∃key,y=kV key/\H4 D=some (.dK ys)/\ys.length<χ/\aCs (P D) i js σ (some x::vE js σ) (putK ys key v) (upd H4 D (.dK (putK ys key v))) else aCs (P D) i js σ (some x::vE js σ) ys H2)
  (hd:∀D ys H,P D xs.length ys H->Q (.ref D) H)(hk:k=1:=by rfl):
  aDc (Itl K a) k js (yZ 0) tc tk tv σ Q H1:=by
 subst hk;intro D hD;refine⟨fun i m σ' ys H=>m=xs.length-i/\i<=xs.length/\P D i ys H/\∃o,σ'=o::vE js σ,⟨xs.length,by simp,gw _,h0 D hD,none,rfl⟩,?_⟩;rintro i m σ' ys H ⟨rfl,hi,p,o,rfl⟩;have q:=hl D i ys H hi p
 by_cases hlt:i<xs.length
 ·refine .inr ⟨⟨xs,xs[i],q,by simp[hlt]⟩,aCs (P D) i js σ,fun σ3 zs H3 z=>⟨xs.length-(i+1),by omega,rfl,hlt,z.1,z.2⟩,fun x H' y=>?_⟩;obtain⟨e,y⟩:=y;subst e;exact hs D i x ys _ (y xs q) p
 ·have e:i=xs.length:=by omega
  subst e;exact .inl ⟨⟨xs,q,μ _⟩,hd D ys H p⟩
section
variable {X:Cx}{tg:Expr}
def iSeq (K:Δ) (tl:TE):TI:=fun σ H R=>tl σ H fun x H1=>∃a,x=.ref a/\(((∃xs,SqL K H1 a xs)/\R (Itl K a) H1)\/((∃xs,SqT K H1 a xs)/\R (Itt K a) H1))
theorem aRc(hl:PE X l tl):PI X tg l (iSeq X.K tl):=by
 intro pins s σ H R I h;refine thn (hl pins s σ H _ I h) fun v s1 zq=>?_;obtain⟨x,H1,I1,r1,q1⟩:=zq;obtain⟨a,e,q1⟩:=q1;subst e;cases r1;rcases q1 with⟨⟨xs,hq⟩,q⟩|⟨⟨xs,hq⟩,q⟩
 ·obtain⟨its,rv,p,hz⟩:=I1.list hq;refine qk p.isList ?_;refine⟨s1.heap.objs.size,[s1.heap.objs.size],_,_,H1,rfl,I1.kept (t':=s1.toks) fun b o e=>ω _ e,sP a _,⟨_,gm _ rfl,rfl,rfl⟩,fun b hb=>?_,q⟩;have e:b=s1.heap.objs.size:=by simpa using hb
  subst e;exact I1.fpOk (μ _) (I1.hok.fresh (μ _))
 ·obtain⟨its,rv,p,hz⟩:=I1.tuple hq;refine rn (show s1.heap.IsTuple a its.toArray from p) ?_;refine⟨s1.heap.objs.size,[s1.heap.objs.size],_,_,H1,rfl,I1.kept (t':=s1.toks) fun b o e=>ω _ e,oJ a _,⟨_,gm _ rfl,rfl,rfl⟩,fun b hb=>?_,q⟩;have e:b=s1.heap.objs.size:=by simpa using hb
  subst e;exact I1.fpOk (μ _) (I1.hok.fresh (μ _))
theorem nA{K:Δ}(hK:X.K=K)(he:PE X e ta)(hb:yi e f X.env (eval e X.env)=eval e X.env):PE X (.Attribute e f pos) (tFld K ta f):=hK ▸ qN he hb
theorem aKi:OpR X (qt .Add) (fun x y H Q=>∃a b xs ys,x=.ref a/\y=.ref b/\SqT X.K H a xs/\SqT X.K H b ys/\ys≠[]/\xs.length+ys.length<=χ ∧
  (xs=[]->Q (.ref b) H)/\(xs≠[]->∀p,H p=none->Q (.ref p) (upd H p (.tup (xs++ys))))):=by
 intro pins s σ H x y v u Q I rx ry h;obtain⟨a,b,xs,ys,rfl,rfl,ha,hb,hx,hz,q1,q2⟩:=h
 by_cases hxs:xs=[]
 ·cases rx;cases ry;obtain⟨its,r1,p1,_⟩:=I.tuple ha;obtain⟨its2,r2,p2,_⟩:=I.tuple hb;have e1:its=[]:=r1.nil_iff.mpr hxs;subst e1;obtain⟨⟨cls,dd,data,sl⟩,ho,hc,n,hd⟩:=id p1;obtain⟨⟨cls2,dd2,data2,sl2⟩,ho2,hc2,n2,hd2⟩:=id p2;simp only at hc hd hc2 hd2;subst hc hd hc2 hd2;exact concat_meets ⟨_,ho,rfl⟩ ⟨_,ho2,rfl⟩ noFill_tuple_add seq_tuple_add xg xa (wf _ _)
   (tuple_addW0 a b _ _ n n2 dd dd2 sl sl2 rfl) ⟨ho,ho2,.ref b,H,I,rfl,q1 hxs⟩
 ·exact aMj pins s σ H _ _ v u Q I rx ry ⟨a,b,xs,ys,rfl,rfl,ha,hb,hxs,hz,fun z=>absurd z hx,fun _=>q2 hxs⟩
end
theorem aGs{X:Cx}{i:Nat}(hN:X.N.Nodup)(hi:X.N[i]?=some x)(hx:Loc X.env.scope x)(he:PEx X (.List es p1) te)(hf:X.fn x=true:=by rfl):
  tM X (.Assign [.Name x pos'] (.List es p1) pos) (aGr te (yZ i)):=⟨aCx hN hi hx he.h rfl (.inl hf)⟩
theorem joinC(b:Bool){D:Ends}{rest:TS}{c:TT}{t u:TS}{H:Hp}(hk:if b=true then t { D with nx:=rest D } σ H' else u { D with nx:=rest D } σ H')(h:∀Q:Bool->Hp->Prop,Q b H'->c σ H Q):vF (aIw c t u) rest D σ H:=h _ hk
theorem aOb : SlR X (fun x lo hi H Q=>∃z,x=.str z/\z.length<=χ/\Q (.str (Txt.slice z lo hi)) H):=by
 intro pins s σ H x v vl vu lo hi sl Q I rx hs pl pu h;obtain⟨z,rfl,hz,q⟩:=h;obtain⟨t,rfl⟩:=rx;refine⟨"str",_,F.slot_str_getitem.lookup,typeIs_str _ _ _,?_⟩;have fin:∀(a b:Option Int),Q (.str (Txt.slice z a b)) H->∀t' k,EP X pins σ Q (.str (Txt.slice z a b) t') { s with toks:=k }:=fun a b q t' k=>⟨.str _,H,I.tok _,⟨_,rfl⟩,q⟩;cases pl with
 |none =>
  cases pu with
  |none=>exact tx (l:=none) (u:=none) (st:=none) hs rfl (post_val_or_str ⟨Ψ (Txt.slice_le z none none) hz,fin none none q⟩)
  |int j tj=>exact tx (l:=none) (u:=some (j,tj)) (st:=none) hs rfl (post_val_or_str ⟨Ψ (Txt.slice_le z none (some j)) hz,fin none (some j) q⟩)
 |int i ti =>
  cases pu with
  |none=>exact tx (l:=some (i,ti)) (u:=none) (st:=none) hs rfl (post_val_or_str ⟨Ψ (Txt.slice_le z (some i) none) hz,fin (some i) none q⟩)
  |int j tj=>exact tx (l:=some (i,ti)) (u:=some (j,tj)) (st:=none) hs rfl (post_val_or_str ⟨Ψ (Txt.slice_le z (some i) (some j)) hz,fin (some i) (some j) q⟩)
theorem aKn : OpR X (qt .Add) (fun x y H Q=>∃a b xs ys,x=.ref a/\y=.ref b/\SqT X.K H a xs/\SqT X.K H b ys/\ys≠[]/\xs.length+ys.length<=χ/\∀p H',jG H H'->SqT X.K H' p (xs++ys)->Q (.ref p) H'):=by
 intro pins s σ H x y v u Q I rx ry h;obtain⟨a,b,xs,ys,rfl,rfl,ha,hb,hx,hz,q⟩:=h;refine aKi pins s σ H _ _ v u Q I rx ry ⟨a,b,xs,ys,rfl,rfl,ha,hb,hx,hz,fun e=>?_,fun _ p hp=>?_⟩
 ·subst e;exact q b H (fun _ _ z=>z) hb
 ·exact q p _ (fun b o z=>by rw[jS (jM z hp)];exact z) (SqT.of jR)
theorem zH{K:Δ}{xs:List V}{k:Nat}{g:TG}{tc:TT}{te:TE}{Q:VK}(P:Nat->List V->Hp->Prop)(h0:P 0 [] H1)(hl:∀i ys H,i<=xs.length->P i ys H->SqT K H a xs/\ys.length<=i)(hz:xs.length<χ)
  (hs:∀i x ys H (os:St),os.length=k->xs[i]?=some x->P i ys H->g x (os++vE js σ) H fun σ3 H3=>tc σ3 H3 fun b H2=>if b=true then te σ3 H2 fun v H3=>rZ P i k js σ σ3 (ys++[v]) H3 else rZ P i k js σ σ3 ys H2)
  (hd:∀ys H,P xs.length ys H->∀p,H p=none->Q (.ref p) (upd H p (.lst ys))):
  dY (Itt K a) k js g tc te σ Q H1:=by
 refine aD P (fun σ'=>∃os:St,os.length=k/\σ'=os++vE js σ) ⟨ve k none,nj,rfl⟩ h0 hz (fun i ys H h p=>(hl i ys H h p).2) (fun i ys H h p=>⟨xs,xs[i],(hl i ys H (jw h) p).1,η h⟩) (fun ys H p=>⟨⟨xs,(hl _ ys H (μ _) p).1,μ _⟩,fun l n _=>hd ys H p l n⟩) fun i ys σ' H h p r x H' y=>?_;obtain⟨os,ho,rfl⟩:=r;have q:=(hl i ys H (jw h) p).1;obtain⟨rfl,y⟩:=y;exact hs i x ys _ os ho (y xs q) p
end L2
namespace L2
open PySem
inductive Kd where
 |num (w:Nat)
 |nest (i:Nat)
 |many (n:Nat) (k:Kd)
 |pick (is:List Nat)
abbrev Shp:=Str×List (Str×Kd)
abbrev Un3:=Str×Nat×Str
def vZ:List Nat->Nat
 |[]=>0
 |x::xs=>max x (vZ xs)
theorem gZ{n:Nat}: ∀{xs:List Nat},n∈xs->n<=vZ xs
 |x::xs,h=>by
  rcases υ.mp h with rfl|h
  ·exact Nat.le_max_left _ _
  ·exact Ψ (gZ h) (Nat.le_max_right _ _)
theorem aAt:∀{xs:List Nat},xs≠[]->vZ xs∈xs
 |[],h=>absurd rfl h
 |[x],_=>by show max x 0∈[x];rw[Nat.max_zero];exact Φ.mpr rfl
 |x::y::xs,_=>by
  have ih:=aAt (xs:=y::xs) (by simp);show max x (vZ (y::xs))∈_
  by_cases h:x<=vZ (y::xs)
  ·rw[Nat.max_eq_right h];exact ρ _ ih
  ·rw[Nat.max_eq_left (by omega)];exact ψ ..
theorem aMq{m:Nat}{xs:List Nat}(h1:m∈xs)(h2:∀n∈xs,n<=m):m=vZ xs :=
 Nat.le_antisymm (gZ h1) (h2 _ (aAt fun z=>by rw[z]at h1;cases h1))
def Kd.size (sz:List Nat):Kd->Nat
 |.num w=>w
 |.nest i=>sz.getD i 0
 |.many n k=>n*k.size sz
 |.pick is=>1+vZ (is.map fun i=>sz.getD i 0)
def Kd.depth (dp:List Nat):Kd->Nat
 |.num _=>0
 |.nest i=>dp.getD i 0
 |.many _ k=>k.depth dp
 |.pick is=>vZ (is.map fun i=>dp.getD i 0)
def pj (p x:Str):Str:=if p.length=0 then x else p++ζ "." ++ x
def Kd.units (sz:List Nat) (ut:List (Str->List Un3)):Kd->Str->List Un3
 |.num w,p=>[(p,w,ζ "num")]
 |.nest i,p=>(ut.getD i fun _=>[]) p
 |.many n k,p=>(ir n).flatMap fun j=>k.units sz ut (pj p (ζ (toString j)))
 |.pick is,p=>[(pj p (ζ "tag"),1,ζ "tag"),(p,vZ (is.map fun i=>sz.getD i 0),ζ "pick")]
structure Tab where
 sz:List Nat
 dp:List Nat
 ut:List (Str->List Un3)
def Tab.more (t:Tab) (s:Shp):Tab:=⟨t.sz++[(s.2.map fun f=>f.2.size t.sz).sum],t.dp++[1+vZ (s.2.map fun f=>f.2.depth t.dp)],t.ut++[fun p=>s.2.flatMap fun f=>f.2.units t.sz t.ut (pj p f.1)]⟩
def tabs (S:List Shp):Tab:=S.foldl Tab.more ⟨[],[],[]⟩
theorem aGj(S:List Shp)(s:Shp):tabs (S++[s])=(tabs S).more s:=by unfold tabs;rw[List.foldl_append];rfl
def Tab.Ok (t:Tab):Prop:=t.ut.length=t.sz.length/\∀i p,(((t.ut.getD i fun _=>[]) p).map (·.2.1)).sum=t.sz.getD i 0
theorem aBp(f:Nat->List Un3)(m:Nat)(h:∀j,((f j).map (·.2.1)).sum=m):∀n,((((ir n).flatMap f)).map (·.2.1)).sum=n*m
 |0=>by simp
 |n+1=>by
  rw[uj,pe,τ,List.sum_append,aBp f m h n,qz,h n,Nat.succ_mul]
theorem Kd.units_sum{t:Tab}(h:t.Ok):∀(k:Kd) (p:Str),((k.units t.sz t.ut p).map (·.2.1)).sum=k.size t.sz
 |.num w,p=>by simp[Kd.units,Kd.size]
 |.nest i,p=>h.2 i p
 |.many n k,p=>aBp _ _ (fun j=>Kd.units_sum h k _) n
 |.pick is,p=>by simp[Kd.units,Kd.size]
theorem pA{t:Tab}(h:t.Ok)(p:Str):∀fs:List (Str×Kd),((fs.flatMap fun f=>f.2.units t.sz t.ut (pj p f.1)).map (·.2.1)).sum=(fs.map fun f=>f.2.size t.sz).sum
 |[]=>rfl
 |f::fs=>by
  rw[xk,τ,List.sum_append,Kd.units_sum h,pA h p fs,jp,uv]
theorem Tab.Ok.more{t:Tab}(h:t.Ok)(s:Shp):(t.more s).Ok:=by
 refine⟨by show(t.ut++[_]).length=(t.sz++[_]).length;rw[ξ,ξ,h.1];rfl,fun i p=>?_⟩;show((((t.ut++[_]).getD i fun _=>[]) p).map (fun u:Un3=>u.2.1)).sum=(t.sz++[_]).getD i 0;rw[Θ,Θ]
 by_cases hi:i<t.ut.length
 ·rw[ig hi,ig (by rw[←h.1];exact hi)];have:=h.2 i p;rw[Θ,Θ]at this;exact this
 ·rw[gr (by omega),gr (by rw[←h.1];omega),←h.1]
  by_cases e:i-t.ut.length=0
  ·rw[e];exact pA h p s.2
  ·obtain⟨n,hn⟩ : ∃n,i-t.ut.length=n+1:=⟨i-t.ut.length-1,by omega⟩;rw[hn];rfl
def Kd.Below (n:Nat):Kd->Prop
 |.num _=>True
 |.nest i=>i<n
 |.many _ k=>k.Below n
 |.pick is=>∀i∈is,i<n
theorem zV{α : Type}{xs ys:List α}{d : α}{i:Nat}(h:i<xs.length):(xs++ys).getD i d=xs.getD i d:=by
 rw[Θ,Θ,ig h]
theorem Kd.Below.mono{n m:Nat}(h:n<=m):∀{k:Kd},k.Below n->k.Below m
 |.num _,_=>iu
 |.nest i,q=>Γ (show i<n from q) h
 |.many _ k,q=>Kd.Below.mono (k:=k) h q
 |.pick is,q=>fun i hi=>Γ (q i hi) h
theorem uQ{xs ys is:List Nat}(h:∀i∈is,i<xs.length):(is.map fun i=>(xs++ys).getD i 0)=is.map fun i=>xs.getD i 0 :=
 wb fun i hi=>zV (h i hi)
theorem Kd.size_app{sz more:List Nat}: ∀{k:Kd},k.Below sz.length->k.size (sz++more)=k.size sz
 |.num _,_=>rfl
 |.nest i,q=>zV q
 |.many n k,q=>by show n*_=n*_;rw[Kd.size_app (k:=k) q]
 |.pick is,q=>by show 1+vZ _=1+vZ _;rw[uQ q]
theorem Kd.depth_app{dp more:List Nat}: ∀{k:Kd},k.Below dp.length->k.depth (dp++more)=k.depth dp
 |.num _,_=>rfl
 |.nest i,q=>zV q
 |.many n k,q=>Kd.depth_app (k:=k) q
 |.pick is,q=>by show vZ _=vZ _;rw[uQ q]
theorem Kd.units_app{sz more:List Nat}{ut um:List (Str->List Un3)}(e:ut.length=sz.length):∀{k:Kd},k.Below sz.length->∀p,k.units (sz++more) (ut++um) p=k.units sz ut p
 |.num _,_,_=>rfl
 |.nest i,q,p=>by show((ut++um).getD i _) p=(ut.getD i _) p;rw[zV (by rw[e];exact q)]
 |.many n k,q,p=>by
  show(ir n).flatMap _=(ir n).flatMap _
  congr 1
  funext j
  exact Kd.units_app e (k:=k) q _
 |.pick is,q,p=>by
  show[_,(p,vZ _,_)]=[_,(p,vZ _,_)];rw[uQ q]
theorem bA:∀S:List Shp,(tabs S).sz.length=S.length/\(tabs S).dp.length=S.length/\(tabs S).ut.length=S.length:=fun S=>by
 have:∀(S:List Shp) (t:Tab) (n:Nat),(t.sz.length=n/\t.dp.length=n/\t.ut.length=n)->((S.foldl Tab.more t).sz.length=n+S.length/\(S.foldl Tab.more t).dp.length=n+S.length/\(S.foldl Tab.more t).ut.length=n+S.length):=by
  intro S
  induction S with
  |nil=>intro t n h;exact h
  |cons s S ih =>
   intro t n h;have:=ih (t.more s) (n+1) ⟨by show(t.sz++[_]).length=_;rw[ξ,h.1];rfl,by show(t.dp++[_]).length=_;rw[ξ,h.2.1];rfl,by show(t.ut++[_]).length=_;rw[ξ,h.2.2];rfl⟩;rw[gj,show n+(S.length+1)=n+1+S.length by omega];exact this
 have h:=this S ⟨[],[],[]⟩ 0 ⟨rfl,rfl,rfl⟩;rw[Nat.zero_add]at h;exact h
theorem aBn(S:List Shp):∀R:List Shp,∃a b c,(tabs (S++R)).sz=(tabs S).sz++a/\(tabs (S++R)).dp=(tabs S).dp++b/\(tabs (S++R)).ut=(tabs S).ut++c:=fun R=>by
 have:∀(R:List Shp) (t:Tab),∃a b c,(R.foldl Tab.more t).sz=t.sz++a/\(R.foldl Tab.more t).dp=t.dp++b/\(R.foldl Tab.more t).ut=t.ut++c:=by
  intro R
  induction R with
  |nil=>intro t;exact⟨[],[],[],by simp,by simp,by simp⟩
  |cons s R ih =>
   intro t;obtain⟨a,b,c,h1,h2,h3⟩:=ih (t.more s);exact⟨[_]++a,[_]++b,[_]++c,h1.trans (kj _ _ _),h2.trans (kj _ _ _),h3.trans (kj _ _ _)⟩
 unfold tabs;rw[List.foldl_append];exact this R _
structure Cl5 where
 num:Addr
 nest:Addr
 many:Addr
 pick:Addr
 shape:Addr
inductive KO (c:Cl5) (K:Δ) (H:Hp) (sa:List Addr):Addr->Kd->Prop
 |num {a dx:Addr}{w:Nat} : H a=some (.ins c.num dx [("width",.int w)])->KO c K H sa a (.num w)
 |nest {a dx s:Addr}{i:Nat} : sa[i]?=some s->H a=some (.ins c.nest dx [("shape",.ref s)])->KO c K H sa a (.nest i)
 |many {a dx b:Addr}{n:Nat}{k:Kd} : H a=some (.ins c.many dx [("count",.int n),("kind",.ref b)])->KO c K H sa b k->KO c K H sa a (.many n k)
 |pick {a dx t:Addr}{is:List Nat}{ss:List Addr} : H a=some (.ins c.pick dx [("shapes",.ref t)])->SqT K H t (ss.map V.ref)->ss.length=is.length->(∀(j i:Nat) (s:Addr),is[j]?=some i->ss[j]?=some s->sa[i]?=some s)->KO c K H sa a (.pick is)
theorem KO.same{K:Δ}(h:KO c K H sa a k)(g:jG H H'):KO c K H' sa a k:=by
 induction h with
 |num h=>exact .num (g _ _ h)
 |nest e h=>exact .nest e (g _ _ h)
 |many h _ ih=>exact .many (g _ _ h) ih
 |pick h t l e=>exact .pick (g _ _ h) (g.tp t) l e
theorem uZ{sa more:List Addr}{i:Nat}(h:sa[i]?=some s):(sa++more)[i]?=some s:=by
 rw[ig (θ.mp h).1];exact h
theorem KO.more{K:Δ}(h:KO c K H sa a k)(more:List Addr):KO c K H (sa++more) a k:=by
 induction h with
 |num h=>exact .num h
 |nest e h=>exact .nest (uZ e) h
 |many h _ ih=>exact .many h ih
 |pick h t l e=>exact .pick h t l fun j i s h1 h2=>uZ (e j i s h1 h2)
theorem KO.ahead{K:Δ}(h:KO c K H sa a k):k.Below sa.length:=by
 induction h with
 |num h=>exact iu
 |nest e h=>exact(θ.mp e).1
 |many h _ ih=>exact ih
 | @pick a dx t is ss h t' l e =>
  intro i hi;obtain⟨j,hj⟩:=jz.mp hi;have hj1:j<is.length:=(θ.mp hj).1;exact(θ.mp (e j i _ hj (η (by omega)))).1
inductive FO (c:Cl5) (K:Δ) (H:Hp) (sa:List Addr):List Addr->List (Str×Kd)->Prop
 |nil:FO c K H sa [] []
 |cons {p k:Addr}{ps:List Addr}{nm:Str}{kd:Kd}{fs:List (Str×Kd)} : SqT K H p [.str nm,.ref k]->KO c K H sa k kd->FO c K H sa ps fs->FO c K H sa (p::ps) ((nm,kd)::fs)
theorem FO.same{K:Δ}(h:FO c K H sa ps fs)(g:jG H H'):FO c K H' sa ps fs:=by
 induction h with
 |nil=>exact .nil
 |cons t k _ ih=>exact .cons (g.tp t) (k.same g) ih
theorem FO.len{K:Δ}(h:FO c K H sa ps fs):ps.length=fs.length:=by
 induction h with
 |nil=>rfl
 |cons _ _ _ ih=>rw[gj,gj,ih]
theorem FO.snoc{K:Δ}(h:FO c K H sa ps fs)(t:SqT K H p [.str nm,.ref k])(hk:KO c K H sa k kd):FO c K H sa (ps++[p]) (fs++[(nm,kd)]):=by
 induction h with
 |nil=>exact .cons t hk .nil
 |cons t' k' _ ih=>exact .cons t' k' ih
theorem FO.get{K:Δ}(h:FO c K H sa ps fs):∀{i:Nat}{p:Addr},ps[i]?=some p->∃nm kd k,fs[i]?=some (nm,kd)/\SqT K H p [.str nm,.ref k]/\KO c K H sa k kd:=by
 induction h with
 |nil=>intro i p e;simp at e
 |cons t k _ ih =>
  intro i p e;cases i with
  |zero=>cases e;exact⟨_,_,_,rfl,t,k⟩
  |succ i=>exact ih e
def SO (c:Cl5) (K:Δ) (H:Hp) (sa:List Addr) (a:Addr) (s:Shp):Prop:=∃dx t ps,H a=some (.ins c.shape dx [("name",.str s.1),("fields",.ref t)])/\SqT K H t (ps.map V.ref)/\FO c K H sa ps s.2
theorem SO.same{K:Δ}(h:SO c K H sa a s)(g:jG H H'):SO c K H' sa a s:=by
 obtain⟨dx,t,ps,h1,h2,h3⟩:=h;exact⟨dx,t,ps,g _ _ h1,g.tp h2,h3.same g⟩
def SW (c:Cl5) (K:Δ) (H:Hp) (sa:List Addr) (S:List Shp):Prop:=sa.length=S.length/\∀(i:Nat) (a:Addr) (s:Shp),sa[i]?=some a->S[i]?=some s->SO c K H (sa.take i) a s
theorem SW.same{K:Δ}(h:SW c K H sa S)(g:jG H H'):SW c K H' sa S:=⟨h.1,fun i a s h1 h2=>(h.2 i a s h1 h2).same g⟩
theorem SW.nil{K:Δ}: SW c K H [] []:=⟨rfl,fun i a s h _=>by simp at h⟩
theorem SW.snoc{K:Δ}(h:SW c K H sa S)(x:SO c K H sa a s):SW c K H (sa++[a]) (S++[s]):=by
 have hl:sa.length=S.length:=h.1;refine⟨by rw[ξ,ξ,h.1];rfl,fun i b u h1 h2=>?_⟩
 by_cases hi:i<sa.length
 ·rw[ig hi]at h1;rw[ig (by rw[←h.1];exact hi)]at h2;rw[List.take_append_of_le_length (by omega)];exact h.2 i b u h1 h2
 ·have hi2:i<(sa++[a]).length:=(θ.mp h1).1;have e:i=sa.length:=by rw[ξ,lj]at hi2;omega
  subst e;rw[gr (μ _),my]at h1;rw[gr (by omega),show sa.length-S.length=0 by omega]at h2;cases h1;cases h2;rw[List.take_left' rfl];exact x
inductive LK (K:Δ) (H:Hp):Addr->Kd->Prop
 |num {a:Addr}{w:Nat} : SqT K H a [.str (ζ "num"),.int w]->LK K H a (.num w)
 |nest {a:Addr}{i:Nat} : SqT K H a [.str (ζ "shape"),.int i]->LK K H a (.nest i)
 |many {a b:Addr}{n:Nat}{k:Kd} : SqT K H a [.str (ζ "row"),.int n,.ref b]->LK K H b k->LK K H a (.many n k)
 |pick {a l:Addr}{is:List Nat} : SqT K H a [.str (ζ "pick"),.ref l]->SqL K H l (is.map fun (i:Nat)=>V.int i)->LK K H a (.pick is)
theorem LK.same{K:Δ}(h:LK K H a k)(g:jG H H'):LK K H' a k:=by
 induction h with
 |num h=>exact .num (g.tp h)
 |nest h=>exact .nest (g.tp h)
 |many h _ ih=>exact .many (g.tp h) ih
 |pick h l=>exact .pick (g.tp h) (g.seq l)
inductive LF (K:Δ) (H:Hp):List Addr->List (Str×Kd)->Prop
 |nil:LF K H [] []
 |cons {p k:Addr}{ps:List Addr}{nm:Str}{kd:Kd}{fs:List (Str×Kd)} : SqT K H p [.str nm,.ref k]->LK K H k kd->LF K H ps fs->LF K H (p::ps) ((nm,kd)::fs)
theorem LF.same{K:Δ}(h:LF K H ps fs)(g:jG H H'):LF K H' ps fs:=by
 induction h with
 |nil=>exact .nil
 |cons t k _ ih=>exact .cons (g.tp t) (k.same g) ih
theorem LF.len{K:Δ}(h:LF K H ps fs):ps.length=fs.length:=by
 induction h with
 |nil=>rfl
 |cons _ _ _ ih=>rw[gj,gj,ih]
theorem LF.snoc{K:Δ}(h:LF K H ps fs)(t:SqT K H p [.str nm,.ref k])(hk:LK K H k kd):LF K H (ps++[p]) (fs++[(nm,kd)]):=by
 induction h with
 |nil=>exact .cons t hk .nil
 |cons t' k' _ ih=>exact .cons t' k' ih
theorem LF.get{K:Δ}(h:LF K H ps fs):∀{i:Nat}{p:Addr},ps[i]?=some p->∃nm kd k,fs[i]?=some (nm,kd)/\SqT K H p [.str nm,.ref k]/\LK K H k kd:=by
 induction h with
 |nil=>intro i p e;simp at e
 |cons t k _ ih =>
  intro i p e;cases i with
  |zero=>cases e;exact⟨_,_,_,rfl,t,k⟩
  |succ i=>exact ih e
def LS (K:Δ) (H:Hp) (a:Addr) (s:Shp):Prop:=∃l ps,SqT K H a [.str s.1,.ref l]/\SqL K H l (ps.map V.ref)/\LF K H ps s.2
theorem LS.same{K:Δ}(h:LS K H a s)(g:jG H H'):LS K H' a s:=by
 obtain⟨l,ps,h1,h2,h3⟩:=h;exact⟨l,ps,g.tp h1,g.seq h2,h3.same g⟩
inductive LW (K:Δ) (H:Hp):List Addr->List Shp->Prop
 |nil:LW K H [] []
 |cons {a:Addr}{as:List Addr}{s:Shp}{S:List Shp} : LS K H a s->LW K H as S->LW K H (a::as) (s::S)
theorem LW.same{K:Δ}(h:LW K H as S)(g:jG H H'):LW K H' as S:=by
 induction h with
 |nil=>exact .nil
 |cons t _ ih=>exact .cons (t.same g) ih
theorem LW.len{K:Δ}(h:LW K H as S):as.length=S.length:=by
 induction h with
 |nil=>rfl
 |cons _ _ ih=>rw[gj,gj,ih]
theorem LW.snoc{K:Δ}(h:LW K H as S)(x:LS K H a s):LW K H (as++[a]) (S++[s]):=by
 induction h with
 |nil=>exact .cons x .nil
 |cons t _ ih=>exact .cons t ih
theorem LW.get{K:Δ}(h:LW K H as S):∀{i:Nat}{a:Addr},as[i]?=some a->∃s,S[i]?=some s/\LS K H a s:=by
 induction h with
 |nil=>intro i a e;simp at e
 |cons t _ ih =>
  intro i a e;cases i with
  |zero=>cases e;exact⟨_,rfl,t⟩
  |succ i=>exact ih e
abbrev spS:Str:=⟨#[32]⟩
abbrev nlS:Str:=⟨#[10]⟩
def Kd.words (nm:Nat->Str):Kd->List Str
 |.num w=>[ζ "num",ζ (toString (w:Int))]
 |.nest i=>[nm i]
 |.many n k=>ζ "row" :: ζ (toString (n:Int))::k.words nm
 |.pick is=>ζ "pick" :: is.map nm
theorem Kd.words_ne(nm:Nat->Str):∀k:Kd,k.words nm≠[]
 |.num _=>by simp[Kd.words]
 |.nest _=>by simp[Kd.words]
 |.many _ _=>by simp[Kd.words]
 |.pick _=>by simp[Kd.words]
def kS (S:List Shp) (i:Nat):Str:=(S.getD i (Str.empty,[])).1
def aEm (nm:Nat->Str) (s:Shp):List (List Str):=[ζ "shape",s.1]::s.2.map fun f=>f.1::f.2.words nm
def nF (S:List Shp):List (List Str):=S.flatMap (aEm (kS S))
def Pln (w:Str):Prop:=32∉w.cps.toList/\10∉w.cps.toList
theorem aFo{c d:Nat}(ne:d≠c):∀{ps:List (List Nat)},(∀p∈ps,d∉p)->d∉jn c ps
 |[],_=>by simp[jn]
 |[p],h=>h p (Φ.mpr rfl)
 |p::q::r,h=>by
  have ih:=aFo ne (ps:=q::r) fun x hx=>h x (ρ _ hx);have hp:=h p (ψ ..);show d∉p++c::jn c (q::r);simp only[iz,υ,not_or];exact⟨hp,ne,ih⟩
theorem aDv{ws:List Str}(hne:ws≠[])(h:∀w∈ws,Pln w):pz (je spS ws) spS=ws:=nQ hne fun w hw=>(h w hw).1
theorem aCd{ls:List (List Str)}(hne:ls≠[])(h:∀l∈ls,∀w∈l,Pln w):pz (je nlS (ls.map (je spS))) nlS=ls.map (je spS):=by
 refine nQ (by simpa using hne) fun y hy=>?_;obtain⟨l,hl,rfl⟩:=ib.mp hy;rw[nE];refine aFo (by decide) fun p hp=>?_;obtain⟨w,hw,rfl⟩:=ib.mp hp;exact(h l hl w hw).2
theorem lM{y:Str}{ys:List Str}(h:ys≠[]):je sep (y::ys)=y++sep++je sep ys:=by
 cases ys with
 |nil=>exact absurd rfl h
 |cons z zs=>rfl
theorem aEg{n:Nat}(h:n<=9):Pln (ζ (toString (n:Int))):=by
 have:∀m:Fin 10,Pln (ζ (toString ((m.val:Nat):Int))):=by
  intro m;unfold Pln;revert m;ac_rfl
 exact this ⟨n,by omega⟩
def Kd.Fit (n:Nat):Kd->Prop
 |.num w=>1<=w/\w<=4
 |.nest i=>i<n
 |.many m k=>1<=m/\m<=6/\((∃w,k=.num w/\1<=w/\w<=4)\/∃i,k=.nest i/\i<n)
 |.pick is=>2<=is.length/\is.length<=4/\is.Nodup/\∀i∈is,i<n
theorem Kd.Fit.below : ∀{k:Kd},k.Fit n->k.Below n
 |.num _,_=>iu
 |.nest _,h=>h
 |.many _ k,h=>by
  rcases h.2.2 with⟨w,rfl,_⟩|⟨i,rfl,hi⟩
  ·exact iu
  ·exact hi
 |.pick _,h=>h.2.2.2
theorem Kd.Fit.plain{n:Nat}{nm:Nat->Str}(hnm:∀i,i<n->Pln (nm i)):∀{k:Kd},k.Fit n->∀w∈k.words nm,Pln w:=by
 have hnum:∀w:Nat,1<=w/\w<=4->∀x∈(Kd.num w).words nm,Pln x:=fun w hw x hx=>by
  simp only[Kd.words,υ,il,or_false]at hx;rcases hx with rfl|rfl
  ·unfold Pln;ac_rfl
  ·exact aEg (by omega)
 intro k h;cases k with
 |num w=>exact hnum w h
 |nest i =>
  intro x hx;rw[Φ.mp (show x∈[nm i] from hx)];exact hnm i h
 |many m k =>
  intro x hx;simp only[Kd.words,υ]at hx;rcases hx with rfl|rfl|hx
  ·unfold Pln;ac_rfl
  ·exact aEg (by have:=h.2.1;omega)
  ·rcases h.2.2 with⟨w,rfl,hw⟩|⟨i,rfl,hi⟩
   ·exact hnum w hw x hx
   ·rw[Φ.mp (show x∈[nm i] from hx)];exact hnm i hi
 |pick is =>
  intro x hx;simp only[Kd.words,υ,ib]at hx;rcases hx with rfl|⟨i,hi,rfl⟩
  ·unfold Pln;ac_rfl
  ·exact hnm i (h.2.2.2 i hi)
def Kd.Rk (r:Nat):Kd->Prop
 |.num _=>True
 |.nest i=>2*i+2<=r
 |.many _ k=>(∃w,k=.num w/\1<=r)\/∃i,k=.nest i/\2*i+3<=r
 |.pick is=>∀i∈is,2*i+3<=r
theorem Kd.Fit.rk : ∀{k:Kd},k.Fit n->k.Rk (2*n+1)
 |.num _,_=>iu
 |.nest i,h=>by have:i<n:=h;show 2*i+2<=2*n+1;omega
 |.many m k,h=>by
  rcases h.2.2 with⟨w,e,_⟩|⟨i,e,hi⟩
  ·exact .inl ⟨w,e,by omega⟩
  ·exact .inr ⟨i,e,by omega⟩
 |.pick is,h=>fun i hi=>by have:=h.2.2.2 i hi;omega
theorem Kd.Rk.mono{r q:Nat}(h:r<=q):∀{k:Kd},k.Rk r->k.Rk q
 |.num _,_=>iu
 |.nest i,g=>Ψ (show 2*i+2<=r from g) h
 |.many m k,g=>by
  rcases g with⟨w,e,hw⟩|⟨i,e,hi⟩
  ·exact .inl ⟨w,e,by omega⟩
  ·exact .inr ⟨i,e,by omega⟩
 |.pick is,g=>fun i hi=>Ψ (g i hi) h
theorem Kd.Fit.mono{n m:Nat}(h:n<=m):∀{k:Kd},k.Fit n->k.Fit m
 |.num _,g=>g
 |.nest i,g=>Γ (show i<n from g) h
 |.many _ k,g=>⟨g.1,g.2.1,by
  rcases g.2.2 with g|⟨i,e,hi⟩
  ·exact .inl g
  ·exact .inr ⟨i,e,by omega⟩⟩
 |.pick is,g=>⟨g.1,g.2.1,g.2.2.1,fun i hi=>Γ (g.2.2.2 i hi) h⟩
structure Good (S:List Shp):Prop where
 ne:∀(i:Nat) (s:Shp),S[i]?=some s->s.2≠[]
 few:∀(i:Nat) (s:Shp),S[i]?=some s->s.2.length<=6
 fit:∀(i:Nat) (s:Shp),S[i]?=some s->∀f∈s.2,f.2.Fit i/\1<=f.1.length/\f.1.length<=6
 sz:∀i:Nat,(tabs S).sz.getD i 0<=1000
theorem aBz{α : Type}{S:List α}{i:Nat}{s : α}(h:S[i]?=some s):S=S.take i++s::S.drop (i+1)/\(S.take i).length=i:=by
 obtain⟨hi,e⟩:=θ.mp h;refine⟨?_,by rw[Ω];omega⟩
 conv=>lhs;rw[←nq i S]
 rw[List.drop_eq_getElem_cons hi,e]
theorem oN{α : Type}{xs zs:List α}{y d : α}: (xs++y::zs).getD xs.length d=y:=by
 rw[Θ,gr (μ _),my];rfl
theorem nB{S R:List Shp}{i:Nat}(h:i<S.length):(tabs (S++R)).sz.getD i 0=(tabs S).sz.getD i 0/\(tabs (S++R)).dp.getD i 0=(tabs S).dp.getD i 0/\((tabs (S++R)).ut.getD i fun _=>[])=(tabs S).ut.getD i fun _=>[]:=by
 obtain⟨a,b,c,e1,e2,e3⟩:=aBn S R;obtain⟨l1,l2,l3⟩:=bA S;rw[e1,e2,e3];exact⟨zV (by omega),zV (by omega),zV (by omega)⟩
theorem cP(S:List Shp)(s:Shp)(R:List Shp):(tabs (S++s::R)).sz.getD S.length 0=(s.2.map fun f=>f.2.size (tabs S).sz).sum/\(tabs (S++s::R)).dp.getD S.length 0=1+vZ (s.2.map fun f=>f.2.depth (tabs S).dp)/\∀p,((tabs (S++s::R)).ut.getD S.length fun _=>[]) p=s.2.flatMap fun f=>f.2.units (tabs S).sz (tabs S).ut (pj p f.1):=by
 have e:S++s::R=(S++[s])++R:=by rw[kj];rfl
 obtain⟨h1,h2,h3⟩:=nB (S:=S++[s]) (R:=R) (i:=S.length) (by rw[ξ];exact tu _);obtain⟨l1,l2,l3⟩:=bA S;rw[e,h1,h2,h3,aGj];refine⟨?_,?_,fun p=>?_⟩
 ·show((tabs S).sz++[_]).getD _ _=_;rw[←l1,oN]
 ·show((tabs S).dp++[_]).getD _ _=_;rw[←l2,oN]
 ·show((tabs S).ut++[_]).getD _ _ p=_;rw[←l3,oN]
theorem Kd.tab_lo{S R:List Shp}{k:Kd}(h:k.Below S.length):k.size (tabs (S++R)).sz=k.size (tabs S).sz/\k.depth (tabs (S++R)).dp=k.depth (tabs S).dp/\∀p,k.units (tabs (S++R)).sz (tabs (S++R)).ut p=k.units (tabs S).sz (tabs S).ut p:=by
 obtain⟨a,b,c,e1,e2,e3⟩:=aBn S R;obtain⟨l1,l2,l3⟩:=bA S;rw[e1,e2,e3];exact⟨Kd.size_app (by rw[l1];exact h),Kd.depth_app (by rw[l2];exact h),fun p=>Kd.units_app (by omega) (by rw[l1];exact h) p⟩
theorem aAu{α β : Type}{f g : α->List β}: ∀{xs:List α},(∀x∈xs,f x=g x)->xs.flatMap f=xs.flatMap g
 |[],_=>rfl
 |x::xs,h=>by rw[xk,xk,h x (ψ ..),aAu fun y hy=>h y (ρ _ hy)]
theorem fL{S:List Shp}{i:Nat}(h:S[i]?=some s)(hF:∀f∈s.2,f.2.Below i):(tabs S).sz.getD i 0=(s.2.map fun f=>f.2.size (tabs S).sz).sum/\(tabs S).dp.getD i 0=1+vZ (s.2.map fun f=>f.2.depth (tabs S).dp)/\∀p,((tabs S).ut.getD i fun _=>[]) p=s.2.flatMap fun f=>f.2.units (tabs S).sz (tabs S).ut (pj p f.1):=by
 obtain⟨e,hl⟩:=aBz h;generalize S.take i=A at e hl;generalize S.drop (i+1)=B at e;subst e;subst hl;obtain⟨h1,h2,h3⟩:=cP A s B;have q:=fun f hf=>Kd.tab_lo (R:=s::B) (hF f hf);refine⟨?_,?_,fun p=>?_⟩
 ·rw[h1,wb fun f hf=>(q f hf).1]
 ·rw[h2,wb fun f hf=>(q f hf).2.1]
 ·rw[h3 p,aAu fun f hf=>(q f hf).2.2 _]
theorem Kd.units_len{sz:List Nat}{ut:List (Str->List Un3)}{n:Nat}(h:∀i,i<n->1<=sz.getD i 0/\∀p,((ut.getD i fun _=>[]) p).length<=sz.getD i 0):∀{k:Kd},k.Fit n->1<=k.size sz/\∀p,(k.units sz ut p).length<=k.size sz:=by
 have hn:∀w,1<=w->1<=(Kd.num w).size sz/\∀p,((Kd.num w).units sz ut p).length<=(Kd.num w).size sz:=fun w hw=>⟨hw,fun p=>hw⟩;intro k hk;cases k with
 |num w=>exact hn w hk.1
 |nest i=>exact h i hk
 |many m k =>
  have hs : 1<=k.size sz/\∀p,(k.units sz ut p).length<=k.size sz:=by
   rcases hk.2.2 with⟨w,rfl,hw,_⟩|⟨i,rfl,hi⟩
   ·exact hn w hw
   ·exact h i hi
  refine⟨Nat.mul_pos hk.1 hs.1,fun p=>?_⟩;show((ir m).flatMap _).length<=m*_;have:∀m,((ir m).flatMap fun j=>k.units sz ut (pj p (ζ (toString j)))).length<=m*k.size sz:=by
   intro m
   induction m with
   |zero=>exact gw _
   |succ m ih =>
    rw[uj,pe,ξ,qz,Nat.succ_mul];exact Nat.add_le_add ih (hs.2 _)
  exact this m
 |pick is =>
  refine⟨by show 1<=1+_;omega,fun p=>?_⟩;show 2<=1+vZ _;cases is with
  |nil=>exact absurd hk.1 (by decide)
  |cons i r =>
   have:=(h i (hk.2.2.2 i (ψ ..))).1;have g:=gZ (n:=sz.getD i 0) (xs:=(i::r).map fun i=>sz.getD i 0) (ψ ..);omega
theorem gI(p:Str):∀{fs:List (Str×Kd)},(∀f∈fs,1<=f.2.size sz/\∀p,(f.2.units sz ut p).length<=f.2.size sz)->(fs.flatMap fun f=>f.2.units sz ut (pj p f.1)).length<=(fs.map fun f=>f.2.size sz).sum/\fs.length<=(fs.map fun f=>f.2.size sz).sum
 |[],_=>⟨μ _,μ _⟩
 |f::fs,h=>by
  have ih:=gI p (fs:=fs) fun g hg=>h g (ρ _ hg);have h0:=h f (ψ ..);rw[xk,ξ,jp,uv,gj];exact⟨Nat.add_le_add (h0.2 _) ih.1,by omega⟩
theorem Good.len(h:Good S):∀n i,i<n->i<S.length->1<=(tabs S).sz.getD i 0/\∀p,(((tabs S).ut.getD i fun _=>[]) p).length<=(tabs S).sz.getD i 0
 |0,i,hi,_=>absurd hi (ui _)
 |n+1,i,hi,hl=>by
  have hs:S[i]?=some S[i]:=η hl;have hF:=h.fit i _ hs;obtain⟨e1,e2,e3⟩:=fL hs fun f hf=>(hF f hf).1.below;have q:∀f∈S[i].2,1<=f.2.size (tabs S).sz/\∀p,(f.2.units (tabs S).sz (tabs S).ut p).length<=f.2.size (tabs S).sz:=fun f hf =>
   Kd.units_len (fun j hj=>Good.len h n j (by omega) (by omega)) (hF f hf).1
  have hne:=h.ne i _ hs;have : 1<=S[i].2.length:=by
   cases e:S[i].2 with
   |nil=>exact absurd e hne
   |cons _ _=>exact ua (gw _)
  refine⟨?_,fun p=>?_⟩
  ·rw[e1];exact Ψ this (gI Str.empty q).2
  ·rw[e1,e3 p];exact(gI p q).1
theorem Good.kd(h:Good S){k:Kd}(hk:k.Fit S.length): 1<=k.size (tabs S).sz/\∀p,(k.units (tabs S).sz (tabs S).ut p).length<=k.size (tabs S).sz:=Kd.units_len (fun j hj=>h.len S.length j hj hj) hk
theorem tT{m:Nat}: ∀{xs:List Nat},(∀x∈xs,x<=m)->vZ xs<=m
 |[],_=>gw _
 |x::xs,h=>oz.mpr ⟨h x (ψ ..),tT fun y hy=>h y (ρ _ hy)⟩
theorem Kd.size_bd{sz:List Nat}{m:Nat}(h:∀i,sz.getD i 0<=m)(hm : 4<=m):∀{k:Kd},k.Fit n->k.size sz<=6*m
 |.num w,hk=>by have:=hk.2;show w<=_;omega
 |.nest i,_=>by have:=h i;show sz.getD i 0<=_;omega
 |.many c k,hk=>by
  have:k.size sz<=m:=by
   rcases hk.2.2 with⟨w,rfl,_,hw⟩|⟨i,rfl,hi⟩
   ·show w<=m;omega
   ·exact h i
  exact Nat.mul_le_mul hk.2.1 this
 |.pick is,_=>by
  have:vZ (is.map fun i=>sz.getD i 0)<=m:=tT fun x hx=>by obtain⟨i,_,rfl⟩:=ib.mp hx;exact h i
  show 1+_<=_;omega
def Kd.parts (S:List Shp):Kd->List (Str×Kd)
 |.nest i=>(S.getD i (Str.empty,[])).2
 |.many n k=>(ir n).map fun j=>(ζ (toString j),k)
 |_=>[]
theorem Kd.parts_units(h:Good S){k:Kd}(hk:k.Fit S.length)(hs:(∃i,k=.nest i)\/∃n q,k=.many n q)(p:Str):k.units (tabs S).sz (tabs S).ut p=(k.parts S).flatMap fun f=>f.2.units (tabs S).sz (tabs S).ut (pj p f.1):=by
 rcases hs with⟨i,rfl⟩|⟨n,q,rfl⟩
 ·have hi:i<S.length:=hk;have hs:S[i]?=some S[i]:=η hi;have e:(Kd.nest i).parts S=S[i].2:=by show(S.getD i _).2=_;rw[Θ,hs];rfl
  rw[e];exact(fL hs fun f hf=>((h.fit i _ hs) f hf).1.below).2.2 p
 ·show(ir n).flatMap _=((ir n).map _).flatMap _;rw[List.flatMap_map]
def Kd.isNum:Kd->Bool
 |.num _=>true
 |_=>false
def Kd.isNest:Kd->Bool
 |.nest _=>true
 |_=>false
def Kd.isMany:Kd->Bool
 |.many _ _=>true
 |_=>false
def Kd.isPick:Kd->Bool
 |.pick _=>true
 |_=>false
def Nolk (m:Str):Prop:=∀v w:V,[(("width" : Str),v)].lookup m=none/\[(("shape" : Str),v)].lookup m=none/\[(("count" : Str),v),(("kind" : Str),w)].lookup m=none/\[(("shapes" : Str),v)].lookup m=none
def spV (c:Cl5) (K:Δ) (r:Nat) (F:Kd->Bool) (val:Kd->Tab->Nat):Sp:=fun vs H Q _=>∃(a:Addr) (kd:Kd) (sa:List Addr) (S:List Shp),vs=[.ref a]/\F kd=true/\kd.Rk r/\kd.Fit S.length/\KO c K H sa a kd/\SW c K H sa S/\Good S/\∀H',jG H H'->Q (.int (val kd (tabs S))) H'
def TV (c:Cl5) (K:Δ) (r:Nat) (val:Kd->Tab->Nat):Addr->Sp->Prop:=fun C sp=>(C=c.num/\sp=spV c K r Kd.isNum val)\/(C=c.nest/\sp=spV c K r Kd.isNest val)\/(C=c.many/\sp=spV c K r Kd.isMany val)\/(C=c.pick/\sp=spV c K r Kd.isPick val)
theorem aGa{K:Δ}{val:Kd->Tab->Nat}{H:Hp}{kd:Kd}{S:List Shp}{Q:VK}{E:XK}(hm:Nolk m)(hr:kd.Rk r)(hf:kd.Fit S.length)(ho:KO c K H sa a kd)(hw:SW c K H sa S)(hg:Good S)
  (q:∀H',jG H H'->Q (.int (val kd (tabs S))) H'):∃a' C dx fs sp,V.ref a=.ref a'/\H a'=some (.ins C dx fs)/\fs.lookup m=none/\TV c K r val C sp/\sp [.ref a] H Q E:=by
 cases id ho with
 |num h=>exact⟨_,_,_,_,_,rfl,h,(hm _ .non).1,.inl ⟨rfl,rfl⟩,a,_,sa,S,rfl,rfl,hr,hf,ho,hw,hg,q⟩
 |nest e h=>exact⟨_,_,_,_,_,rfl,h,(hm _ .non).2.1,.inr (.inl ⟨rfl,rfl⟩),a,_,sa,S,rfl,rfl,hr,hf,ho,hw,hg,q⟩
 |many h _=>exact⟨_,_,_,_,_,rfl,h,(hm _ _).2.2.1,.inr (.inr (.inl ⟨rfl,rfl⟩)),a,_,sa,S,rfl,rfl,hr,hf,ho,hw,hg,q⟩
 |pick h _ _ _=>exact⟨_,_,_,_,_,rfl,h,(hm _ .non).2.2.2,.inr (.inr (.inr ⟨rfl,rfl⟩)),a,_,sa,S,rfl,rfl,hr,hf,ho,hw,hg,q⟩
inductive aEw (c:Cl5) (K:Δ) (r:Nat) (val:Nat->Tab->Nat) (vs:List V) (H:Hp) (Q:VK):Prop|mk:∀(a:Addr) (i:Nat) (sa:List Addr) (S:List Shp),vs=[.ref a]->sa[i]?=some a->2*i+1<=r->SW c K H sa S->Good S->(∀H',jG H H'->Q (.int (val i (tabs S))) H')->aEw c K r val vs H Q
def mE (c:Cl5) (K:Δ) (r:Nat) (val:Nat->Tab->Nat):Sp:=fun vs H Q _=>aEw c K r val vs H Q
inductive UR (K:Δ) (H:Hp):List Addr->List Un3->Prop
 |nil:UR K H [] []
 |cons {t:Addr}{ts:List Addr}{u:Un3}{us:List Un3} : SqT K H t [.str u.1,.int u.2.1,.str u.2.2]->UR K H ts us->UR K H (t::ts) (u::us)
theorem UR.same{K:Δ}(h:UR K H ts us)(g:jG H H'):UR K H' ts us:=by
 induction h with
 |nil=>exact .nil
 |cons t _ ih=>exact .cons (g.tp t) ih
theorem UR.len{K:Δ}(h:UR K H ts us):ts.length=us.length:=by
 induction h with
 |nil=>rfl
 |cons _ _ ih=>rw[gj,gj,ih]
theorem UR.app{K:Δ}(h:UR K H ts us)(h':UR K H ts' us'):UR K H (ts++ts') (us++us'):=by
 induction h with
 |nil=>exact h'
 |cons t _ ih=>exact .cons t ih
theorem UR.get{K:Δ}(h:UR K H ts us):∀{i:Nat}{t:Addr},ts[i]?=some t->∃u,us[i]?=some u/\SqT K H t [.str u.1,.int u.2.1,.str u.2.2]:=by
 induction h with
 |nil=>intro i t e;simp at e
 |cons t _ ih =>
  intro i a e;cases i with
  |zero=>cases e;exact⟨_,rfl,t⟩
  |succ i=>exact ih e
theorem UR.but{K:Δ}{H:Hp}(h:UR K H ts us)(g:But l H H')(hl:H l=some (.lst zs)):UR K H' ts us:=by
 induction h with
 |nil=>exact .nil
 |cons t _ ih=>exact .cons (g.tup hl t) ih
def UL (K:Δ) (H:Hp) (l:Addr) (us:List Un3):Prop:=∃ts:List Addr,H l=some (.lst (ts.map V.ref))/\UR K H ts us
abbrev un (kd:Kd) (S:List Shp) (p:Str):List Un3:=kd.units (tabs S).sz (tabs S).ut p
theorem Kd.parts_un(h:Good S){k:Kd}(hk:k.Fit S.length)(hs:(∃i,k=.nest i)\/∃n q,k=.many n q){p:Str}: un k S p=(k.parts S).flatMap fun f=>un f.2 S (pj p f.1):=Kd.parts_units h hk hs p
def spU (c:Cl5) (K:Δ) (r:Nat) (F:Kd->Bool):Sp:=fun vs H Q _=>∃(a:Addr) (p:Str) (kd:Kd) (sa:List Addr) (S:List Shp),vs=[.ref a,.str p]/\p.length+8*r<=200/\F kd=true/\kd.Rk r/\kd.Fit S.length/\KO c K H sa a kd/\SW c K H sa S/\Good S ∧
 ∀l H',jG H H'->H l=none->UL K H' l (un kd S p)->Q (.ref l) H'
def TU (c:Cl5) (K:Δ) (r:Nat):Addr->Sp->Prop:=fun C sp=>(C=c.num/\sp=spU c K r Kd.isNum)\/(C=c.nest/\sp=spU c K r Kd.isNest)\/(C=c.many/\sp=spU c K r Kd.isMany)\/(C=c.pick/\sp=spU c K r Kd.isPick)
theorem kdU{K:Δ}{H:Hp}{kd:Kd}{S:List Shp}(hm:Nolk m)(hr:kd.Rk r)(hf:kd.Fit S.length)(ho:KO c K H sa a kd)(hw:SW c K H sa S)(hg:Good S):
  ∃C dx fs sp,H a=some (.ins C dx fs)/\fs.lookup m=none/\TU c K r C sp/\∀(p:Str) (Q:VK) (E:XK),p.length+8*r<=200->(∀l H',jG H H'->H l=none->UL K H' l (un kd S p)->Q (.ref l) H')->sp [.ref a,.str p] H Q E:=by
 cases id ho with
 |num h=>exact⟨_,_,_,_,h,(hm _ .non).1,.inl ⟨rfl,rfl⟩,fun p Q E hp q=>⟨a,p,_,sa,S,rfl,hp,rfl,hr,hf,ho,hw,hg,q⟩⟩
 |nest e h=>exact⟨_,_,_,_,h,(hm _ .non).2.1,.inr (.inl ⟨rfl,rfl⟩),fun p Q E hp q=>⟨a,p,_,sa,S,rfl,hp,rfl,hr,hf,ho,hw,hg,q⟩⟩
 |many h _=>exact⟨_,_,_,_,h,(hm _ _).2.2.1,.inr (.inr (.inl ⟨rfl,rfl⟩)),fun p Q E hp q=>⟨a,p,_,sa,S,rfl,hp,rfl,hr,hf,ho,hw,hg,q⟩⟩
 |pick h _ _ _=>exact⟨_,_,_,_,h,(hm _ .non).2.2.2,.inr (.inr (.inr ⟨rfl,rfl⟩)),fun p Q E hp q=>⟨a,p,_,sa,S,rfl,hp,rfl,hr,hf,ho,hw,hg,q⟩⟩
inductive PR (c:Cl5) (K:Δ) (H:Hp) (sa:List Addr):List Addr->List (Str×Kd)->Prop
 |nil:PR c K H sa [] []
 |cons {t k:Addr}{x:V}{y:Str}{kd:Kd}{ts:List Addr}{ps:List (Str×Kd)} : SqT K H t [x,.ref k]->aBs x=some y->KO c K H sa k kd->PR c K H sa ts ps->PR c K H sa (t::ts) ((y,kd)::ps)
theorem PR.same{K:Δ}(h:PR c K H sa ts ps)(g:jG H H'):PR c K H' sa ts ps:=by
 induction h with
 |nil=>exact .nil
 |cons t x k _ ih=>exact .cons (g.tp t) x (k.same g) ih
theorem PR.len{K:Δ}(h:PR c K H sa ts ps):ts.length=ps.length:=by
 induction h with
 |nil=>rfl
 |cons _ _ _ _ ih=>rw[gj,gj,ih]
theorem PR.snoc{K:Δ}{x:V}(h:PR c K H sa ts ps)(t1:SqT K H t [x,.ref k])(h2:aBs x=some y)(h3:KO c K H sa k kd):PR c K H sa (ts++[t]) (ps++[(y,kd)]):=by
 induction h with
 |nil=>exact .cons t1 h2 h3 .nil
 |cons t x k _ ih=>exact .cons t x k ih
theorem PR.get{K:Δ}(h:PR c K H sa ts ps):∀{i:Nat}{t:Addr},ts[i]?=some t->∃x y kd k,ps[i]?=some (y,kd)/\SqT K H t [x,.ref k]/\aBs x=some y/\KO c K H sa k kd:=by
 induction h with
 |nil=>intro i t e;simp at e
 |cons t x k _ ih =>
  intro i a e;cases i with
  |zero=>cases e;exact⟨_,_,_,_,rfl,t,x,k⟩
  |succ i=>exact ih e
theorem FO.parts{K:Δ}(h:FO c K H sa ps fs)(more:List Addr):PR c K H (sa++more) ps fs:=by
 induction h with
 |nil=>exact .nil
 |cons t k _ ih=>exact .cons t rfl (k.more more) ih
theorem SW.at{K:Δ}(h:SW c K H sa S){i:Nat}(e:sa[i]?=some a):∃s,S[i]?=some s/\SO c K H (sa.take i) a s:=by
 have hi:i<S.length:=by rw[←h.1];exact(θ.mp e).1
 exact⟨S[i],η hi,h.2 i a _ e (η hi)⟩
theorem SO.fields{K:Δ}{H:Hp}{sa:List Addr}(h:SO c K H (sa.take i) a s):∃dx t ps,H a=some (.ins c.shape dx [("name",.str s.1),("fields",.ref t)])/\SqT K H t (ps.map V.ref)/\PR c K H sa ps s.2:=by
 obtain⟨dx,t,ps,h1,h2,h3⟩:=h;refine⟨dx,t,ps,h1,h2,?_⟩;have:=h3.parts (sa.drop i);rw[nq]at this;exact this
theorem aGu:∀j:Nat,j<6->(ζ (toString j)).length=1:=by ac_rfl
theorem Kd.parts_ok(h:Good S){k:Kd}{r:Nat}(hk:k.Fit S.length)(hr:k.Rk (r+1)){f:Str×Kd}(hf:f∈k.parts S):f.2.Rk r/\f.2.Fit S.length/\1<=f.1.length/\f.1.length<=6:=by
 cases k with
 |num w=>cases hf
 |nest i =>
  have hi:i<S.length:=hk;have hs:S[i]?=some S[i]:=η hi;have e:(Kd.nest i).parts S=S[i].2:=by show(S.getD i _).2=_;rw[Θ,hs];rfl
  rw[e]at hf;obtain⟨g1,g2,g3⟩:=h.fit i _ hs f hf;exact⟨g1.rk.mono (by have : 2*i+2<=r+1:=hr;omega),g1.mono (by omega),g2,g3⟩
 |many n q =>
  obtain⟨j,hj,rfl⟩:=ib.mp hf;have hj':j<6:=Γ (vb.mp hj) hk.2.1;have:=aGu j hj';refine⟨?_,?_,by show 1<=(ζ (toString j)).length;omega,by show(ζ (toString j)).length<=6;omega⟩
  ·rcases hr with⟨w,rfl,_⟩|⟨i,rfl,hi⟩
   ·exact iu
   ·show 2*i+2<=r;omega
  ·rcases hk.2.2 with⟨w,rfl,hw⟩|⟨i,rfl,hi⟩
   ·exact hw
   ·exact hi
 |pick is=>cases hf
def Kd.lv:Kd->Nat
 |.many _ _=>1
 |_=>0
theorem Kd.lv_le:∀k:Kd,k.lv<=1
 |.num _=>gw _
 |.nest _=>gw _
 |.many _ _=>μ _
 |.pick _=>gw _
def LX (K:Δ) (H:Hp) (sl:Addr) (S:List Shp):Prop:=∃as:List Addr,SqL K H sl (as.map V.ref)/\LW K H as S
theorem LX.same{K:Δ}(h:LX K H sl S)(g:jG H H'):LX K H' sl S:=by
 obtain⟨as,h1,h2⟩:=h;exact⟨as,g.seq h1,h2.same g⟩
def tJ (K:Δ) (val:Kd->Tab->Nat):Nat->Sp
 |0=>fun _ _ _ _=>False
 |r+1=>fun vs H Q _=>∃(a sl:Addr) (kd:Kd) (S:List Shp),vs=[.ref a,.ref sl]/\kd.Rk r/\kd.lv<=r/\kd.Fit S.length/\LK K H a kd/\LX K H sl S/\Good S/\∀H',jG H H'->Q (.int (val kd (tabs S))) H'
def spLU (K:Δ):Nat->Sp
 |0=>fun _ _ _ _=>False
 |r+1=>fun vs H Q _=>∃(a sl:Addr) (p:Str) (kd:Kd) (S:List Shp),vs=[.ref a,.ref sl,.str p]/\p.length+8*r<=200/\kd.Rk r/\kd.lv<=r/\kd.Fit S.length/\LK K H a kd/\LX K H sl S/\Good S ∧
  ∀l H',jG H H'->H l=none->UL K H' l (un kd S p)->Q (.ref l) H'
def vSz (kd:Kd) (t:Tab):Nat:=kd.size t.sz
def vDp (kd:Kd) (t:Tab):Nat:=kd.depth t.dp
def sSz (i:Nat) (t:Tab):Nat:=t.sz.getD i 0
def sDp (i:Nat) (t:Tab):Nat:=t.dp.getD i 0
theorem KO.but{K:Δ}{H:Hp}(g:But l H H')(hl:H l=some (.lst zs))(h:KO c K H sa a k):KO c K H' sa a k:=by
 have n:∀{a C dx fs},H a=some (.ins C dx fs)->H' a=some (.ins C dx fs):=fun h=>g _ _ (hJ h hl (by intro z;cases z)) h
 induction h with
 |num h=>exact .num (n h)
 |nest e h=>exact .nest e (n h)
 |many h _ ih=>exact .many (n h) ih
 |pick h t l e=>exact .pick (n h) (g.tup hl t) l e
theorem FO.but{K:Δ}{H:Hp}(g:But l H H')(hl:H l=some (.lst zs))(h:FO c K H sa ps fs):FO c K H' sa ps fs:=by
 induction h with
 |nil=>exact .nil
 |cons t k _ ih=>exact .cons (g.tup hl t) (k.but g hl) ih
theorem SO.but{K:Δ}{H:Hp}(g:But l H H')(hl:H l=some (.lst zs))(h:SO c K H sa a s):SO c K H' sa a s:=by
 obtain⟨dx,t,ps,h1,h2,h3⟩:=h;exact⟨dx,t,ps,g _ _ (hJ h1 hl (by intro z;cases z)) h1,g.tup hl h2,h3.but g hl⟩
theorem SW.but{K:Δ}{H:Hp}(g:But l H H')(hl:H l=some (.lst zs))(h:SW c K H sa S):SW c K H' sa S:=⟨h.1,fun i a s h1 h2=>(h.2 i a s h1 h2).but g hl⟩
theorem But.from{H:Hp}(g:jG H H1)(hl:H l=none)(b:But l H1 H2):jG H H2:=fun x o q=>b x o (jM q hl) (g x o q)
theorem fC{H:Hp}(hx:H x=none)(hd:H dx=none):jG H (upd (upd H dx o) x u):=fun b v q=>by
 rw[jS (jM q hx),jS (jM q hd)];exact q
theorem jG.putn{H:Hp}(g:jG H H1)(h:H a=none):jG H (upd H1 a o):=fun b v q=>by
 rw[jS (jM q h)];exact g _ _ q
theorem qG{ss:List Addr}{i:Nat}(h:(ss.map V.ref)[i]?=some x):∃s,ss[i]?=some s/\x=.ref s:=by
 rw[gu]at h;cases e:ss[i]? with
 |none=>rw[e]at h;cases h
 |some c=>rw[e]at h;cases h;exact⟨c,rfl,rfl⟩
theorem qE{α β : Type}{f : α->β}{l:List α}{i:Nat}{a : α}(h:l[i]?=some a):(l.take (i+1)).map f=(l.take i).map f++[f a]:=by
 rw[jk,h,τ];rfl
theorem eI{α β : Type}{f : α->List β}{l:List α}{i:Nat}{a : α}(h:l[i]?=some a):(l.take (i+1)).flatMap f=(l.take i).flatMap f++f a:=by
 rw[jk,h,pe];show _++[a].flatMap f=_;rw[qz]
theorem kL{α : Type}{l:List α}: l.take l.length=l:=List.take_length
theorem aHi{ns:List Nat}{m:Int}(h1:m∈ns.map fun n:Nat=>(n:Int))(h2:∀n∈ns.map fun n:Nat=>(n:Int),n<=m):m=((vZ ns:Nat):Int):=by
 obtain⟨n,hn,rfl⟩:=ib.mp h1;rw[←aMq hn fun k hk=>by have:=h2 (k:Int) (List.mem_map_of_mem hk);omega]
theorem sumI:∀ns:List Nat,(ns.map fun n:Nat=>(n:Int)).sum=((ns.sum:Nat):Int)
 |[]=>rfl
 |n::ns=>by rw[jp,uv,uv,sumI ns];omega
theorem Kd.Rk.zero : ∀{k:Kd},k.Rk 0->k.Fit n->k.isNum=true
 |.num _,_,_=>rfl
 |.nest i,h,_=>by have : 2*i+2<=0:=h;omega
 |.many _ _,h,_=>by
  rcases h with⟨_,_,h⟩|⟨i,_,h⟩ <;> omega
 |.pick is,h,q=>by
  cases is with
  |nil=>exact absurd q.1 (by decide)
  |cons i _=>have:=h i (ψ ..);omega
theorem Kd.Rk.sub{r:Nat}(h:(Kd.many n k).Rk (r+1)):k.Rk r:=by
 rcases h with⟨w,rfl,_⟩|⟨i,rfl,hi⟩
 ·exact iu
 ·show 2*i+2<=r;omega
theorem Kd.Fit.sub(h:(Kd.many n k).Fit m):k.Fit m:=by
 rcases h.2.2 with⟨w,rfl,hw⟩|⟨i,rfl,hi⟩
 ·exact hw
 ·exact hi
theorem mK{os:St}(h:os.length=2):∃a b,os=[a,b]:=by
 match os,h with
 |[a,b],_=>exact⟨a,b,rfl⟩
theorem sV{m:Str}(h:m = "size" ∨ m = "depth" ∨ m = "units_at" ∨ m = "parted"):Nolk m:=by
 rcases h with rfl|rfl|rfl|rfl <;> exact fun _ _=>⟨rfl,rfl,rfl,rfl⟩
theorem aB.mono{K:Δ}{k:Nat}(h:aB P w K mg base CX j m C sp)(hk:j<=k):aB P w K mg base CX k m C sp:=by
 obtain⟨c,f,fd,ps,h1,h2,h3⟩:=h;exact⟨c,f,fd,ps,h1,h2.mono hk,h3⟩
theorem noFn{K:Δ}{sp:Sp}(h:∀vs H Q E,sp vs H Q E->False):kJ P w K mg base CX k f fd ps sp:=⟨fun vs H Q E q=>(h vs H Q E q).elim,fun _ _ _ H _ _ vs Q E _ _ _ _ q=>(h vs H Q E q).elim⟩
theorem noV{K:Δ}{F:Kd->Bool}(hF:∀k,F k=true->k.isNum=true->False):∀vs H Q E,spV c K 0 F val vs H Q E->False:=fun vs H Q E h=>by obtain⟨a,kd,sa,S,_,h1,h2,h3,_⟩:=h;exact hF kd h1 (h2.zero h3)
theorem noU{K:Δ}{F:Kd->Bool}(hF:∀k,F k=true->k.isNum=true->False):∀vs H Q E,spU c K 0 F vs H Q E->False:=fun vs H Q E h=>by obtain⟨a,p,kd,sa,S,_,_,h1,h2,h3,_⟩:=h;exact hF kd h1 (h2.zero h3)
theorem nn1:∀k:Kd,k.isNest=true->k.isNum=true->False:=fun k h g=>by cases k <;> first|exact ο h|exact ο g
theorem nn2:∀k:Kd,k.isMany=true->k.isNum=true->False:=fun k h g=>by cases k <;> first|exact ο h|exact ο g
theorem nn3:∀k:Kd,k.isPick=true->k.isNum=true->False:=fun k h g=>by cases k <;> first|exact ο h|exact ο g
theorem ff1:∀k:Kd,k.isNest=true->(∃i,k=.nest i)\/∃n q,k=.many n q:=fun k h=>by
 cases k <;> first|exact .inl ⟨_,rfl⟩|cases h
theorem ff2:∀k:Kd,k.isMany=true->(∃i,k=.nest i)\/∃n q,k=.many n q:=fun k h=>by
 cases k <;> first|exact .inr ⟨_,_,rfl⟩|cases h
inductive Itm where
 |sh (n:Str)
 |fd (n:Str) (k:Kd)
def iI (s:Shp):List Itm:=.sh s.1::s.2.map fun f=>.fd f.1 f.2
def vB (S:List Shp):List Itm:=S.flatMap iI
def Itm.line (nm:Nat->Str):Itm->List Str
 |.sh n=>[ζ "shape",n]
 |.fd n k=>n::k.words nm
theorem cL(S:List Shp):nF S=(vB S).map (Itm.line (kS S)):=by
 unfold nF vB;rw[List.map_flatMap]
 congr 1
 funext s
 unfold aEm iI;rw[jp,jf];rfl
theorem zL(A B:List Shp):vB (A++B)=vB A++vB B:=pe
def mL (S:List Shp) (j:Nat) (T:List Shp):Prop:=(∃S2,S=T++S2/\j=(vB T).length)\/∃S1 s S2 f1 f2,S=S1++s::S2/\s.2=f1++f2/\T=S1++[(s.1,f1)]/\j=(vB S1).length+1+f1.length
theorem mL.start(S:List Shp):mL S 0 []:=.inl ⟨S,rfl,rfl⟩
theorem mL.next(h:mL S j T)(hj:j<(vB S).length):∃S1 s S2,S=S1++s::S2 ∧
  (((vB S)[j]?=some (.sh s.1)/\T=S1/\mL S (j+1) (S1++[(s.1,[])]))\/∃f1 n k f2,s.2=f1++(n,k)::f2/\(vB S)[j]?=some (.fd n k)/\T=S1++[(s.1,f1)]/\mL S (j+1) (S1++[(s.1,f1++[(n,k)])])):=by
 have one:∀{T:List Shp}{S2:List Shp},S=T++S2->j=(vB T).length->∃S1 s S2,S=S1++s::S2 ∧
  (((vB S)[j]?=some (.sh s.1)/\T=S1/\mL S (j+1) (S1++[(s.1,[])]))\/∃f1 n k f2,s.2=f1++(n,k)::f2/\(vB S)[j]?=some (.fd n k)/\T=S1++[(s.1,f1)]/\mL S (j+1) (S1++[(s.1,f1++[(n,k)])])):=by
  intro T S2 e ej;cases S2 with
  |nil=>rw[e,mi,←ej]at hj;exact absurd hj (qb _)
  |cons s S2 =>
   refine⟨T,s,S2,e,.inl ⟨?_,rfl,.inr ⟨T,s,S2,[],s.2,e,rfl,rfl,by rw[ej];rfl⟩⟩⟩;rw[e,zL,gr (by omega),ej,my];rfl
 rcases h with⟨S2,e,ej⟩|⟨S1,s,S2,f1,f2,e,ef,eT,ej⟩
 ·exact one e ej
 ·cases f2 with
  |nil =>
   rw[mi]at ef;have e2:T=S1++[s]:=by rw[eT,←ef]
   refine one (S2:=S2) (by rw[e,e2,kj];rfl) ?_;rw[e2,zL,ξ,ej];show _=_+([s].flatMap iI).length;rw[qz];unfold iI;rw[gj,δ,ef];omega
  |cons f f2 =>
   refine⟨S1,s,S2,e,.inr ⟨f1,f.1,f.2,f2,ef,?_,eT,.inr ⟨S1,s,S2,f1++[(f.1,f.2)],f2,e,by rw[ef,kj];rfl,rfl,by rw[ej,ξ];rfl⟩⟩⟩;rw[e,zL,gr (by omega),show j-(vB S1).length=f1.length+1 by omega];show((iI s)++vB S2)[f1.length+1]?=_;unfold iI;rw[oo,List.getElem?_cons_succ,ig (by rw[δ,ef,ξ,gj];omega),gu,ef,gr (μ _),my];rfl
theorem wA{A:List Shp}(h:A≠[]): 0<(vB A).length:=by
 cases A with
 |nil=>exact absurd rfl h
 |cons a A=>exact Nat.succ_pos _
theorem mL.done(h:mL S (vB S).length T):T=S:=by
 rcases h with⟨S2,e,ej⟩|⟨S1,s,S2,f1,f2,e,ef,eT,ej⟩
 ·cases S2 with
  |nil=>rw[e,mi]
  |cons s S2 =>
   rw[e,zL,ξ]at ej;have:=wA (A:=s::S2) (by simp);omega
 ·rw[e,zL,ξ,show vB (s::S2)=iI s++vB S2 from rfl,ξ]at ej;unfold iI at ej;rw[gj,δ,ef,ξ]at ej;have h2:f2=[]:=mv.mp (by omega);have h3:S2=[]:=by
   cases S2 with
   |nil=>rfl
   |cons a A=>have:=wA (A:=a::A) (by simp);omega
  rw[eT,e,h3];subst h2;rw[mi]at ef;rw[←ef]
theorem bC(sa:List Addr)(z:Addr):atI ((sa++[z]).map V.ref) (-1)=some (.ref z):=by
 have l:((sa++[z]).map V.ref).length=sa.length+1:=by rw[δ,ξ];rfl
 have e:ixN (sa.length+1) (-1)=some sa.length:=by
  unfold ixN;rw[if_neg (by omega),if_pos (by omega)]
  congr 1
  omega
 unfold atI;rw[l,e];show((sa++[z]).map V.ref)[sa.length]?=_;rw[τ,gr (by rw[δ];exact μ _),δ,my];rfl
theorem aIb(sa:List Addr)(z:Addr):ixN ((sa++[z]).map V.ref).length (-1)=some sa.length:=by
 rw[δ,ξ,lj];unfold ixN;rw[if_neg (by omega),if_pos (by omega)]
 congr 1
 omega
theorem aKg(sa:List Addr)(z y:Addr):((sa++[z]).map V.ref).set sa.length (.ref y)=(sa++[y]).map V.ref:=by
 rw[τ,τ,List.set_append_right _ _ (by rw[δ];exact μ _),δ,my];rfl
theorem cutA(xs:List V)(k:Nat):zW xs (some (k:Int)) none=xs.drop k:=by
 unfold zW;rw[HT.sIx_none,HT.sIx_nat];have e:xs.drop (min k xs.length)=xs.drop k:=by
  by_cases h:k<=xs.length
  ·rw[Nat.min_eq_left h]
  ·rw[Nat.min_eq_right (by omega),List.drop_length,List.drop_eq_nil_of_le (by omega)]
 rw[e,mh];rw[yd];omega
theorem aBj(x:V)(xs:List V):zW (x::xs) (some 1) none=xs:=cutA (x::xs) 1
theorem aOw(x y:V)(xs:List V):zW (x::y::xs) (some 2) none=xs:=cutA (x::y::xs) 2
theorem at0{x:V}{xs:List V}: atI (x::xs) 0=some x:=xP (j:=0) rfl
theorem at1{x y:V}{xs:List V}: atI (x::y::xs) 1=some y:=xP (j:=1) rfl
theorem cutB(xs:List V)(k:Nat):zW xs none (some (k:Int))=xs.take k:=by
 unfold zW;rw[HT.sIx_none,HT.sIx_nat,List.drop_zero,xl]
 by_cases h:k<=xs.length
 ·rw[Nat.min_eq_left h]
 ·rw[Nat.min_eq_right (by omega),List.take_length,mh (by omega)]
theorem cutC(sa:List Addr)(z:Addr):zW ((sa++[z]).map V.ref) none (some (-1))=sa.map V.ref:=by
 unfold zW;rw[HT.sIx_none,List.drop_zero,xl];have l:((sa++[z]).map V.ref).length=sa.length+1:=by rw[δ,ξ];rfl
 have e:HT.sIx ((sa++[z]).map V.ref).length ((sa++[z]).map V.ref).length (some (-1))=(sa.map V.ref).length:=by
  rw[l,δ];show(if (-1:Int)<0 then ((-1:Int)+((sa.length+1:Nat):Int)).toNat else min (-1:Int).toNat (sa.length+1))=_;rw[if_pos (by decide)];omega
 rw[e,τ,List.take_left' rfl]
def dk (T:List Shp) (sa:List Addr):List (Key×V):=iw (fun (s:Shp) (a:Addr)=>((.inr s.1:Key),V.ref a)) T sa
theorem aLp{T:List Shp}{sa:List Addr}(hn:(T.map (·.1)).Nodup):∀{i:Nat}{s:Shp}{a:Addr},T[i]?=some s->sa[i]?=some a->vX (dk T sa) (.inr s.1)=some (.ref a):=by
 induction T generalizing sa with
 |nil=>intro i s a h;simp at h
 |cons t T ih =>
  intro i s a h1 h2;cases sa with
  |nil=>simp at h2
  |cons b sa =>
   cases i with
   |zero =>
    cases h1;cases h2;unfold dk vX;rw[rf,List.find?_cons_of_pos (by simp)];rfl
   |succ i =>
    have hn':=jh.mp (show(t.1::T.map (·.1)).Nodup from hn);have:=ih hn'.2 (sa:=sa) h1 h2;unfold dk vX at this ⊢;rw[rf,List.find?_cons_of_neg]
    ·exact this
    ·intro z;have z2:t.1=s.1:=qf (show(wk t.1:Key)=.inr s.1 from of_decide_eq_true z);have h1':T[i]?=some s:=h1;exact hn'.1 (by rw[z2];exact List.mem_map_of_mem (ι h1'))
theorem iQ{kvs:List (Key×V)}{k:Key}(h:∀x∈kvs,x.1≠k):putK kvs k v=kvs++[(k,v)]:=by
 unfold putK
 first
 |rw[if_neg (by simp only[ye,not_exists];rintro x ⟨hx,z⟩;exact h x hx (of_decide_eq_true z))]
 | (split
    · rename_i z
      simp only[ye]at z;obtain⟨x,hx,z⟩:=z;exact absurd (by simpa using z) (h x hx)
    · rfl)
theorem aBk{α β γ : Type}(f : α->β->γ):∀{xs:List α}{ys:List β}{x : α}{y : β},xs.length=ys.length->iw f (xs++[x]) (ys++[y])=iw f xs ys++[f x y]
 |[],[],_,_,_=>rfl
 |a::xs,b::ys,x,y,h=>by
  rw[oo,oo,rf,rf,aBk f (jr h)];rfl
theorem aLz{T:List Shp}{sa:List Addr}{j:Nat}(h1:T[j]?=some s)(h2:sa[j]?=some a):dk (T.take (j+1)) (sa.take (j+1))=dk (T.take j) (sa.take j)++[(.inr s.1,.ref a)]:=by
 unfold dk;rw[jk,jk,h1,h2];refine aBk _ ?_;rw[Ω,Ω];have:=(θ.mp h1).1;have:=(θ.mp h2).1;omega
theorem aLw{T:List Shp}{sa:List Addr}: ∀x∈dk T sa,∃s∈T,x.1=.inr s.1:=by
 induction T generalizing sa with
 |nil=>intro x hx;cases sa <;> simp[dk]at hx
 |cons t T ih =>
  intro x hx;cases sa with
  |nil=>simp[dk]at hx
  |cons a sa =>
   unfold dk at hx;rw[rf]at hx;rcases υ.mp hx with rfl|hx
   ·exact⟨t,ψ ..,rfl⟩
   ·obtain⟨s,hs,e⟩:=ih x hx;exact⟨s,ρ _ hs,e⟩
theorem SW.init{K:Δ}{sa:List Addr}{z:Addr}{T:List Shp}{s:Shp}(h:SW c K H (sa++[z]) (T++[s])):SW c K H sa T/\SO c K H sa z s:=by
 have hl:sa.length=T.length:=by have:=h.1;rw[ξ,ξ]at this;exact jr this
 refine⟨⟨hl,fun i a u h1 h2=>?_⟩,?_⟩
 ·have hi:i<sa.length:=(θ.mp h1).1;have:=h.2 i a u (uZ h1) (by rw[ig (by omega)];exact h2);rw[List.take_append_of_le_length (by omega)]at this;exact this
 ·have:=h.2 sa.length z s (by rw[gr (μ _),my];rfl) (by rw[hl,gr (μ _),my];rfl);rw[List.take_left' rfl]at this;exact this
theorem aKf(c:Nat):∀ps:List (List Nat),(jn c ps).length<=(ps.map (·.length)).sum+ps.length
 |[]=>μ _
 |[p]=>by show p.length<=(p.length+0)+1;omega
 |p::q::r=>by
  have ih:=aKf c (q::r);show(p++c::jn c (q::r)).length<=_;rw[ξ,gj,jp,uv,gj];omega
theorem lE{α : Type}{f : α->Nat}{m:Nat}: ∀{l:List α},(∀x∈l,f x<=m)->(l.map f).sum<=l.length*m
 |[],_=>gw _
 |x::l,h=>by
  have h1:=h x (ψ ..);have h2:=lE (f:=f) (l:=l) fun y hy=>h y (ρ _ hy);rw[jp,uv,gj,Nat.succ_mul];omega
theorem nR{c:Nat}{ws:List Str}{m:Nat}(h:∀w∈ws,w.length<=m):(je ⟨#[c]⟩ ws).length<=ws.length*(m+1):=by
 have e:(je ⟨#[c]⟩ ws).length=(jn c (ws.map fun w=>w.cps.toList)).length:=by
  rw[←nE];exact(jb).symm
 rw[e];refine Ψ (aKf _ _) ?_;rw[jf,δ,Nat.mul_add,Nat.mul_one];exact Nat.add_le_add_right (lE fun w hw=>by show w.cps.toList.length<=m;rw[jb];exact h w hw) _
theorem oF{ns:List Nat}{i:Nat}(h:(ns.map fun n:Nat=>V.int n)[i]?=some x):∃c:Nat,ns[i]?=some c/\x=.int c:=by
 rw[gu]at h;cases e:ns[i]? with
 |none=>rw[e]at h;cases h
 |some c=>rw[e]at h;cases h;exact⟨c,rfl,rfl⟩
theorem zP{ss:List Addr}{i:Nat}(h:ss[i]?=some s):atI (ss.map V.ref) (i:Int)=some (.ref s):=xP (by rw[gu,h];rfl)
theorem fE{ss:List Str}{i:Nat}(h:ss[i]?=some s):atI (ss.map V.str) (i:Int)=some (.str s):=xP (by rw[gu,h];rfl)
theorem LX.at{K:Δ}(h:LX K H sl S){i:Nat}(hi:i<S.length):∃(as:List Addr) (s l:Addr) (ps:List Addr),SqL K H sl (as.map V.ref)/\as[i]?=some s/\SqT K H s [.str (S[i]).1,.ref l]/\SqL K H l (ps.map V.ref)/\LF K H ps (S[i]).2:=by
 obtain⟨as,h1,h2⟩:=h;have hl:=h2.len;have ha:as[i]?=some (as[i]'(by omega)):=η _;obtain⟨s,hs,l,ps,q1,q2,q3⟩:=h2.get ha;rw[η hi]at hs;cases hs;exact⟨as,_,l,ps,h1,ha,q1,q2,q3⟩
theorem len3{os:St}(h:os.length=3):∃a b c,os=[a,b,c]:=by
 match os,h with
 |[a,b,c],_=>exact⟨a,b,c,rfl⟩
def offs (xs:List Addr) (H:Hp):Hp:=fun b=>if b∈xs then none else H b
theorem kN{xs:List Addr}{a:Addr}{H:Hp}(n:a∉xs)(h:H a=some o):offs xs H a=some o:=by unfold offs;rw[if_neg n];exact h
theorem jQ : jG (offs xs H) H:=fun b o q=>by
 unfold offs at q
 split at q
 ·cases q
 ·exact q
theorem xW{xs:List Addr}{H H':Hp}(h:∀b o,b∉xs->H b=some o->H' b=some o):jG (offs xs H) (offs xs H'):=fun b o q=>by
 unfold offs at q ⊢
 split at q
 ·cases q
 ·rename_i n;rw[if_neg n];exact h b o n q
theorem kH(g:jG H H'):jG (offs xs H) (offs xs H'):=xW fun b o _ q=>g b o q
theorem oB{xs ys:List Addr}(h:∀b,b∈xs->b∈ys):jG (offs ys H) (offs xs H):=fun b o q=>by
 unfold offs at q ⊢
 split at q
 ·cases q
 ·rename_i n;rw[if_neg fun z=>n (h b z)];exact q
def Al (xs:List Addr) (H:Hp):Prop:=∀b∈xs,∃o,H b=some o
theorem Al.same(h:Al xs H)(g:jG H H'):Al xs H':=fun b hb=>by
 obtain⟨o,ho⟩:=h b hb;exact⟨o,g _ _ ho⟩
theorem Al.new{H:Hp}(h:Al xs H)(ht:H t=none):t∉xs:=fun z=>by
 obtain⟨o,ho⟩:=h t z;rw[ht]at ho;cases ho
end L2
namespace L2
open PySem PySem.Spec PyProof.Rows
theorem pG(h:(kT P w).is k u=true):RelV (kV k) u:=by
 rcases qJ (show eV k u=true from h) with⟨i,t,rfl,rfl⟩|⟨x,t,rfl,rfl⟩
 ·exact⟨t,rfl⟩
 ·exact⟨t,rfl⟩
def epOf (o:Obj):Nat:=match o.data with | .dict _ ep=>ep|_=>0
theorem KV.get:∀{kvs:List (Key×V)}{vs:List (Key×Value)},KV kvs vs->∀{i:Nat}{kv:Key×V},kvs[i]?=some kv->∃u,vs[i]?=some (kv.1,u)
 |_,_,.nil,_,_,e=>by simp at e
 |_,_,.cons (a:=p) (b:=q) r _,0,kv,e=>by
  simp at e;subst e;exact⟨q.2,by simp[r.1]⟩
 |_,_,.cons _ t,i+1,kv,e=>by
  obtain⟨u,h⟩:=KV.get t (i:=i) (kv:=kv) (by simpa using e);exact⟨u,by simpa using h⟩
end L2
namespace L2.TX
open PySem PySem.Spec PyProof.Rows
def firstMet (val:Nat->Str) (i:Nat):List Str:=((ir i).map val).foldl step_dedup []
section
variable {prog:io}{w:jl}{A:km}{R:Result->ς->Prop}{I:Addr}{fp wr:List Addr}{G:Array GenState->Array GenState->Prop}{n:Nat}{P:Nat->Value->Prop}{St:Nat->ς->Prop}
end
end L2.TX
namespace L2
open PySem PySem.Spec PyProof.Rows
section
variable {P:io}{w:jl}{A:km}{E:Value->ς->Prop}{s:ς}
structure ZpM (b c2:Bool) (h:kq) (z ti to j1 j2 a1 a2:Addr) (n:Nat):Prop where
 z:IsZip h z ti to .none
 ti:IsPair h ti (.ref j1) (.ref j2)
 to:∃p q,IsPair h to p q
 i1:aE b h j1 a1 n
 i2:aE c2 h j2 a2 n
theorem aLu{Q:Option Value->ς->Prop}(D:ZipApart z ti to j1 j2 a1 a2)(hz:ZpM b c2 s.heap z ti to j1 j2 a1 a2 n)
  (g1:zA b s.heap a1 us)(g2:zA c2 s.heap a2 vs)(hu:us[n]?=some u)(hv:vs[n]?=some v)
  (k:∀g,IsZip g z ti to (rawInt s.heap.objs.size)->IsPair g to u v->aE b g j1 a1 (n+1)->aE c2 g j2 a2 (n+1)->IsPair g s.heap.objs.size u v →
   (∀c o,c∉[z,to,j1,j2]->s.heap.get? c=some o->g.get? c=some o)->Q (some (.ref s.heap.objs.size)) { s with heap:=g }):gp (ik P w) A (pyNext (.ref z)) Q E s:=by
 obtain⟨hz,hi,⟨p,q,ho⟩,h1,h2⟩:=hz;have ty:s.TypeIs (.ref z) "zip":=⟨_,hz,rfl⟩;unfold pyNext;refine ε (wpAny_attempt (wpAny_callSpecial?_slot (name:=ζ "__next__") ty F.slot_zip_next (mn F.slot_zip_next ty F.entry_zip_next ?_ (F.args_zip_next_1 _))));show gp _ _ (field (.ref z) 2 >>= fun _=>_) _ _ _;refine ε (qg hz rfl (x:=.bool false) rfl ?_);show gp _ _ (field (.ref z) 3 >>= fun _=>_) _ _ _;refine ε (qg hz rfl (x:=.ref ti) rfl ?_);refine ε (qh hi rfl ?_);show gp _ _ (oh (.ref z) >>= fun _=>_) _ _ _;refine ε ?_;unfold oh;refine ε (qg hz rfl (x:=mz) rfl (π ?_));simp only[if_true];refine ε (wx ?_);refine ε (qg hz rfl (x:=.ref to) rfl ?_);refine ε (sd hz (by simp) fun e1 z1 s1=>?_);replace z1:IsZip e1 z ti to .ellipsis:=z1;refine ε ?_;simp only[List.zipIdx_cons,List.zipIdx_nil,List.forIn_cons,List.forIn_nil];have x1:=s1.extBut;refine ε (ε (wpAny_onRaise ?_));show gp _ _ (jx (.ref j1) >>= fun _=>_) _ _ _;refine ε (aDm (h1.keep fun o e=>x1 _ o D.i1z e) (g1.keep fun o e=>x1 _ o D.l1z e) hu fun e2 m2 s2=>π ?_);have x2:=s2.extBut;have o2:IsPair e2 to p q:=x2 _ _ D.TOi1 (x1 _ _ D.TOz ho);refine ε (qh o2 rfl ?_);refine ε (ym o2 fun e3 o3 s3=>?_);replace o3:IsPair e3 to u q:=o3;have x3:=s3.extBut;refine ε (wpAny_letGo (π ?_));refine ε (ε (wpAny_onRaise ?_));show gp _ _ (jx (.ref j2) >>= fun _=>_) _ _ _;refine ε (aDm (h2.keep fun o e=>x3 _ o D.TOi2.symm (x2 _ o D.i12.symm (x1 _ o D.i2z e))) (g2.keep fun o e=>x3 _ o D.l2TO (x2 _ o D.l2i1 (x1 _ o D.l2z e))) hv fun e4 m4 s4=>π ?_);have x4:=s4.extBut;have o4:IsPair e4 to u q:=x4 _ _ D.TOi2 o3;refine ε (qh o4 rfl ?_);refine ε (ym o4 fun e5 o5 s5=>?_);replace o5:IsPair e5 to u v:=o5;have x5:=s5.extBut;refine ε (wpAny_letGo (π (π ?_)));refine ε (qh o5 rfl ?_);refine ε (wpAny_newTuple ?_);have sz:e5.objs.size=s.heap.objs.size:=by rw[s5.1,s4.1,s3.1,s2.1,s1.1]
 have z5:IsZip e5 z ti to .ellipsis:=x5 _ _ D.TOz.symm (x4 _ _ D.i2z.symm (x3 _ _ D.TOz.symm (x2 _ _ D.i1z.symm z1)));have k5:∀c o,c∉[z,to,j1,j2]->s.heap.get? c=some o->e5.get? c=some o:=fun c o hc e=>by
  simp only[υ,il,or_false,not_or]at hc;exact x5 _ _ hc.2.1 (x4 _ _ hc.2.2.2 (x3 _ _ hc.2.1 (x2 _ _ hc.2.2.1 (x1 _ _ hc.1 e))))
 have m25:aE b e5 j1 a1 (n+1):=m2.keep fun o e=>x5 _ o D.TOi1.symm (x4 _ o D.i12 (x3 _ o D.TOi1.symm e));have m45:aE c2 e5 j2 a2 (n+1):=m4.keep fun o e=>x5 _ o D.TOi2.symm e;have lz:z<e5.objs.size:=gx z5;show gp _ _ (wc (.ref z) (.ref e5.objs.size) >>= fun _=>_) _ _ _;refine ε ?_;unfold wc;have z6:IsZip (e5.push { cls:=.type "tuple",data:=.seq #[u,v] }) z ti to .ellipsis:=ω _ z5;refine ε (sd z6 (by simp) fun e7 z7 s7=>?_);replace z7:IsZip e7 z ti to (rawInt e5.objs.size):=z7;refine sd z7 (by simp) fun e8 z8 s8=>?_;replace z8:IsZip e8 z ti to (rawInt e5.objs.size):=z8;have up:∀c o,c≠z->e5.get? c=some o->e8.get? c=some o:=fun c o c1 e=>s8.extBut _ _ c1 (s7.extBut _ _ c1 (ω _ e));have t8:IsPair e8 e5.objs.size u v:=s8.extBut _ _ (vi lz) (s7.extBut _ _ (vi lz) (gm _ rfl));rw[sz]at z8 t8;refine π ⟨_,rfl,π ?_⟩;rw[sz];exact k e8 z8 (up _ _ D.TOz o5) (m25.keep fun o e=>up _ o D.i1z e) (m45.keep fun o e=>up _ o D.i2z e) t8 fun c o hc e=>up c o (fun x=>hc (by simp[x])) (k5 c o hc e)
theorem aPy{Q:Option Value->ς->Prop}(hh:A.handled=none)(D:ZipApart z ti to j1 j2 a1 a2)(hz:ZpM b c2 s.heap z ti to j1 j2 a1 a2 n)
  (g1:zA b s.heap a1 us)(g2:zA c2 s.heap a2 vs)(hend:us[n]?=none\/vs[n]?=none)
  (k:∀g,(∀c o,c∉[z,to,j1,j2]->s.heap.get? c=some o->g.get? c=some o)->Q none { s with heap:=g }):gp (ik P w) A (pyNext (.ref z)) Q E s:=by
 obtain⟨hz,hi,⟨p,q,ho⟩,h1,h2⟩:=hz;have ty:s.TypeIs (.ref z) "zip":=⟨_,hz,rfl⟩;have nx:∀c,c∉[z,to,j1,j2]->c≠z/\c≠to/\c≠j1/\c≠j2:=fun c hc=>by simpa only[υ,il,or_false,not_or] using hc
 unfold pyNext;refine ε (wpAny_attempt (wpAny_callSpecial?_slot (name:=ζ "__next__") ty F.slot_zip_next (mn F.slot_zip_next ty F.entry_zip_next ?_ (F.args_zip_next_1 _))));show gp _ _ (field (.ref z) 2 >>= fun _=>_) _ _ _;refine ε (qg hz rfl (x:=.bool false) rfl ?_);show gp _ _ (field (.ref z) 3 >>= fun _=>_) _ _ _;refine ε (qg hz rfl (x:=.ref ti) rfl ?_);refine ε (qh hi rfl ?_);show gp _ _ (oh (.ref z) >>= fun _=>_) _ _ _;refine ε ?_;unfold oh;refine ε (qg hz rfl (x:=mz) rfl (π ?_));simp only[if_true];refine ε (wx ?_);refine ε (qg hz rfl (x:=.ref to) rfl ?_);refine ε (sd hz (by simp) fun e1 z1 s1=>?_);replace z1:IsZip e1 z ti to .ellipsis:=z1;refine ε ?_;simp only[List.zipIdx_cons,List.zipIdx_nil,List.forIn_cons,List.forIn_nil];have x1:=s1.extBut;refine ε (ε (wpAny_onRaise ?_));show gp _ _ (jx (.ref j1) >>= fun _=>_) _ _ _;cases hu:us[n]? with
 |none =>
  refine ε (aPe hh (h1.keep fun o e=>x1 _ o D.i1z e) (g1.keep fun o e=>x1 _ o D.l1z e) hu fun e2 x s2 hx=>?_);obtain⟨ox,ex,cx⟩:=hx;have z2:IsZip e2 z ti to .ellipsis:=s2 _ _ D.i1z.symm z1;have nz:x≠z:=fun y=>by subst y;rw[z2]at ex;cases ex;simp at cx
  refine sd z2 (by simp) fun e3 _ s3=>?_;refine ε (ub (T:="StopIteration") (b:=true) ⟨ox,s3.extBut _ _ nz ex,cx⟩ isSubtype_stop ?_);refine π (k _ fun c o hc e=>?_);exact s3.extBut _ _ (nx c hc).1 (s2 _ _ (nx c hc).2.2.1 (x1 _ _ (nx c hc).1 e))
 |some u =>
  have hv:vs[n]?=none:=by
   rcases hend with y|y
   ·rw[hu]at y;cases y
   ·exact y
  refine ε (aDm (h1.keep fun o e=>x1 _ o D.i1z e) (g1.keep fun o e=>x1 _ o D.l1z e) hu fun e2 m2 s2=>π ?_);have x2:=s2.extBut;have o2:IsPair e2 to p q:=x2 _ _ D.TOi1 (x1 _ _ D.TOz ho);refine ε (qh o2 rfl ?_);refine ε (ym o2 fun e3 o3 s3=>?_);have x3:=s3.extBut;refine ε (wpAny_letGo (π ?_));refine ε (ε (wpAny_onRaise ?_));show gp _ _ (jx (.ref j2) >>= fun _=>_) _ _ _;refine ε (aPe hh (h2.keep fun o e=>x3 _ o D.TOi2.symm (x2 _ o D.i12.symm (x1 _ o D.i2z e))) (g2.keep fun o e=>x3 _ o D.l2TO (x2 _ o D.l2i1 (x1 _ o D.l2z e))) hv fun e4 x s4 hx=>?_);obtain⟨ox,ex,cx⟩:=hx;have z4:IsZip e4 z ti to .ellipsis:=s4 _ _ D.i2z.symm (x3 _ _ D.TOz.symm (x2 _ _ D.i1z.symm z1));have nz:x≠z:=fun y=>by subst y;rw[z4]at ex;cases ex;simp at cx
  refine sd z4 (by simp) fun e5 _ s5=>?_;refine ε (ub (T:="StopIteration") (b:=true) ⟨ox,s5.extBut _ _ nz ex,cx⟩ isSubtype_stop ?_);refine π (k _ fun c o hc e=>?_);exact s5.extBut _ _ (nx c hc).1 (s4 _ _ (nx c hc).2.2.2 (x3 _ _ (nx c hc).2.1 (x2 _ _ (nx c hc).2.2.1 (x1 _ _ (nx c hc).1 e))))
end
abbrev zp3M (b c2:Bool) (h:kq) (a1 a2:Addr):kq:=(zp1 c2 (zp1 b h a1) a2).push { cls:=.type "tuple",data:=.seq #[.ref h.objs.size,.ref (zp1 b h a1).objs.size] }
abbrev zp4M (b c2:Bool) (h:kq) (a1 a2:Addr):kq:=(zp3M b c2 h a1 a2).push { cls:=.type "tuple",data:=.seq #[.none,.none] }
abbrev aGo (b c2:Bool) (h:kq) (a1 a2:Addr):kq:=(zp4M b c2 h a1 a2).push { cls:=.type "zip",data:=.fields #[.none,.bool false,.bool false,.ref (zp1 c2 (zp1 b h a1) a2).objs.size,.ref (zp3M b c2 h a1 a2).objs.size] }
theorem aKs(b c2:Bool)(a1 a2:Addr)(us vs:Array Value):Meets (oy.«zip.__new__» ⟨[.type "zip",.ref a1,.ref a2],[]⟩) (fun _ R s=>zA b s.heap a1 us/\zA c2 s.heap a2 vs/\R (.ok (.ret (.ref (zp4M b c2 s.heap a1 a2).objs.size))) { s with heap:=aGo b c2 s.heap a1 a2 }) :=
 .of_wp fun prog w A R s h=>by
  obtain⟨hp,g,d,tk,os⟩:=s;obtain⟨k1,k2,h⟩:=h;have hsub:=sub_zip;cases b <;> cases c2
  ·have y1:kq.IsList (vf ⟨hp,g,d,tk,os⟩) a1 us:=k1;have y2:kq.IsList (vf ⟨hp.push { cls:=.type "list_iterator",data:=.fields #[.ref a1,.int 0 0] },g,d,tk,os⟩) a2 vs:=kq.IsList.push k2 _
   wp_walk using qk y1,qk y2
   exact⟨_,rfl,h⟩
  ·have y1:kq.IsList (vf ⟨hp,g,d,tk,os⟩) a1 us:=k1;have y2:xm (vf ⟨hp.push { cls:=.type "list_iterator",data:=.fields #[.ref a1,.int 0 0] },g,d,tk,os⟩) a2 vs:=xm.push k2 _
   wp_walk using qk y1,rn y2
   exact⟨_,rfl,h⟩
  ·have y1:xm (vf ⟨hp,g,d,tk,os⟩) a1 us:=k1;have y2:kq.IsList (vf ⟨hp.push { cls:=.type "tuple_iterator",data:=.fields #[.ref a1,.int 0 0] },g,d,tk,os⟩) a2 vs:=kq.IsList.push k2 _
   wp_walk using rn y1,qk y2
   exact⟨_,rfl,h⟩
  ·have y1:xm (vf ⟨hp,g,d,tk,os⟩) a1 us:=k1;have y2:xm (vf ⟨hp.push { cls:=.type "tuple_iterator",data:=.fields #[.ref a1,.int 0 0] },g,d,tk,os⟩) a2 vs:=xm.push k2 _
   wp_walk using rn y1,rn y2
   exact⟨_,rfl,h⟩
section
variable {P:io}{w:jl}{A:km}{E:Value->ς->Prop}{s:ς}
theorem aNv{Q:Value->ς->Prop}(k1:zA b s.heap a1 us)(k2:zA c2 s.heap a2 vs)
  (h:∀g,ZpM b c2 g (s.heap.objs.size+4) (s.heap.objs.size+2) (s.heap.objs.size+3) s.heap.objs.size (s.heap.objs.size+1) a1 a2 0->(∀c o,s.heap.get? c=some o->g.get? c=some o)->Q (.ref (s.heap.objs.size+4)) { s with heap:=g }):
  gp (ik P w) A (call (.type "zip") [.ref a1,.ref a2]) Q E s:=by
 refine callType_new F.called_zip (by decide) (F.typeCall_zip_2 _ _) (F.newCall_zip_2 _ _) (fun obj=>F.args_object_init_3 obj _ _) F.entry_zip_new (aKs b c2 a1 a2 us vs) ⟨k1,k2,?_⟩;have z1:(zp1 b s.heap a1).objs.size=s.heap.objs.size+1:=rp ..;have z2:(zp1 c2 (zp1 b s.heap a1) a2).objs.size=s.heap.objs.size+2:=by rw[rp,z1]
 have z3:(zp3M b c2 s.heap a1 a2).objs.size=s.heap.objs.size+3:=by rw[rp,z2]
 have z4:(zp4M b c2 s.heap a1 a2).objs.size=s.heap.objs.size+4:=by rw[rp,z3]
 have up:=fun {h:kq}{c:Addr}{x:Obj}(o:Obj) (e:h.get? c=some x)=>ω o e;have g5:(aGo b c2 s.heap a1 a2).get? (zp4M b c2 s.heap a1 a2).objs.size=some _:=gm _ rfl;have g4:(aGo b c2 s.heap a1 a2).get? (zp3M b c2 s.heap a1 a2).objs.size=some _:=up _ (gm _ rfl);have g3:(aGo b c2 s.heap a1 a2).get? (zp1 c2 (zp1 b s.heap a1) a2).objs.size=some _:=up _ (up _ (gm _ rfl));have g2:(aGo b c2 s.heap a1 a2).get? (zp1 b s.heap a1).objs.size=some _:=up _ (up _ (up _ (gm _ rfl)));have g1:(aGo b c2 s.heap a1 a2).get? s.heap.objs.size=some _:=up _ (up _ (up _ (up _ (gm _ rfl))));show _/\_;rw[z2,z3,z4]at g5;rw[z1,z2]at g3;rw[z3]at g4;rw[z1]at g2;rw[z4];refine⟨⟨_,g5,rfl⟩,h _ ⟨g5,g3,⟨_,_,g4⟩,?_,?_⟩ fun c o x=>up _ (up _ (up _ (up _ (up _ x))))⟩
 ·cases b <;> exact⟨_,g1,rfl,rfl⟩
 ·cases c2 <;> exact⟨_,g2,rfl,rfl⟩
end
def ItzM (K:Δ) (b c2:Bool) (a1 a2:Addr):It :=
 ⟨fun i H=>∃xs ys x y,Sq2 K b H a1 xs/\Sq2 K c2 H a2 ys/\xs[i]?=some x/\ys[i]?=some y,
   fun i H v H'=>∃x y p,v=.ref p/\H p=none/\H'=upd H p (.tup [x,y])/\(∀xs,Sq2 K b H a1 xs->xs[i]?=some x)/\∀ys,Sq2 K c2 H a2 ys->ys[i]?=some y,
   fun i H=>∃xs ys,Sq2 K b H a1 xs/\Sq2 K c2 H a2 ys/\(xs.length<=i\/ys.length<=i)⟩
theorem aHc{K:Δ}(D:ZipApart z ti to j1 j2 a1 a2):
  Turn P w K (.Tuple elts x1 pos) (ItzM K b c2 a1 a2) [z,ti,to,j1,j2] z (fun i h=>ZpM b c2 h z ti to j1 j2 a1 a2 i) where
 mem:=by simp
 obj:=fun i h st c hc=>by
  obtain⟨hz,hi,⟨p,q,ho⟩,h1,h2⟩:=st;have:c=z\/c=ti\/c=to\/c=j1\/c=j2:=by simpa using hc
  rcases this with rfl|rfl|rfl|rfl|rfl
  ·exact⟨_,hz,fun v z=>by cases z⟩
  ·exact⟨_,hi,fun v z=>by cases z⟩
  ·exact⟨_,ho,fun v z=>by cases z⟩
  ·exact h1.obj
  ·exact h2.obj
 keep:=fun i h h' st k=>by
  obtain⟨hz,hi,⟨p,q,ho⟩,h1,h2⟩:=st;exact⟨k z (by simp) _ hz,k ti (by simp) _ hi,⟨p,q,k to (by simp) _ ho⟩,h1.keep fun o e=>k j1 (by simp) o e,h2.keep fun o e=>k j2 (by simp) o e⟩
 item:=by
  intro X hP hw hK hc i pins s σ H E I hf st hg;subst hP hw hK;obtain⟨xs,ys,x,y,hq1,hq2,hx,hy⟩:=hg;obtain⟨is1,r1,p1⟩:=I.seq2 hq1;obtain⟨is2,r2,p2⟩:=I.seq2 hq2;obtain⟨u,hu,ru⟩:=r1.get hx;obtain⟨v,hv,rv⟩:=r2.get hy;refine aLu D st p1 p2 (u:=u) (v:=v) (by simpa using hu) (by simpa using hv) fun g gz go g1 g2 gn gk=>⟨_,rfl,?_⟩;refine wpAny_letOwnedTupleGo_zip gz fun h2 z2 s2=>?_;replace s2:qc z g h2:=s2;have nz:s.heap.objs.size≠z:=vi (gx st.z);have t2:IsPair h2 s.heap.objs.size u v:=(s2.2 _ nz).trans gn;have k2:∀c o,c∉[z,to,j1,j2]->s.heap.get? c=some o->h2.get? c=some o:=fun c o hc e=>(s2.2 c (fun q=>hc (by simp[q]))).trans (gk c o hc e);have mem:∀c∈[z,to,j1,j2],c∈[z,ti,to,j1,j2]:=fun c hc=>by
   simp only[υ,il,or_false]at hc ⊢;rcases hc with q|q|q|q <;> simp[q]
  refine⟨.ref s.heap.objs.size,upd H s.heap.objs.size (.tup [x,y]),I.turnedL (t':=s.toks) k2 (fun c hc=>hf c (mem c hc)) (μ _) ⟨(by show 2<=χ;decide),[u,v],.cons ru (.cons rv .nil),_,t2,rfl,_,rfl⟩,rfl,
   ⟨x,y,_,rfl,I.hok.fresh (μ _),rfl,fun zs hz=>by rw[I.seq2_inj hz hq1];exact hx,fun zs hz=>by rw[I.seq2_inj hz hq2];exact hy⟩,
   ⟨z2,k2 ti _ (by simp[D.TIz,D.TITO,D.TIi1,D.TIi2]) st.ti,⟨_,_,(s2.2 to D.TOz).trans go⟩,g1.keep fun o e=>(s2.2 j1 D.i1z).trans e,g2.keep fun o e=>(s2.2 j2 D.i2z).trans e⟩,fun c hc=>?_⟩
  obtain⟨oc,ec,_⟩ : ∃o,s.heap.get? c=some o/\∀v,o.data≠.cell v:=by
   obtain⟨hz,hi,⟨p,q,ho⟩,h1,h2⟩:=st;have:c=z\/c=ti\/c=to\/c=j1\/c=j2:=by simpa using hc
   rcases this with rfl|rfl|rfl|rfl|rfl
   ·exact⟨_,hz,fun v z=>by cases z⟩
   ·exact⟨_,hi,fun v z=>by cases z⟩
   ·exact⟨_,ho,fun v z=>by cases z⟩
   ·exact h1.obj
   ·exact h2.obj
  rw[jS (ii (gx ec))];exact(hf c hc).1
 done:=by
  intro X hP hw hK hc i pins s σ H E I hf st hg;subst hP hw hK;obtain⟨xs,ys,hq1,hq2,hl⟩:=hg;obtain⟨is1,r1,p1⟩:=I.seq2 hq1;obtain⟨is2,r2,p2⟩:=I.seq2 hq2;have e1:=r1.length;have e2:=r2.length;have mem:∀c∈[z,to,j1,j2],c∈[z,ti,to,j1,j2]:=fun c hc=>by
   simp only[υ,il,or_false]at hc ⊢;rcases hc with q|q|q|q <;> simp[q]
  refine aPy (I.ok.hd hc) D st p1 p2 ?_ fun g gk=>⟨rfl,I.turnedL0 (t':=s.toks) gk fun c hc=>hf c (mem c hc)⟩;rcases hl with q|q
  ·exact .inl (by simp;omega)
  ·exact .inr (by simp;omega)
 self:=fun _ _ _ _ _ st h=>wpAny_pyIter_zip st.z h
def iZipM (K:Δ) (b c2:Bool) (ta:TA):TI:=fun σ H R=>ta σ H fun vs H1=>∃a1 a2 xs ys,vs=[.ref a1,.ref a2]/\Sq2 K b H1 a1 xs/\Sq2 K c2 H1 a2 ys/\R (ItzM K b c2 a1 a2) H1
def aQp (K:Δ) (ta:TA):TI:=fun σ H R=>∃b c2,iZipM K b c2 ta σ H R
theorem aFc{a c:Expr}(hg:Gl X "zip")(hm:X.mg "zip" = none)(ha:PA X [a,c] ta)(hs:ip [a,c] X.env=(false,eval a X.env)::ip [c] X.env:=by rfl)(hs2:ip [c] X.env=[(false,eval c X.env)]:=by rfl):
  PI X (.Tuple elts x1 tpos) (.Call (.Name "zip" p) [a,c] [] pos) (aQp X.K ta):=by
 intro pins s σ H R I h;obtain⟨b,c2,h⟩:=h;refine Call_ (iY I hg hm (show lr "zip" = some (.type "zip") from by ac_rfl) (qx (thn (ha pos pins s σ H _ I h) fun us s1 zq=>?_) (by rw[hs,hs2]) (by rw[hs2];rfl)));obtain⟨vs,H1,I1,r1,q1⟩:=zq;obtain⟨a1,a2,xs,ys,e,h1,h2,q⟩:=q1;subst e;obtain⟨u,v,rfl,rx,ry⟩:=vals2 r1;cases rx;cases ry;obtain⟨is1,v1,p1⟩:=I1.seq2 h1;obtain⟨is2,v2,p2⟩:=I1.seq2 h2;have l1:=p1.lt;have l2:=p2.lt;refine aNv p1 p2 fun g gz gk=>wpAny_pyIter_zip gz.z ?_;have D:ZipApart (s1.heap.objs.size+4) (s1.heap.objs.size+2) (s1.heap.objs.size+3) s1.heap.objs.size (s1.heap.objs.size+1) a1 a2:=by
  have A1:(s1.heap.objs.size:Nat)+4=s1.heap.objs.size+4:=rfl;constructor <;> simp <;> first|exact ii (Γ l1 (vp _ _))|exact ii (Γ l2 (vp _ _))|exact ii l1|exact ii l2|decide
 refine⟨_,_,_,_,H1,rfl,I1.kept (t':=s1.toks) gk,aHc D,gz,fun c hc=>?_,q⟩;have:c=s1.heap.objs.size+4\/c=s1.heap.objs.size+2\/c=s1.heap.objs.size+3\/c=s1.heap.objs.size\/c=s1.heap.objs.size+1:=by simpa using hc
 have ge:s1.heap.objs.size<=c:=by
  rcases this with rfl|rfl|rfl|rfl|rfl <;> first|exact vp _ _|exact μ _
 exact I1.fpOk ge (I1.hok.fresh ge)
theorem aGf{K:Δ}{b:Bool}{xs ys:List V}{k:Nat}{g:TG}{tc:TT}{te:TE}{Q:VK}(P:Nat->List V->Hp->Prop)(he:ys.length=xs.length)(h0:P 0 [] H1)(hl:∀i zs H,i<=xs.length->P i zs H->Sq2 K b H a1 xs/\Sq2 K c2 H a2 ys/\zs.length<=i)(hz:xs.length<χ)
  (hs:∀i x y zs H p (os:St),os.length=k->xs[i]?=some x->ys[i]?=some y->P i zs H->H p=none->g (.ref p) (os++vE js σ) (upd H p (.tup [x,y])) fun σ3 H3=>tc σ3 H3 fun b H2=>if b=true then te σ3 H2 fun v H3=>rZ P i k js σ σ3 (zs++[v]) H3 else rZ P i k js σ σ3 zs H2)
  (hd:∀zs H,P xs.length zs H->∀p,H p=none->Q (.ref p) (upd H p (.lst zs))):
  dY (ItzM K b c2 a1 a2) k js g tc te σ Q H1:=by
 refine aD P (fun σ'=>∃os:St,os.length=k/\σ'=os++vE js σ) ⟨ve k none,nj,rfl⟩ h0 hz (fun i ys H h p=>(hl i ys H h p).2.2) (fun i zs H h p=>⟨xs,ys,xs[i],ys[i]'(by omega),(hl i zs H (jw h) p).1,(hl i zs H (jw h) p).2.1,η h,η (by omega)⟩) (fun zs H p=>⟨⟨xs,ys,(hl _ zs H (μ _) p).1,(hl _ zs H (μ _) p).2.1,.inl (μ _)⟩,fun l n _=>hd zs H p l n⟩) fun i zs σ' H h p r v H' y=>?_;obtain⟨os,ho,rfl⟩:=r;obtain⟨q1,q2,_⟩:=hl i zs H (jw h) p;obtain⟨x,y,pa,rfl,hn,rfl,hx,hy⟩:=y;exact hs i x y zs H pa os ho (hx xs q1) (hy ys q2) p hn
structure InsC (K:Δ) (C:Addr):Prop where
 cl:Cls K C
 ha:sf K (.ref C) "__class__" = some (some (.builtin "object.__class__"))
 hn:PySem.W.specialIn K (.builtin "object.__class__") "__get__" = some (some (.builtin "getset_descriptor.__get__"))
 htk:PySem.W.takesIn K (.builtin "object.__class__")=some true
 hm:we K C (.type "object")=some true
theorem InsC.ty{K:Δ}(c:InsC K C){H:Hp}(e:H a=some (.ins C dx fs)):fU K H (.ref a) (.ref C):=.ins e c.cl c.ha c.hn c.htk c.hm
theorem bF{X:Cx}{K:Δ}(hK:X.K=K):vD X (.builtin "isinstance") (fun xs H Q=>∃(x:V) (D:Addr) (t:Value) (b:Bool),xs=[x,.ref D]/\fU K H x t/\jy K t (.ref D)=some b/\Q (.bl b) H):=by
 intro pins s σ H xs us Q I r h;obtain⟨x,D,t,b,rfl,ht,hk,q⟩:=h;subst hK;obtain⟨u,w',rfl,rx,rD⟩:=vals2 r;cases rD;exact aGi I rx ht hk fun tk=>⟨.bl b,H,I.tok tk,rfl,q⟩
end L2
namespace L2
open PySem
def aZ (fs:List (Str×Kd)) (ds:List ν):List (ν×ν):=iw (fun (f:Str×Kd) (d:ν)=>(PyData.str f.1,d)) fs ds
def gT:Kd->List (Str×Kd)->List ν->ν
 |.many _ _,_,ds=>.list ds
 |_,fs,ds=>.dict (aZ fs ds)
def yC (c:Kd->ν->Prop):List (Str×Kd)->List ν->Prop
 |[],[]=>True
 |f::fs,d::ds=>c f.2 d/\yC c fs ds
 |_,_=>False
def Can (S:List Shp):Nat->Kd->ν->Prop
 |_,.num w,d=>∃v:Nat,d=.int v/\v<256 ^ w
 |0,_,_=>False
 |n+1,.pick is,d=>∃(j i:Nat) (e:ν),is[j]?=some i/\d=.tuple [.int j,e]/\Can S n (.nest i) e
 |n+1,.nest i,d=>∃ds,d=gT (.nest i) ((Kd.nest i).parts S) ds/\yC (Can S n) ((Kd.nest i).parts S) ds
 |n+1,.many m k,d=>∃ds,d=gT (.many m k) ((Kd.many m k).parts S) ds/\yC (Can S n) ((Kd.many m k).parts S) ds
def Kd.Pd (k:Kd):Prop:=(∃i,k=.nest i)\/∃n q,k=.many n q
theorem cZ{n:Nat}{k:Kd}(hk:k.Pd):Can S (n+1) k d ↔ ∃ds,d=gT k (k.parts S) ds/\yC (Can S n) (k.parts S) ds:=by
 rcases hk with⟨i,rfl⟩|⟨m,q,rfl⟩ <;> exact Iff.rfl
theorem yC.len : ∀{fs:List (Str×Kd)}{ds:List ν},yC c fs ds->fs.length=ds.length
 |[],[],_=>rfl
 |_::_,_::_,h=>congrArg (·+1) (yC.len h.2)
theorem yC.get{c:Kd->ν->Prop}: ∀{fs:List (Str×Kd)}{ds:List ν}{i:Nat}{f:Str×Kd},yC c fs ds->fs[i]?=some f->∃d,ds[i]?=some d/\c f.2 d
 |_::_,d::_,0,_,h,e=>by cases e;exact⟨d,rfl,h.1⟩
 |_::_,_::_,i+1,f,h,e=>yC.get (i:=i) (f:=f) h.2 e
theorem yC.app : ∀{fs gs:List (Str×Kd)}{ds es:List ν},yC c fs ds->yC c gs es->yC c (fs++gs) (ds++es)
 |[],_,[],_,_,h=>h
 |_::_,_,_::_,_,h,g=>⟨h.1,yC.app h.2 g⟩
def nx (p:Str) (b:Int):List ν->Option Int
 |.tuple [.str q,.int v]::_=>if q=p/\0<=v/\v<b then some v else none
 |_=>none
def Sml (x:Str):Prop:=x.cps.toList.all (fun c=>decide (c<128))=true
theorem Sml.short(h:Sml x):(PyData.str x).leavesShort 200=true:=ia.mpr fun c hc=>decide_eq_true (Γ (of_decide_eq_true (ia.mp h c hc)) (by decide))
theorem Sml.ok(h:Sml x):vo (.str x)=true:=by
 have e:ν.canLay0 (.str x)=true:=by
  show x.cps.all (fun c=>decide (c<0x110000))=true;rw[←Array.all_toList];exact ia.mpr fun c hc=>decide_eq_true (Γ (of_decide_eq_true (ia.mp h c hc)) (by decide))
 unfold vo;rw[e];rfl
structure NmS (S:List Shp):Prop where
 nm:∀i,i<S.length->(kS S i).length<=6/\Sml (kS S i)
 fd:∀s∈S,∀f∈s.2,Sml f.1
theorem Sml.app(h:Sml x)(g:Sml y):Sml (x++y):=by
 unfold Sml at *;rw[og,nc,List.all_append,h,g];rfl
theorem Sml.pj(h:Sml p)(g:Sml x):Sml (pj p x):=by
 unfold L2.pj
 split
 ·exact g
 ·exact(h.app (by unfold Sml;ac_rfl)).app g
theorem aLt:∀j:Nat,j<6->Sml (ζ (toString j)):=by
 have:∀j:Fin 6,Sml (ζ (toString j.val)):=by unfold Sml;ac_rfl
 exact fun j hj=>this ⟨j,hj⟩
theorem qY{S:List Shp}{i:Nat}(h:S[i]?=some s):(Kd.nest i).parts S=s.2:=by
 show(S.getD i _).2=_;rw[Θ,h];rfl
theorem aHq(hN:NmS S){k:Kd}(hk:k.Fit S.length){f:Str×Kd}(hf:f∈k.parts S):Sml f.1:=by
 cases k with
 |num w=>cases hf
 |nest i =>
  have hs:S[i]?=some S[i]:=η (show i<S.length from hk);rw[qY hs]at hf;exact hN.fd _ (ju _) f hf
 |many n q =>
  obtain⟨j,hj,rfl⟩:=ib.mp hf;exact aLt j (Γ (vb.mp hj) hk.2.1)
 |pick is=>cases hf
theorem aDi(hG:Good S){k:Kd}(hp:k.Pd)(hk:k.Fit S.length):((k.parts S).map fun f=>f.2.size (tabs S).sz).sum=k.size (tabs S).sz:=by
 rcases hp with⟨i,rfl⟩|⟨n,q,rfl⟩
 ·have hs:S[i]?=some S[i]:=η (show i<S.length from hk);rw[qY hs];exact(fL hs fun f hf=>((hG.fit i _ hs) f hf).1.below).1.symm
 ·show(((ir n).map _).map _).sum=n*q.size (tabs S).sz;rw[jf];have:∀n:Nat,((ir n).map fun _=>q.size (tabs S).sz).sum=n*q.size (tabs S).sz:=by
   intro n;rw[List.map_const',List.sum_replicate_nat,jo]
  exact this n
theorem aPl{w v:Nat}(hw:w<=4)(h:v<256 ^ w):v<4294967296:=Γ h (Ψ (Nat.pow_le_pow_right (by decide) hw) (by decide))
structure Sn (d:ν) (w m:Nat):Prop where
 sh:d.showable=true
 ls:d.leavesShort 200=true
 wt:d.weight<=w
 dp:d.depth<=m
structure SnA (ds:List ν) (w m:Nat):Prop where
 sh:qa ds=true
 ls:nr 200 ds=true
 wt:mq ds<=w
 dp:ji ds<=m
structure SnK (ps:List (ν×ν)) (w m:Nat):Prop where
 sh:uz ps=true
 ls:su 200 ps=true
 wt:sr ps<=w
 dp:qi ps<=m
theorem Sm.sn(h:Sm d w m):Sn d w m:=⟨h.sh,h.ls,h.wt,h.dp⟩
theorem Sn.le{n' m':Nat}(h:Sn d n m)(hn:n<=n')(hm:m<=m'):Sn d n' m':=⟨h.sh,h.ls,Ψ h.wt hn,Ψ h.dp hm⟩
theorem SnA.nil(m:Nat):SnA [] 0 m:=⟨rfl,rfl,μ _,gw _⟩
theorem SnA.cons{d:ν}{ds:List ν}{n m n':Nat}(h:Sn d n m)(t:SnA ds n' m):SnA (d::ds) (n+1+n') m:=by
 refine⟨?_,?_,?_,?_⟩
 ·show(d.showable&&qa ds)=true;rw[h.sh,t.sh];rfl
 ·show(d.leavesShort 200&&nr 200 ds)=true;rw[h.ls,t.ls];rfl
 ·show d.weight+1+mq ds<=_;have:=h.wt;have:=t.wt;omega
 ·exact oz.mpr ⟨h.dp,t.dp⟩
theorem SnA.tup{ds:List ν}{n m:Nat}(t:SnA ds n m):Sn (.tuple ds) n (m+1):=⟨t.sh,t.ls,t.wt,ua t.dp⟩
theorem SnA.lst{ds:List ν}{n m:Nat}(t:SnA ds n m):Sn (.list ds) n (m+1):=⟨t.sh,t.ls,t.wt,ua t.dp⟩
theorem SnK.nil(m:Nat):SnK [] 0 m:=⟨rfl,rfl,μ _,gw _⟩
theorem Sn.str(h:Sml x):Sn (.str x) x.length 0:=⟨rfl,h.short,μ _,μ _⟩
theorem Sn.int32{i:Int}(h0 : -1<=i)(h:i<2 ^ 99):Sn (.int i) 101 0:=(Sm.int (by omega)).sn
theorem SnK.cons{x:Str}{d:ν}{ps:List (ν×ν)}{n m n':Nat}(hx:Sml x)(h:Sn d n m)(t:SnK ps n' m):SnK ((.str x,d)::ps) (x.length+n+2+n') m:=by
 refine⟨?_,?_,?_,?_⟩
 ·show(true&&d.showable&&uz ps)=true;rw[h.sh,t.sh];rfl
 ·show((PyData.str x).leavesShort 200&&d.leavesShort 200&&su 200 ps)=true;rw[(Sn.str hx).ls,h.ls,t.ls];rfl
 ·show x.cps.size+d.weight+2+sr ps<=_;have:=h.wt;have:=t.wt;have e:x.length=x.cps.size:=rfl;omega
 ·exact oz.mpr ⟨oz.mpr ⟨gw _,h.dp⟩,t.dp⟩
theorem SnK.dct{ps:List (ν×ν)}{n m:Nat}(t:SnK ps n m):Sn (.dict ps) n (m+1):=⟨t.sh,t.ls,t.wt,ua t.dp⟩
theorem Sn.len(h:Sn d n m)(hn:n<=80000):d.shown.length<=χ:=by
 have h1:=ν.shown_le 200 (by decide) d h.ls;have h2:=h.wt;rw[ic];omega
theorem Sn.int33{i:Int}(h0 : -1<=i)(h:i<4294967296):Sn (.int i) 33 0:=by
 refine⟨(Sm.int (by omega)).sh,(Sm.int (by omega)).ls,?_,μ _⟩;simp only[ν.weight]
 split
 ·omega
 ·rename_i hz;have h1:i.natAbs≠0:=fun z=>hz (by rw[show i=0 by omega];rfl);have:=(Nat.log2_lt h1).mpr (show i.natAbs<2 ^ 32 by omega);omega
theorem wt14{c t n e:Nat}(hc : 1<=c)(he:e<=50): 60*c*(n+1)+e+60*t*(n+2)<=60*(c+t)*(n+2):=by
 have h1 : 60*c*(n+2)=60*c*(n+1)+60*c:=Nat.mul_succ _ _;have h2 : 60*(c+t)*(n+2)=60*c*(n+2)+60*t*(n+2):=by rw[Nat.mul_add 60 c t,Nat.add_mul]
 rw[h2,h1];omega
theorem wJ(hG:Good S)(hN:NmS S):∀{n:Nat}{k:Kd}{d:ν},k.Fit S.length->k.Rk n->Can S n k d->Sn d (60*k.size (tabs S).sz*(n+1)) (n+1):=by
 have num:∀{n w:Nat}{d:ν},(Kd.num w).Fit S.length->Can S n (.num w) d->Sn d (60*(Kd.num w).size (tabs S).sz*(n+1)) (n+1):=by
  intro n w d hf h;obtain⟨v,rfl,hv⟩ : ∃v:Nat,d=.int v/\v<256 ^ w:=by cases n <;> exact h
  have:=aPl hf.2 hv;refine(Sn.int33 (by omega) (by omega)).le ?_ (gw _);have h1 : 1<=w:=hf.1;have : 60*1*1<=60*(Kd.num w).size (tabs S).sz*(n+1):=Nat.mul_le_mul (Nat.mul_le_mul_left _ h1) (by omega);omega
 intro n
 induction n with
 |zero=>intro k d hf _ h;cases k with
  |num w=>exact num hf h
  |_=>exact h.elim
 |succ n ih =>
  have one:∀{f:Str×Kd}{d:ν},f.2.Rk n->f.2.Fit S.length->Can S n f.2 d->Sn d (60*f.2.size (tabs S).sz*(n+1)) (n+1)/\1<=f.2.size (tabs S).sz:=fun hr hf h=>⟨ih hf hr h,(hG.kd hf).1⟩;have la:∀(fs:List (Str×Kd)) (ds:List ν),(∀f∈fs,f.2.Rk n/\f.2.Fit S.length/\f.1.length<=6/\Sml f.1)->yC (Can S n) fs ds->SnA ds (60*(fs.map fun f=>f.2.size (tabs S).sz).sum*(n+2)) (n+1)/\SnK (aZ fs ds) (60*(fs.map fun f=>f.2.size (tabs S).sz).sum*(n+2)) (n+1):=by
   intro fs
   induction fs with
   |nil=>intro ds _ h;cases ds with
    |nil=>exact⟨by simpa using SnA.nil _,by simpa [aZ] using SnK.nil _⟩
    |cons _ _=>exact h.elim
   |cons f fs ihl=>intro ds hf h;cases ds with
    |nil=>exact h.elim
    |cons d ds =>
     obtain⟨a1,a2,a3,a4⟩:=hf f (ψ ..);obtain⟨o1,o2⟩:=one a1 a2 h.1;obtain⟨c1,c2⟩:=ihl ds (fun g hg=>hf g (ρ _ hg)) h.2;rw[jp,uv];have w1:=wt14 (n:=n) (e:=1) (t:=(fs.map fun f=>f.2.size (tabs S).sz).sum) o2 (by decide);have w2:=wt14 (n:=n) (e:=f.1.length+2) (t:=(fs.map fun f=>f.2.size (tabs S).sz).sum) o2 (by omega);have k1:=SnA.cons o1 c1;have k2:=SnK.cons a4 o1 c2;exact⟨⟨k1.sh,k1.ls,Ψ k1.wt w1,k1.dp⟩,⟨k2.sh,k2.ls,Ψ k2.wt (by omega),k2.dp⟩⟩
  have pd:∀{k:Kd}{d:ν},k.Pd->k.Fit S.length->k.Rk (n+1)->Can S (n+1) k d->Sn d (60*k.size (tabs S).sz*(n+1+1)) (n+1+1):=by
   intro k d hk hf hr h;obtain⟨ds,rfl,hc⟩:=(cZ hk).mp h;obtain⟨z1,z2⟩:=la _ _ (fun f hf'=>by
    obtain⟨z1,z2,_,z3⟩:=Kd.parts_ok hG hf hr hf';exact⟨z1,z2,z3,aHq hN hf hf'⟩) hc
   rw[←aDi hG hk hf];rcases hk with⟨i,rfl⟩|⟨m,q,rfl⟩
   ·exact z2.dct
   ·exact z1.lst
  intro k d hf hr h;cases k with
  |num w=>exact num hf h
  |nest i=>exact pd (.inl ⟨i,rfl⟩) hf hr h
  |many c q=>exact pd (.inr ⟨c,q,rfl⟩) hf hr h
  |pick is =>
   obtain⟨j,i,e,hi,rfl,hc⟩ : ∃(j i:Nat) (e:ν),is[j]?=some i/\d=.tuple [.int j,e]/\Can S n (.nest i) e:=h;have hm:=ι hi;have hl:=hf.2.2.2 i hm;have hj:j<is.length:=(θ.mp hi).1;have h4:=hf.2.1;have k1:=ih (k:=.nest i) hl (show 2*i+2<=n by have:=hr i hm;omega) hc;have hs:(Kd.nest i).size (tabs S).sz<=vZ (is.map fun i=>(tabs S).sz.getD i 0):=gZ (ib.mpr ⟨i,hm,rfl⟩);have w1:=wt14 (n:=n) (c:=1) (e:=1) (t:=vZ (is.map fun i=>(tabs S).sz.getD i 0)) (μ _) (by decide);have k2:=(SnA.cons ((Sn.int33 (i:=(j:Int)) (by omega) (by omega)).le (μ _) (gw _)) (SnA.cons k1 (SnA.nil _))).tup;refine k2.le ?_ (μ _);show 33+1+(60*(Kd.nest i).size (tabs S).sz*(n+1)+1+0)<=60*(1+vZ (is.map fun i=>(tabs S).sz.getD i 0))*(n+2);generalize 60*(1+vZ (is.map fun i=>(tabs S).sz.getD i 0))*(n+2)=z at *;have w2 : 60*(Kd.nest i).size (tabs S).sz*(n+1)<=60*vZ (is.map fun i=>(tabs S).sz.getD i 0)*(n+2):=Nat.mul_le_mul (Nat.mul_le_mul_left _ hs) (by omega);have w3 : 60<=60*1*(n+1):=Nat.le_mul_of_pos_right _ (by omega);omega
theorem aQe(hG:Good S)(hN:NmS S):∀{n:Nat}{k:Kd}{d:ν},k.Fit S.length->k.Rk n->Can S n k d->Sn d (120*k.size (tabs S).sz*(n+1)) (n+1):=fun hf hr h=>(wJ hG hN hf hr h).le (Nat.mul_le_mul_right _ (Nat.mul_le_mul_right _ (by decide))) (μ _)
end L2
namespace L2
open PySem PySem.Spec PyProof.Rows
mutual
inductive Dt (z:Bool) (K:Δ) (H:Hp):V->ν->Prop
 |non:Dt z K H .non .none
 |bl (b:Bool):Dt z K H (.bl b) (.bool b)
 |int (i:Int):Dt z K H (.int i) (.int i)
 |str (x:Str):Dt z K H (.str x) (.str x)
 |lst {a:Addr}{xs:List V}{ds:List ν} : SqL K H a xs->(z=true->a≠ja)->Dts z K H xs ds->Dt z K H (.ref a) (.list ds)
 |tup {a:Addr}{xs:List V}{ds:List ν} : SqT K H a xs->Dts z K H xs ds->Dt z K H (.ref a) (.tuple ds)
 |dct {a:Addr}{ks:List Str}{xs:List V}{ds:List ν} : H a=some (.dK (iw (fun k v=>((.inr k:Key),v)) ks xs))->ks.length=xs.length->Dts z K H xs ds->Dt z K H (.ref a) (.dict (iw (fun k d=>(PyData.str k,d)) ks ds))
inductive Dts (z:Bool) (K:Δ) (H:Hp):List V->List ν->Prop
 |nil:Dts z K H [] []
 |cons {x:V}{xs:List V}{d:ν}{ds:List ν} : Dt z K H x d->Dts z K H xs ds->Dts z K H (x::xs) (d::ds)
end
mutual
theorem Dt.same{K:Δ}(g:jG H H'):∀{x:V}{d:ν},Dt z K H x d->Dt z K H' x d
 |_,_,.non=>.non
 |_,_,.bl b=>.bl b
 |_,_,.int i=>.int i
 |_,_,.str x=>.str x
 |_,_,.lst h n t=>.lst (g.seq h) n (Dts.same g t)
 |_,_,.tup h t=>.tup (g.tp h) (Dts.same g t)
 |_,_,.dct h l t=>.dct (g _ _ h) l (Dts.same g t)
theorem Dts.same{K:Δ}(g:jG H H'):∀{xs:List V}{ds:List ν},Dts z K H xs ds->Dts z K H' xs ds
 |_,_,.nil=>.nil
 |_,_,.cons h t=>.cons (Dt.same g h) (Dts.same g t)
end
mutual
theorem Dt.any{K:Δ}: ∀{x:V}{d:ν},Dt z K H x d->Dt false K H x d
 |_,_,.non=>.non
 |_,_,.bl b=>.bl b
 |_,_,.int i=>.int i
 |_,_,.str x=>.str x
 |_,_,.lst h n t=>.lst h (fun z=>nomatch z) (Dts.any t)
 |_,_,.tup h t=>.tup h (Dts.any t)
 |_,_,.dct h l t=>.dct h l (Dts.any t)
theorem Dts.any{K:Δ}: ∀{xs:List V}{ds:List ν},Dts z K H xs ds->Dts false K H xs ds
 |_,_,.nil=>.nil
 |_,_,.cons h t=>.cons (Dt.any h) (Dts.any t)
end
mutual
theorem Dat.dt{K:Δ}: ∀{x:V}{d:ν},Dat K H x d->Dt false K H x d
 |_,_,.non=>.non
 |_,_,.bl b=>.bl b
 |_,_,.int i=>.int i
 |_,_,.str x=>.str x
 |_,_,.lst h t=>.lst h (fun z=>nomatch z) (DatAll.dt t)
 |_,_,.tup h t=>.tup h (DatAll.dt t)
theorem DatAll.dt{K:Δ}: ∀{xs:List V}{ds:List ν},DatAll K H xs ds->Dts false K H xs ds
 |_,_,.nil=>.nil
 |_,_,.cons h t=>.cons (Dat.dt h) (DatAll.dt t)
end
theorem Dts.length{z:Bool}{K:Δ}{H:Hp}: ∀{xs:List V}{ds:List ν},Dts z K H xs ds->xs.length=ds.length
 |_,_,.nil=>rfl
 |_,_,.cons _ t=>congrArg (·+1) (Dts.length t)
theorem Dts.get{K:Δ}: ∀{xs:List V}{ds:List ν}{i:Nat}{d:ν},Dts z K H xs ds->ds[i]?=some d->∃x,xs[i]?=some x/\Dt z K H x d
 |_,_,_,_,.nil,e=>by simp at e
 |_,_,0,_,.cons h _,e=>by simp at e;subst e;exact⟨_,rfl,h⟩
 |_,_,i+1,d,.cons _ t,e=>by
  obtain⟨x,h1,h2⟩:=Dts.get (i:=i) (d:=d) t (by simpa using e);exact⟨x,by simpa using h1,h2⟩
theorem Dts.snoc{K:Δ}: ∀{xs:List V}{ds:List ν}{x:V}{d:ν},Dts z K H xs ds->Dt z K H x d->Dts z K H (xs++[x]) (ds++[d])
 |_,_,_,_,.nil,h=>.cons h .nil
 |_,_,_,_,.cons h t,g=>.cons h (Dts.snoc t g)
theorem Dt.ty{K:Δ}(h:Dt z K H x d):tyM K x H (tyD d):=by
 cases h with
 |lst h _ _=>exact .inl (.inl ⟨rfl,_,h⟩)
 |tup h _=>exact .inl (.inr ⟨rfl,_,h⟩)
 |dct h _ _=>exact .inr ⟨rfl,_,_,rfl,h⟩
 |_=>exact .inl rfl
section
variable {X:Cx}{pins:List (Addr×Obj)}{σ:St}{H:Hp}{s:ς}
theorem Inv.dkz(I:Inv X pins σ H s)(h:H a=some (.dK (iw (fun k v=>((.inr k:Key),v)) ks xs)))(hl:ks.length=xs.length):(a == ja)=false/\∃us:List Value,kO xs us/\s.heap.DictOf (kT X.prog X.w) a (iw (fun k v=>((.inr k:Key),v)) ks us):=by
 obtain⟨_,hsm,vs,kv,dd⟩:=dN I.hok h;have:∀(ks:List Str) (xs:List V) (vs:List (Key×Value)),ks.length=xs.length->KV (iw (fun k v=>((.inr k:Key),v)) ks xs) vs->∃us,kO xs us/\vs=iw (fun k v=>((.inr k:Key),v)) ks us:=by
  intro ks
  induction ks with
  |nil=>intro xs vs e h;cases xs with
   |nil=>cases h;exact⟨[],.nil,rfl⟩
   |cons _ _=>cases e
  |cons k ks ih=>intro xs vs e h;cases xs with
   |nil=>cases e
   |cons x xs =>
    have h':KV (((.inr k:Key),x)::iw (fun k v=>((.inr k:Key),v)) ks xs) vs:=h;cases h' with
    | @cons p q ps qs h1 h2 =>
     obtain⟨us,r,e2⟩:=ih xs qs (jr e) h2;refine⟨q.2::us,.cons h1.2 r,?_⟩;rw[e2];show q::_=((.inr k:Key),q.2)::_;have:q.1=(.inr k:Key):=h1.1.symm;rw[←this]
 obtain⟨us,r,e⟩:=this ks xs vs hl kv;exact⟨hsm,us,r,e ▸ dd⟩
end
end L2
namespace L2
open PySem PySem.Spec PyProof.Rows PySem.SeqAt
open AutoSeq1 (wpAny_loadPart')
open MeetsSeq MeetsSeq2 MeetsSeq3 SeqRoads2
def EqP (P:io) (w:jl) (A:km) (s:ς) (y x:Value):Prop:=∀(E:Value->ς->Prop) (Q:Bool->ς->Prop),Q true s->gp (ik P w) A (eqBool y x) Q E s
def RcP (P:io) (w:jl) (A:km) (s:ς) (y x:Value):Prop:=∀(E:Value->ς->Prop) (Q:Value->ς->Prop),Q (.bool true) s->gp (ik P w) A (richCompare .Eq y x) Q E s
section
variable {P:io}{w:jl}{A:km}{s:ς}
theorem EqP.of(h:EqAt A s y x true):EqP P w A s y x:=fun E Q q=>h P w E Q q
theorem EqP.refs{l b:Addr}(h:l≠b->RcP P w A s (.ref l) (.ref b)):EqP P w A s (.ref l) (.ref b):=by
 by_cases e:l=b
 ·subst e;exact .of (EqAt.same _)
 ·intro E Q q;unfold eqBool;refine lh (wpAny_ite_split (fun hab=>absurd (by have:=eq_of_beq hab;injection this) e) fun _=>?_);exact ε (h e E _ (kg q))
theorem loopP(l b:Addr)(xs ys:Array Value)(n m:Nat)(d1 d2:Option Addr)(s1 s2:Array (Option Value))(hz:xs.size=ys.size)(k:Nat):
  ∀i:Nat,xs.size-i=k->MeetsIn P w (oy.«list.__eq__.loop» ⟨[.ref l,.ref b,rawInt i,rawInt 2],[]⟩)
   (fun A R s=>s.heap.get? l=some ⟨.type "list",d1,.seq xs n,s1⟩/\s.heap.get? b=some ⟨.type "list",d2,.seq ys m,s2⟩/\(∀j (h1:j<xs.size) (h2:j<ys.size),EqP P w A.in1 s xs[j] ys[j])/\R (.ok (.ret (.bool true))) s):=by
 induction k with
 |zero =>
  intro i hk A R s ⟨hl,hb,he,h⟩;obtain⟨hp,g,d,tk,os⟩:=s
  wp_walk using mj hl,mj hb
  rw[show xs[((i:Nat):Int).toNat]?=none by simp;omega,show ys[((i:Nat):Int).toNat]?=none by simp;omega]
  wp_walk using mj hl,mj hb
  show R (.ok (.ret (.bool (xs.size == ys.size)))) _;rw[hz];simpa using h
 |succ k ih =>
  intro i hk A R s ⟨hl,hb,he,h⟩;obtain⟨hp,g,d,tk,os⟩:=s
  wp_walk using mj hl,mj hb
  have q1:i<xs.size:=by omega
  have q2:i<ys.size:=by omega
  have hc:((i:Int)+1)=((i+1:Nat):Int):=by push_cast;rfl
  rw[show xs[((i:Nat):Int).toNat]?=some xs[i] by simp[q1],show ys[((i:Nat):Int).toNat]?=some ys[i] by simp[q2]];refine ε (he i q1 q2 _ _ ?_)
  wp_walk
  rw[hc];exact⟨plainId_quiet plain_eq_loop _,codeAny_builtin entry_eq_loop (by
   rw[km.under_plainId plain_eq_loop _];exact ih (i+1) (by omega) A R _ ⟨hl,hb,he,h⟩)⟩
theorem RcP.lists(hl:s.heap.IsList l xs)(hb:s.heap.IsList b ys)(hz:xs.size=ys.size)(hu:A.units<pw)(he:∀j (h1:j<xs.size) (h2:j<ys.size),EqP P w A.in1 s xs[j] ys[j]):RcP P w A s (.ref l) (.ref b):=fun E Q q=>by
 obtain⟨⟨c1,d1,t1,s1⟩,ho,hc,n,hd⟩:=hl;obtain⟨⟨c2,d2,t2,s2⟩,ho2,hc2,m,hd2⟩:=hb;simp only at hc hd hc2 hd2;subst hc hd hc2 hd2;refine rg (op:=.Eq) ⟨_,ho,rfl⟩ ⟨_,ho2,rfl⟩ F.slot_list_eq (xn F.slot_list_eq ⟨_,ho,rfl⟩ F.entry_list_eq (F.args_list_eq_2 _ _) (S:=fun A R s=>s.heap.get? l=some ⟨.type "list",d1,.seq xs n,s1⟩/\s.heap.get? b=some ⟨.type "list",d2,.seq ys m,s2⟩/\(∀j (h1:j<xs.size) (h2:j<ys.size),EqP P w A.in1 s xs[j] ys[j])/\R (.ok (.ret (.bool true))) s) ?_ ⟨ho,ho2,he,(fun x=>nomatch x),q⟩) hu;intro A R s ⟨hl,hb,he,h⟩;obtain⟨hp,g,d,tk,os⟩:=s;have f3:=AutoSeq1.sub_list_list;have hne:¬ (xs.size != ys.size)=true:=by simp[hz]
 wp_walk using mj hl,mj hb
 exact⟨plainId_quiet plain_eq_loop _,codeAny_builtin entry_eq_loop (by
  rw[km.under_plainId plain_eq_loop _];exact loopP l b xs ys n m d1 d2 s1 s2 hz _ 0 rfl A R _ ⟨hl,hb,he,h⟩)⟩
theorem RcP.tups(hl:s.heap.IsTuple l xs)(hb:s.heap.IsTuple b ys)(hz:xs.size=ys.size)(hu:A.units<pw)(he:∀j (h1:j<xs.size) (h2:j<ys.size),EqP P w A.in1 s xs[j] ys[j]):RcP P w A s (.ref l) (.ref b):=fun E Q q=>by
 obtain⟨⟨c1,d1,t1,s1⟩,ho,hc,n,hd⟩:=hl;obtain⟨⟨c2,d2,t2,s2⟩,ho2,hc2,m,hd2⟩:=hb;simp only at hc hd hc2 hd2;subst hc hd hc2 hd2;refine rg (op:=.Eq) ⟨_,ho,rfl⟩ ⟨_,ho2,rfl⟩ F.slot_tuple_eq (xn F.slot_tuple_eq ⟨_,ho,rfl⟩ F.entry_tuple_eq (F.args_tuple_eq_2 _ _) (S:=fun A R s=>s.heap.get? l=some ⟨.type "tuple",d1,.seq xs n,s1⟩/\s.heap.get? b=some ⟨.type "tuple",d2,.seq ys m,s2⟩/\(∀j (h1:j<xs.size) (h2:j<ys.size),EqP P w A.in1 s xs[j] ys[j])/\R (.ok (.ret (.bool true))) s) ?_ ⟨ho,ho2,he,(fun x=>nomatch x),q⟩) hu;refine .of_wp fun A R s zq=>?_;obtain⟨hl,hb,he,h⟩:=zq;obtain⟨hp,g,d,tk,os⟩:=s;have f2:=AutoSeq1.sub_tuple_tuple
 wp_walk using mj hl,mj hb,vq _ (fun rest b s'=>b.1=none/\s'=⟨hp,g,d,tk,os⟩/\∃i,rest=(xs.toList.zip ys.toList).drop i) _
 case turn =>
  rintro ⟨y,x⟩ rest b s' ⟨hb',rfl,i,hz'⟩;have hlt:i<(xs.toList.zip ys.toList).length:=by
   rcases uf i (xs.toList.zip ys.toList).length with h'|h'
   ·exact h'
   ·rw[List.drop_of_length_le h']at hz';cases hz'
  have hm:i<min xs.size ys.size:=by simpa using hlt
  rw[List.drop_eq_getElem_cons hlt]at hz';injection hz' with hyx hrest;have e1:y=xs[i]'(Γ hm (jq _ _)):=by have:=congrArg Prod.fst hyx;simpa using this
  have e2:x=ys[i]'(Γ hm (Nat.min_le_right _ _)):=by have:=congrArg Prod.snd hyx;simpa using this
  subst e1 e2;refine ε (he i _ _ _ _ ?_)
  wp_walk
  exact⟨rfl,rfl,i+1,hrest⟩
 case fin =>
  rintro ⟨b1,b2⟩ s' ⟨hb',rfl,i,_⟩;simp only at hb';subst hb'
  wp_walk
  exact⟨_,rfl,by simpa [oy.Tuple.tupleCompareSizes,hz] using h⟩
 case h=>exact⟨rfl,rfl,0,rfl⟩
theorem aKt{κ : Type}[DecidableEq κ]{knd:KeyKind P w κ}{nm:String}{a b:Addr}{ka kb:List (κ×Value)}{E:Value->ς->Prop}{Q:Bool->ς->Prop}(ha:(a == ja)=false)(hb:(b == ja)=false)
  (da:s.heap.DictOf knd a ka)(db:s.heap.DictOf knd b kb)(hl:ka.length=kb.length)(hits:∀(i:Nat) (k : κ) (v:Value),ka[i]?=some (k,v)->∃y,vm kb k=some y/\EqP P w A s v y)(h:Q true s):
  gp (ik P w) A (oy.Dict.samePairs nm a b) Q E s:=by
 obtain⟨oa,es,ep,hoa,_,hda,hka,hpa,_⟩:=da;obtain⟨ob,fs,fp,hob,_,hdb,hkb,hpb,_⟩:=db;have la:ka.length=es.size:=by rw[←hpa.length];exact jb
 have lb:kb.length=fs.size:=by rw[←hpb.length];exact jb
 have hz:es.size=fs.size:=by omega
 have hfind:∀k,findBy knd.is fs k=vm kb k:=fun k=>by
  rw[←hpb.find k];clear lb hpb hkb hdb hob hz;obtain⟨l⟩:=fs;simp[findBy]
 unfold oy.Dict.samePairs xt;rw[if_neg (by rw[ha];exact ο),if_neg (by rw[hb];exact ο)];refine ε (π (ε (π (ε (mr hoa hda ?_)))));dsimp only;refine ε (mr hob hdb ?_);rw[if_neg (by rw[hz];simp)];refine ε (ph hoa hda (ε ?_));rw[Std.Legacy.Range.forIn_eq_forIn_range'];simp only[Std.Legacy.Range.size,xl,Nat.add_sub_cancel,Nat.div_one];refine vq _ (fun rest q s'=>s'=s/\q=(none,())/\∃i,rest=ud i (es.size-i)/\i<=es.size) _ ?_ ?_ _ _ ⟨rfl,rfl,0,by simp,gw _⟩
 ·rintro x rest q s' ⟨rfl,rfl,i,hr,hi⟩;have hlt:i<es.size:=by
   rcases uf i es.size with z|z
   ·exact z
   ·rw[Nat.sub_eq_zero_of_le z]at hr;simp at hr
  obtain⟨rfl,hrest⟩ : x=i/\rest=ud (i+1) (es.size-(i+1)):=by
   rw[show es.size-i=(es.size-(i+1))+1 by omega,List.range'_succ]at hr;injection hr with h1 h2;exact⟨h1,h2⟩
  refine ε (mr hoa hda ?_);rw[iy hlt];have hlt':x<ka.length:=by rw[la];exact hlt
  obtain⟨k,v,hkv⟩ : ∃k v,ka[x]=(k,v):=⟨_,_,rfl⟩;have hg:ka[x]?=some (k,v):=by rw[η hlt',hkv]
  obtain⟨hkey,hval⟩:=hpa.get? (i:=x) (e:=es[x]) (k:=k) (v:=v) (by rw[px];exact iy hlt) hg;obtain⟨k',hk',hh⟩:=hka es[x] (Array.getElem_mem hlt);rw[knd.inj _ _ _ hk' hkey]at hh;obtain⟨y,hy,he⟩:=hits x k v hg;show gp _ _ (holding [es[x].key,es[x].val] _ >>= _) _ _ _;rw[hh];refine ε (lh (ε (wpAny_dictFind_of hkey hob hdb hkb ?_)));cases hj:fs.findIdx? fun e=>knd.is k e.key with
  |none=>exact absurd hy (by rw[←hfind k,findBy_of_findIdx?,hj];exact fun z=>nomatch z)
  |some j =>
   obtain⟨hjlt,_,_⟩:=Array.findIdx?_eq_some_iff_getElem.mp hj;have hv':vm kb k=some fs[j].val:=by
    rw[←hfind k,findBy_of_findIdx?,hj];simp[iy hjlt]
   refine ε (mr hob hdb ?_);rw[iy hjlt];have ey:fs[j].val=y:=jg (hv'.symm.trans hy);rw[←ey,←hval]at he;refine lh (he _ _ ?_);show gp _ _ (if (!true)=true then _ else _) _ _ _;rw[if_neg (by decide)];refine ε (ph hoa hda ?_);rw[if_neg (by simp)];exact π ⟨rfl,rfl,x+1,hrest,hlt⟩
 ·rintro q s' ⟨rfl,rfl,_⟩;exact π h
theorem cmpP{κ : Type}[DecidableEq κ]{knd:KeyKind P w κ}{a b:Addr}{ka kb:List (κ×Value)}(ng:Bool){E:Value->ς->Prop}{Q:Value->ς->Prop}(ha:(a == ja)=false)(hb:(b == ja)=false)
  (da:s.heap.DictOf knd a ka)(db:s.heap.DictOf knd b kb)(hl:ka.length=kb.length)(hu:A.units<pw)(hits:∀(i:Nat) (k : κ) (v:Value),ka[i]?=some (k,v)->∃y,vm kb k=some y/\EqP P w A.in1 s v y)(h:Q (.bool (!ng)) s):
  gp (ik P w) A (kn (if ng then .NotEq else .Eq) (.ref a) (.ref b)) Q E s:=by
 cases ng
 ·refine rg (op:=.Eq) da.typeIs db.typeIs PySem.F.slot_dict_eq (mn PySem.F.slot_dict_eq da.typeIs PySem.F.entry_dict_eq ?_ (PySem.F.args_dict_eq_2 _ _)) hu;show gp _ _ (sg "__eq__" ⟨[.ref a,.ref b],[]⟩ >>= _) _ _ s;unfold sg;refine ε (ε (ux da.typeIs ?_));refine π (ε (ub (T:="dict") db.typeIs PySem.F.sub_dict_dict ?_));simp only[Bool.not_true,li,if_false];refine ε (π (ε (π (ε (aKt ha hb da db hl hits (π ⟨_,rfl,(fun x=>nomatch x),h⟩))))))
 ·refine rg (op:=.NotEq) da.typeIs db.typeIs PySem.F.slot_dict_ne (mn PySem.F.slot_dict_ne da.typeIs PySem.F.entry_dict_ne ?_ (PySem.F.args_dict_ne_2 _ _)) hu;show gp _ _ (sg "__ne__" ⟨[.ref a,.ref b],[]⟩ >>= _) _ _ s;unfold sg;refine ε (ε (ux da.typeIs ?_));refine π (ε (ub (T:="dict") db.typeIs PySem.F.sub_dict_dict ?_));simp only[Bool.not_true,li,if_false];refine ε (π (ε (π (ε (aKt ha hb da db hl hits (π ⟨_,rfl,(fun x=>nomatch x),h⟩))))))
end
theorem zip_get{κ : Type}: ∀{ks:List Str}{us:List κ}{i:Nat}{k:Key}{v : κ},(iw (fun k v=>((.inr k:Key),v)) ks us)[i]?=some (k,v)->us[i]?=some v/\∃x,ks[i]?=some x/\k=.inr x
 |[],_,_,_,_,e=>by simp at e
 |_::_,[],_,_,_,e=>by simp at e
 |x::_,_::_,0,_,_,e=>by simp at e;obtain⟨rfl,rfl⟩:=e;exact⟨rfl,x,rfl,rfl⟩
 |_::ks,_::us,i+1,k,v,e=>zip_get (ks:=ks) (us:=us) (i:=i) (k:=k) (v:=v) (by simpa using e)
theorem sW{κ : Type}: ∀{ks:List Str}{us:List κ}{i:Nat}{x:Str}{v : κ},((iw (fun k v=>((.inr k:Key),v)) ks us).map (·.1)).Nodup->ks[i]?=some x->us[i]?=some v->(iw (fun k v=>((.inr k:Key),v)) ks us).find? (fun kv=>decide (kv.1=(.inr x:Key)))=some (.inr x,v)
 |[],_,_,_,_,_,e,_=>by simp at e
 |_::_,[],_,_,_,_,_,e=>by simp at e
 |y::_,_::_,0,_,_,_,e,e2=>by simp at e e2;subst e e2;show List.find? _ (_::_)=_;rw[List.find?_cons_of_pos (by simp)]
 |y::ks,u::us,i+1,x,v,n,e,e2=>by
  have n':((.inr y:Key)::(iw (fun k v=>((.inr k:Key),v)) ks us).map (·.1)).Nodup:=n;have ih:=sW (ks:=ks) (us:=us) (i:=i) (x:=x) (v:=v) (jh.mp n').2 (by simpa using e) (by simpa using e2);show List.find? _ (((.inr y:Key),u)::_)=_;rw[List.find?_cons_of_neg]
  ·exact ih
  ·simp only[decide_eq_true_eq];intro z;refine(jh.mp n').1 ?_;rw[z];exact ib.mpr ⟨_,List.mem_of_find?_eq_some ih,rfl⟩
section
variable {X:Cx}{pins:List (Addr×Obj)}{σ:St}{H:Hp}{s:ς}
theorem Inv.hits{us:List Value}(hd:((iw (fun k v=>((.inr k:Key),v)) ks vs).map (·.1)).Nodup)(e:us.length=vs.length)(h:∀j (h1:j<us.length) (h2:j<vs.length),EqP X.prog X.w A s us[j] vs[j]):
  ∀(i:Nat) (k:Key) (v:Value),(iw (fun k v=>((.inr k:Key),v)) ks us)[i]?=some (k,v)->∃y,vm (iw (fun k v=>((.inr k:Key),v)) ks vs) k=some y/\EqP X.prog X.w A s v y:=by
 intro i k v hi;obtain⟨hu,x,hx,rfl⟩:=zip_get hi;obtain⟨h1,rfl⟩:=θ.mp hu;have h2:i<vs.length:=by omega
 exact⟨vs[i],by unfold vm;rw[sW hd hx (η h2)];rfl,h i h1 h2⟩
theorem aFu(A:km){d:ν}{ds:List ν}(h:A.units+ji (d::ds)<pw):A.units+d.depth<pw/\A.units+ji ds<pw:=by
 have e:ji (d::ds)=max d.depth (ji ds):=rfl;rw[e]at h;omega
theorem aFj:∀{ks:List Str}{ds:List ν},ks.length=ds.length->qi (iw (fun k d=>(PyData.str k,d)) ks ds)=ji ds
 |[],[],_=>rfl
 |_::ks,d::ds,e=>by
  show max (max 0 d.depth) (qi (iw (fun k d=>(PyData.str k,d)) ks ds))=max d.depth (ji ds);rw[aFj (jr e),Nat.zero_max]
theorem nD{ks ks':List Str}{ds ds':List ν}(l:ks.length=ds.length)(l':ks'.length=ds'.length)(e:iw (fun k d=>(PyData.str k,d)) ks ds=iw (fun k d=>(PyData.str k,d)) ks' ds'):ks=ks'/\ds=ds':=by
 induction ks generalizing ds ks' ds' with
 |nil=>cases ds with
  |nil=>cases ks' with
   |nil=>cases ds' with
    |nil=>exact⟨rfl,rfl⟩
    |cons _ _=>cases l'
   |cons _ _=>cases ds' with
    |nil=>cases l'
    |cons _ _=>cases e
  |cons _ _=>cases l
 |cons k ks ih=>cases ds with
  |nil=>cases l
  |cons d ds=>cases ks' with
   |nil=>cases e
   |cons k' ks'=>cases ds' with
    |nil=>cases e
    |cons d' ds' =>
     injection e with e1 e2;injection e1 with e3 e4;injection e3 with e5;obtain⟨z1,z2⟩:=ih (jr l) (jr l') e2;exact⟨by rw[e5,z1],by rw[e4,z2]⟩
mutual
theorem Inv.eqT(I:Inv X pins σ H s):∀{A:km}{x y:V}{d d':ν}{u v:Value},Dt false X.K H x d->d=d'->Dt false X.K H y d'->RelV x u->RelV y v->A.units+d.depth<pw->EqP X.prog X.w A s u v
 |_,_,_,_,_,_,_,.non,e,h2,r1,r2,hu=>by subst e;cases h2;cases r1;cases r2;exact .of (EqAt.same _)
 |_,_,_,_,_,_,_,.bl b,e,h2,r1,r2,hu=>by subst e;cases h2;cases r1;cases r2;exact .of (EqAt.same _)
 |_,_,_,_,_,_,_,.int i,e,h2,r1,r2,hu=>by
  subst e;cases h2;obtain⟨t,rfl⟩:=r1;obtain⟨t',rfl⟩:=r2;exact .of (by simpa using EqAt.int_int i t i t')
 |_,_,_,_,_,_,_,.str x,e,h2,r1,r2,hu=>by
  subst e;cases h2;obtain⟨t,rfl⟩:=r1;obtain⟨t',rfl⟩:=r2;exact .of (by simpa using EqAt.str_str x t x t')
 |A,_,_,_,_,_,_,.lst h _ ds,e,h2,r1,r2,hu=>by
  subst e;cases h2 with
  |lst h' _ ds' =>
   cases r1;cases r2;obtain⟨its,rv,⟨o,m,g1,g2,_,g3⟩,_⟩:=I.list h;obtain⟨its',rv',⟨o',m',g1',g2',_,g3'⟩,_⟩:=I.list h';have hz:its.toArray.size=its'.toArray.size:=by rw[Ξ,Ξ,←rv.length,←rv'.length,ds.length,ds'.length]
   have hu':A.units+ji _+1<pw:=hu;exact .refs fun _=>.lists ⟨_,g1,g2,_,g3⟩ ⟨_,g1',g2',_,g3'⟩ hz (by omega) fun j h1 h2=>by
    have:=Inv.eqTs I (A:=A.in1) ds rfl ds' rv rv' (by show A.units+1+_<pw;omega) j (by simpa using h1) (by simpa using h2);simpa using this
 |A,_,_,_,_,_,_,.tup h ds,e,h2,r1,r2,hu=>by
  subst e;cases h2 with
  |tup h' ds' =>
   cases r1;cases r2;obtain⟨its,rv,⟨o,g1,g2,m,g3⟩,_⟩:=I.tuple h;obtain⟨its',rv',⟨o',g1',g2',m',g3'⟩,_⟩:=I.tuple h';have hz:its.toArray.size=its'.toArray.size:=by rw[Ξ,Ξ,←rv.length,←rv'.length,ds.length,ds'.length]
   have hu':A.units+ji _+1<pw:=hu;exact .refs fun _=>.tups ⟨_,g1,g2,_,g3⟩ ⟨_,g1',g2',_,g3'⟩ hz (by omega) fun j h1 h2=>by
    have:=Inv.eqTs I (A:=A.in1) ds rfl ds' rv rv' (by show A.units+1+_<pw;omega) j (by simpa using h1) (by simpa using h2);simpa using this
 |A,_,_,_,_,_,_,.dct h l ds,e,h2,r1,r2,hu=>by
  cases h2 with
  |non=>cases e
  |bl=>cases e
  |int=>cases e
  |str=>cases e
  |lst=>cases e
  |tup=>cases e
  |dct h' l' ds' =>
   injection e with hd;obtain⟨rfl,e2⟩:=nD (l.trans ds.length) (l'.trans ds'.length) hd;cases r1;cases r2;obtain⟨n1,us,rv,dd1⟩:=I.dkz h l;obtain⟨n2,us',rv',dd2⟩:=I.dkz h' l';have e3:us.length=us'.length:=by rw[←rv.length,←rv'.length,←l,←l']
   obtain⟨_,_,_,_,_,_,_,_,nd⟩:=id dd2;have hu':A.units+(qi _+1)<pw:=hu;rw[aFj (l.trans ds.length)]at hu';refine .refs fun _ E Q q=>cmpP false n1 n2 dd1 dd2 (by simp[e3]) (by omega) (Inv.hits nd e3 ?_) q;exact Inv.eqTs I (A:=A.in1) ds e2 ds' rv rv' (by show A.units+1+_<pw;omega)
theorem Inv.eqTs(I:Inv X pins σ H s):∀{A:km}{xs ys:List V}{ds ds':List ν}{us vs:List Value},Dts false X.K H xs ds->ds=ds'->Dts false X.K H ys ds'->kO xs us->kO ys vs->A.units+ji ds<pw->∀j (h1:j<us.length) (h2:j<vs.length),EqP X.prog X.w A s us[j] vs[j]
 |_,_,_,_,_,_,_,.nil,e,_,r1,_,_=>by cases r1;exact fun j h1=>absurd h1 (ui _)
 |A,_,_,_,_,_,_,.cons h t,e,h2,r1,r2,hu=>by
  subst e;cases h2 with
  |cons h' t' =>
   cases r1 with
   |cons q1 q2 =>
    cases r2 with
    |cons q1' q2' =>
     intro j h1 h2;cases j with
     |zero=>exact Inv.eqT I h rfl h' q1 q1' (aFu A hu).1
     |succ j=>exact Inv.eqTs I t rfl t' q2 q2' (aFu A hu).2 j (Nat.lt_of_succ_lt_succ h1) (Nat.lt_of_succ_lt_succ h2)
end
def rEqT (K:Δ):R2:=fun x y H Q=>∃d:ν,Dt false K H x d/\Dt false K H y d/\d.depth<=60/\Q (.bl true) H
theorem aFl(hu:X.A.units+64<pw):OpR X (kn .Eq) (rEqT X.K):=by
 intro pins s σ H x y v u Q I rx ry h;obtain⟨d,hx,hy,hd,q⟩:=h;have fin:EP X pins σ Q (.bool true) s:=⟨.bl true,H,I,rfl,q⟩;cases hx with
 |lst h _ ds =>
  cases hy with
  |lst h' _ ds' =>
   cases rx;cases ry;obtain⟨its,rv,⟨o,m,g1,g2,_,g3⟩,_⟩:=I.list h;obtain⟨its',rv',⟨o',m',g1',g2',_,g3'⟩,_⟩:=I.list h';have hd':ji _+1<=60:=hd;refine RcP.lists ⟨_,g1,g2,_,g3⟩ ⟨_,g1',g2',_,g3'⟩ (by rw[Ξ,Ξ,←rv.length,←rv'.length,ds.length,ds'.length]) (by omega) (fun j h1 h2=>?_) _ _ fin;have:=Inv.eqTs I (A:=X.A.in1) ds rfl ds' rv rv' (by show X.A.units+1+_<pw;omega) j (by simpa using h1) (by simpa using h2);simpa using this
 |tup h ds =>
  cases hy with
  |tup h' ds' =>
   cases rx;cases ry;obtain⟨its,rv,⟨o,g1,g2,m,g3⟩,_⟩:=I.tuple h;obtain⟨its',rv',⟨o',g1',g2',m',g3'⟩,_⟩:=I.tuple h';have hd':ji _+1<=60:=hd;refine RcP.tups ⟨_,g1,g2,_,g3⟩ ⟨_,g1',g2',_,g3'⟩ (by rw[Ξ,Ξ,←rv.length,←rv'.length,ds.length,ds'.length]) (by omega) (fun j h1 h2=>?_) _ _ fin;have:=Inv.eqTs I (A:=X.A.in1) ds rfl ds' rv rv' (by show X.A.units+1+_<pw;omega) j (by simpa using h1) (by simpa using h2);simpa using this
 |dct h l ds =>
  generalize e:ue _=dd at hy;cases hy with
  |non=>cases e
  |bl=>cases e
  |int=>cases e
  |str=>cases e
  |lst=>cases e
  |tup=>cases e
  |dct h' l' ds' =>
   injection e with e;obtain⟨rfl,e2⟩:=nD (l.trans ds.length) (l'.trans ds'.length) e;cases rx;cases ry;obtain⟨n1,us,rv,dd1⟩:=I.dkz h l;obtain⟨n2,us',rv',dd2⟩:=I.dkz h' l';have e3:us.length=us'.length:=by rw[←rv.length,←rv'.length,←l,←l']
   obtain⟨_,_,_,_,_,_,_,_,nd⟩:=id dd2;have hd':qi _+1<=60:=hd;rw[aFj (l.trans ds.length)]at hd';exact cmpP false n1 n2 dd1 dd2 (by simp[e3]) (by omega) (Inv.hits nd e3 (Inv.eqTs I (A:=X.A.in1) ds e2 ds' rv rv' (by show X.A.units+1+_<pw;omega))) fin
 |non=>cases hy;cases rx;cases ry;exact RcAt.none_none _ _ _ _ fin
 |bl b=>cases hy;cases rx;cases ry;exact RcAt.bool_bool b b _ _ _ _ (by rw[beq_self_eq_true];exact fin)
 |int i=>cases hy;obtain⟨t,rfl⟩:=rx;obtain⟨t',rfl⟩:=ry;exact RcAt.int_int i t i t' _ _ _ _ (by rw[beq_self_eq_true];exact fin)
 |str z=>cases hy;obtain⟨t,rfl⟩:=rx;obtain⟨t',rfl⟩:=ry;exact RcAt.str_str z t z t' _ _ _ _ (by rw[beq_self_eq_true];exact fin)
def rNeT (K:Δ):R2:=fun x y H Q=>(∃(a b:Addr) (ks:List Str) (xs ys:List V) (ds:List ν),x=.ref a/\y=.ref b/\H a=some (.dK (iw (fun k v=>((.inr k:Key),v)) ks xs))/\H b=some (.dK (iw (fun k v=>((.inr k:Key),v)) ks ys))/\ks.length=xs.length/\ks.length=ys.length/\Dts false K H xs ds/\Dts false K H ys ds/\ji ds<=60/\Q (.bl false) H)\/∃d:ν,Dat K H x d/\Dat K H y d/\vo d=true/\Q (.bl false) H
theorem aNr(hu:X.A.units+64<pw):OpR X (kn .NotEq) (rNeT X.K):=by
 intro pins s σ H x y v u Q I rx ry h;rcases h with⟨a,b,ks,xs,ys,ds,rfl,rfl,h,h',l,l',d1,d2,hd,q⟩|⟨d,hx,hy,sh,q⟩
 ·cases rx;cases ry;obtain⟨n1,us,rv,dd1⟩:=I.dkz h l;obtain⟨n2,us',rv',dd2⟩:=I.dkz h' l';have e3:us.length=us'.length:=by rw[←rv.length,←rv'.length,←l,←l']
  obtain⟨_,_,_,_,_,_,_,_,nd⟩:=id dd2;exact cmpP true n1 n2 dd1 dd2 (by simp[e3]) (by omega) (Inv.hits nd e3 (Inv.eqTs I (A:=X.A.in1) d1 rfl d2 rv rv' (by show X.A.units+1+_<pw;omega))) ⟨.bl false,H,I,rfl,q⟩
 ·exact aIp hu pins s σ H x y v u Q I rx ry ⟨d,d,hx,hy,sh,sh,by rw[eqv_refl d (canLay_of_shaped sh)];exact q⟩
theorem sN:vD X (.builtin "len") (fun xs H Q=>∃p kvs,xs=[.ref p]/\H p=some (.dK kvs)/\Q (.int kvs.length) H):=by
 intro pins s σ H xs us Q I r h;obtain⟨p,kvs,rfl,hp,q⟩:=h;obtain⟨u,rfl,rx⟩:=r.one;cases rx;obtain⟨z,hd,vs,rel,dd⟩:=dN I.hok hp;refine call_len_dict hd dd ?_ ⟨.int kvs.length,H,I.tok _,⟨_,by rw[rel.length]⟩,q⟩;rw[←rel.length];have:χ=16777216:=ic;omega
theorem aHb:MtR X "dict.clear" (fun x vs H Q=>∃(a:Addr) (kvs:List (Key×V)),x=.ref a/\vs=[]/\H a=some (.dK kvs)/\Q .non (upd H a (.dK []))):=by
 intro pins s σ H x vs v us Q I rx rv h;obtain⟨a,kvs,rfl,rfl,ha,q⟩:=h;cases rx;have hus:=rv.zero;subst hus;obtain⟨z,hd,vs,rel,dd⟩:=dN I.hok ha;refine xn PySem.F.slot_dict_clear dd.typeIs PySem.F.entry_dict_clear (PySem.F.args_dict_clear_1 _) (meets_dict_clear (kT X.prog X.w) a) ⟨vs,dd,(by rw[←rel.length];exact z),fun h' dd' hs=>⟨.non,_,?_,rfl,q⟩⟩;have he:∃q,h'.get? a=some q:=let ⟨q,_,_,hq,_⟩:=dd'; ⟨q,hq⟩;exact eG (t':=s.toks) I (by rw[ha];exact iu) hs he (iU (gw _) hd .nil dd')
end
def aCk (P:Nat->List (Key×V)->Hp->Prop) (i k:Nat) (js:List Nat) (σ:St) (σ3:St) (ys:List (Key×V)) (H:Hp):Prop:=P (i+1) ys H/\∃os:St,os.length=k/\σ3=os++vE js σ
theorem aCt{K:Δ}{b:Bool}{xs ys:List V}{k:Nat}{g:TG}{tc:TT}{tk tv:TE}{Q:VK}{H1:Hp}(P:Addr->Nat->List (Key×V)->Hp->Prop)(he:ys.length=xs.length)(h0:∀D,H1 D=none->P D 0 [] (upd H1 D (.dK [])))
  (hl:∀D i zs H,i<=xs.length->P D i zs H->Sq2 K b H a1 xs/\Sq2 K c2 H a2 ys)
  (hs:∀D i x y zs H p (os:St),os.length=k->xs[i]?=some x->ys[i]?=some y->P D i zs H->H p=none->g (.ref p) (os++vE js σ) (upd H p (.tup [x,y])) fun σ3 H3=>tc σ3 H3 fun b H4=>if b=true then tk σ3 H4 fun y H5=>tv σ3 H5 fun v H6=>∃key,y=kV key/\H6 D=some (.dK zs)/\zs.length<χ/\aCk (P D) i k js σ σ3 (putK zs key v) (upd H6 D (.dK (putK zs key v))) else aCk (P D) i k js σ σ3 zs H4)
  (hd:∀D zs H,P D xs.length zs H->Q (.ref D) H):aDc (ItzM K b c2 a1 a2) k js g tc tk tv σ Q H1:=by
 intro D hD;refine⟨fun i m σ' zs H=>m=xs.length-i/\i<=xs.length/\P D i zs H/\∃os:St,os.length=k/\σ'=os++vE js σ,⟨xs.length,by simp,gw _,h0 D hD,ve k none,nj,rfl⟩,?_⟩;rintro i m σ' zs H ⟨rfl,hi,p,os,ho,rfl⟩;obtain⟨q1,q2⟩:=hl D i zs H hi p
 by_cases hlt:i<xs.length
 ·have hl2:i<ys.length:=by omega
  refine .inr ⟨⟨xs,ys,xs[i],ys[i],q1,q2,by simp[hlt],by simp[hl2]⟩,aCk (P D) i k js σ,fun σ3 zs H3 z=>⟨xs.length-(i+1),by omega,rfl,hlt,z.1,z.2⟩,fun v H' y=>?_⟩;obtain⟨x,y,pa,rfl,hn,rfl,hx,hy⟩:=y;exact hs D i x y zs H pa os ho (hx xs q1) (hy ys q2) p hn
 ·have e:i=xs.length:=by omega
  subst e;exact .inl ⟨⟨xs,ys,q1,q2,.inl (μ _)⟩,hd D zs H p⟩
end L2
namespace L2
open PySem PySem.Spec PyProof.Rows
section
variable {X:Cx}
theorem rP:∀{ss:List Str}{us:List Value},kO (ss.map V.str) us->StrsAre us ss
 |[],us,h=>by cases h;exact .nil
 |x::ss,us,h=>by
  rw[jp]at h;cases h with
  |cons r rs =>
   obtain⟨t,rfl⟩:=r;exact .cons _ _ (rP rs)
theorem aCu(h:StrsAre us ss):kO (ss.map V.str) us:=by
 induction h with
 |nil=>exact .nil
 |cons y t _ ih=>exact .cons ⟨t,rfl⟩ ih
theorem pJ:vD X (.type "dict") (fun xs H Q=>∃(a:Addr) (kvs:List (Key×V)),xs=[.ref a]/\H a=some (.dK kvs)/\∀l,H l=none->Q (.ref l) (upd H l (.dK kvs))):=by
 intro pins s σ H xs us Q I r h;obtain⟨a,kvs,rfl,ha,q⟩:=h;obtain⟨u,rfl,ru⟩:=r.one;cases ru;obtain⟨z,hd,vs,rel,dd⟩:=dN I.hok ha;refine kt_call_dict hd dd (by rw[←rel.length];exact z) fun h' dd' hs=>?_;refine⟨.ref s.heap.objs.size,_,I.laid (t':=s.toks) (fun b o e=>?_) (μ _) (iU z (beq_eq_false_iff_ne.mpr (kh (ii I.big))) rel dd'),rfl,q _ (I.hok.fresh (μ _))⟩;exact(hs.2 b (ii (gx e))).trans (ω _ e)
end
def leS (a b:Str):Prop:=ltCps b.cps.toList a.cps.toList=false
theorem iN : leS a b ↔ a.cps.toList<=b.cps.toList:=by
 unfold leS;rw[ltCps_eq,decide_eq_false_iff_not];exact List.not_lt
theorem aHj(h:leS a b)(h':leS b c):leS a c:=iN.mpr (List.le_trans (iN.mp h) (iN.mp h'))
theorem aKp(h:leS a b)(h':leS b a):a=b:=Str.ext' (Array.toList_inj.mp (List.le_antisymm (iN.mp h) (iN.mp h')))
theorem fF:∀{l:List Str}{p:Str},risingS p l=true->∀x∈l,leS p x
 |[],_,_,x,hx=>by cases hx
 |y::l,p,h,x,hx=>by
  have h':(!ltCps y.cps.toList p.cps.toList&&risingS y l)=true:=h;rw[jt,Bool.not_eq_true']at h';have h1:leS p y:=h'.1;rcases υ.mp hx with rfl|hx
  ·exact h1
  ·exact aHj h1 (fF h'.2 x hx)
theorem sA{x:Str}{l:List Str}(h:sortedS (x::l)=true):sortedS l=true:=by
 cases l with
 |nil=>rfl
 |cons y l =>
  have h':(!ltCps y.cps.toList x.cps.toList&&risingS y l)=true:=h;rw[jt]at h';exact h'.2
theorem pM:∀{a b:List Str},sortedS a=true->sortedS b=true->a.Perm b->a=b
 |[],b,_,_,p=>p.nil_eq
 |x::a,[],_,_,p=>absurd p.length_eq (by simp)
 |x::a,y::b,ha,hb,p=>by
  have e:x=y:=by
   have h1:x∈y::b:=p.mem_iff.mp (ψ ..);have h2:y∈x::a:=p.mem_iff.mpr (ψ ..);rcases υ.mp h1 with h1|h1
   ·exact h1
   rcases υ.mp h2 with h2|h2
   ·exact h2.symm
   exact aKp (fF ha y h2) (fF hb x h1)
  subst e;rw[pM (sA ha) (sA hb) ((List.perm_cons x).mp p)]
def kvD (ks:List Str) (ds:List ν):List (ν×ν):=iw (fun k d=>(PyData.str k,d)) ks ds
def xJ (c:Kd->ν->ν->Prop):List (Str×Kd)->List ν->List ν->Prop
 |[],[],[]=>True
 |f::fs,d::ds,e::es=>c f.2 d e/\xJ c fs ds es
 |_,_,_=>False
def Rec (S:List Shp):Nat->Kd->ν->ν->Prop
 |_,.num w,d,e=>∃v:Nat,d=.int v/\e=.int v/\v<256 ^ w
 |0,_,_,_=>False
 |n+1,.pick is,d,e=>∃(j i:Nat) (a b:ν),is[j]?=some i/\d=.tuple [.int j,a]/\e=.tuple [.int j,b]/\Rec S n (.nest i) a b
 |n+1,.many m k,d,e=>∃ds es,d=.list ds/\e=.list es/\xJ (Rec S n) ((Kd.many m k).parts S) ds es
 |n+1,.nest i,d,e=>∃ds es ks es',d=.dict (aZ ((Kd.nest i).parts S) ds)/\e=.dict (kvD ks es')/\ks.length=es'.length/\(kvD ks es').Perm (aZ ((Kd.nest i).parts S) es)/\xJ (Rec S n) ((Kd.nest i).parts S) ds es
theorem xJ.len : ∀{fs:List (Str×Kd)}{ds es:List ν},xJ c fs ds es->fs.length=ds.length/\fs.length=es.length
 |[],[],[],_=>⟨rfl,rfl⟩
 |_::_,_::_,_::_,h=>⟨congrArg (·+1) (xJ.len h.2).1,congrArg (·+1) (xJ.len h.2).2⟩
theorem xJ.get{c:Kd->ν->ν->Prop}: ∀{fs:List (Str×Kd)}{ds es:List ν}{i:Nat}{f:Str×Kd},xJ c fs ds es->fs[i]?=some f->∃d e,ds[i]?=some d/\es[i]?=some e/\c f.2 d e
 |_::_,d::_,e::_,0,_,h,z=>by cases z;exact⟨d,e,rfl,rfl,h.1⟩
 |_::_,_::_,_::_,i+1,f,h,z=>xJ.get (i:=i) (f:=f) h.2 z
theorem xJ.imp{c:Kd->ν->ν->Prop}{c':Kd->ν->Prop}(hc:∀k d e,c k d e->c' k d):∀{fs:List (Str×Kd)}{ds es:List ν},xJ c fs ds es->yC c' fs ds
 |[],[],[],_=>iu
 |_::_,_::_,_::_,h=>⟨hc _ _ _ h.1,xJ.imp hc h.2⟩
theorem xJ.app : ∀{fs gs:List (Str×Kd)}{ds es ds' es':List ν},xJ c fs ds es->xJ c gs ds' es'->xJ c (fs++gs) (ds++ds') (es++es')
 |[],_,[],[],_,_,_,h=>h
 |_::_,_,_::_,_::_,_,_,h,g=>⟨h.1,xJ.app h.2 g⟩
def lkD:List (ν×ν)->Str->Option ν
 |[],_=>none
 | (.str k,d)::r,x=>if k=x then some d else lkD r x
 |_::r,x=>lkD r x
theorem uJ:∀{ks:List Str}{ds:List ν}{x:Str}{d:ν},ks.Nodup->(PyData.str x,d)∈kvD ks ds->lkD (kvD ks ds) x=some d
 |[],_,_,_,_,h=>by cases h
 |_::_,[],_,_,_,h=>by cases h
 |k::ks,e::ds,x,d,hn,h=>by
  show(if k=x then some e else lkD (kvD ks ds) x)=some d;rcases υ.mp (show(PyData.str x,d)∈(PyData.str k,e)::kvD ks ds from h) with h|h
  ·injection h with h1 h2;injection h1 with h1;rw[if_pos h1.symm,h2]
  ·have hx:x∈ks:=by
    obtain⟨i,hi⟩:=jz.mp h;unfold kvD at hi;rw[xu]at hi;cases h1:ks[i]? with
    |none=>rw[h1]at hi;cases hi
    |some y =>
     cases h2:ds[i]? with
     |none=>rw[h1,h2]at hi;cases hi
     |some z =>
      rw[h1,h2]at hi;injection hi with hi;injection hi with hi _;injection hi with hi;rw[←hi];exact ι h1
   rw[if_neg (fun z:k=x=>(jh.mp hn).1 (z ▸ hx)),uJ (jh.mp hn).2 h]
theorem zX:∀(fs:List (Str×Kd)) (ds:List ν),aZ fs ds=kvD (fs.map (·.1)) ds
 |[],_=>rfl
 |_::_,[]=>rfl
 |f::fs,d::ds=>by show(PyData.str f.1,d)::aZ fs ds=(PyData.str f.1,d)::kvD (fs.map (·.1)) ds;rw[zX fs ds]
theorem xO:∀{ks:List Str}{ds:List ν},ks.length=ds.length->(kvD ks ds).map (·.1)=ks.map PyData.str
 |[],[],_=>rfl
 |k::ks,d::ds,h=>by show PyData.str k::(kvD ks ds).map (·.1)=_;rw[xO (jr h)];rfl
theorem tK:∀{ks:List Str}{ds:List ν},ks.length=ds.length->(kvD ks ds).map (·.2)=ds
 |[],[],_=>rfl
 |k::ks,d::ds,h=>by show d::(kvD ks ds).map (·.2)=_;rw[tK (jr h)]
theorem nO{a b:List Str}(h:(a.map PyData.str).Perm (b.map PyData.str)):a.Perm b:=by
 have e:∀l:List Str,(l.map PyData.str).map (fun d=>match d with | .str x=>x|_=>Str.empty)=l:=fun l=>by
  rw[jf];exact List.map_id' l
 have:=h.map (fun d=>match d with|PyData.str x=>x|_=>Str.empty)
 rwa [e,e]at this
theorem aEr{ks:List Str}{ds:List ν}{i:Nat}(h1:ks[i]?=some x)(h2:ds[i]?=some d):(PyData.str x,d)∈kvD ks ds:=by
 refine ι (i:=i) ?_;unfold kvD;rw[xu,h1,h2]
structure DRec (c:Kd->ν->ν->Prop) (fs:List (Str×Kd)) (ds:List ν) (ks:List Str) (es':List ν):Prop where
 l:ks.length=es'.length
 p:ks.Perm (fs.map (·.1))
 g:∀(i:Nat) (f:Str×Kd),fs[i]?=some f->∃d e,ds[i]?=some d/\lkD (kvD ks es') f.1=some e/\c f.2 d e
theorem drec{fs:List (Str×Kd)}{es':List ν}{ks:List Str}(hn:(fs.map (·.1)).Nodup)(l:ks.length=es'.length)(p:(kvD ks es').Perm (aZ fs es))(h:xJ c fs ds es):DRec c fs ds ks es':=by
 have l2:=h.len.2;have pk:ks.Perm (fs.map (·.1)):=by
  have:=p.map (·.1);rw[zX,xO l,xO (by rw[δ];exact l2)]at this;exact nO this
 refine⟨l,pk,fun i f hf=>?_⟩;obtain⟨d,e,h1,h2,h3⟩:=h.get hf;refine⟨d,e,h1,uJ (pk.symm.nodup hn) (p.mem_iff.mpr ?_),h3⟩;rw[zX];exact aEr (by rw[gu,hf];rfl) h2
def F2 (c:ν->ν->Prop):List ν->List ν->Prop
 |[],[]=>True
 |d::ds,e::es=>c d e/\F2 c ds es
 |_,_=>False
def FNd (S:List Shp):Prop:=∀s∈S,(s.2.map (·.1)).Nodup
theorem uG(h:FNd S)(i:Nat):(((Kd.nest i).parts S).map (·.1)).Nodup:=by
 show((S.getD i _).2.map (·.1)).Nodup;rw[Θ];cases e:S[i]? with
 |none=>exact vg
 |some s=>exact h s (ι e)
theorem xU(hG:Good S){k:Kd}(hp:k.Pd)(hk:k.Fit S.length):k.parts S≠[]/\(k.parts S).length<=6:=by
 rcases hp with⟨i,rfl⟩|⟨n,q,rfl⟩
 ·have hs:S[i]?=some S[i]:=η (show i<S.length from hk);rw[qY hs];exact⟨hG.ne i _ hs,hG.few i _ hs⟩
 ·have h1:=hk.1;have h2:=hk.2.1;show(ir n).map _≠[]/\((ir n).map _).length<=6;rw[δ,jo];exact⟨(fun z=>by have:=congrArg List.length z;rw[δ,jo]at this;simp at this;omega),h2⟩
theorem eJ : ∀{n:Nat}{k:Kd}{d:ν},Can S n k d->Rec S n k d d
 |0,.num w,d,h=>by obtain⟨v,h1,h2⟩:=h;exact⟨v,h1,h1,h2⟩
 |0,.nest _,_,h=>h.elim
 |0,.many _ _,_,h=>h.elim
 |0,.pick _,_,h=>h.elim
 |n+1,.num w,d,h=>by obtain⟨v,h1,h2⟩:=h;exact⟨v,h1,h1,h2⟩
 |n+1,.pick is,d,h=>by
  obtain⟨j,i,a,h1,h2,h3⟩:=h;exact⟨j,i,a,a,h1,h2,h2,eJ h3⟩
 |n+1,.many m k,d,h=>by
  obtain⟨ds,rfl,h⟩:=h;have:∀(fs:List (Str×Kd)) (ds:List ν),yC (Can S n) fs ds->xJ (Rec S n) fs ds ds:=by
   intro fs
   induction fs with
   |nil=>intro ds h;cases ds with
    |nil=>exact iu
    |cons _ _=>exact h.elim
   |cons f fs ih=>intro ds h;cases ds with
    |nil=>exact h.elim
    |cons d ds=>exact⟨eJ h.1,ih ds h.2⟩
  exact⟨ds,ds,rfl,rfl,this _ _ h⟩
 |n+1,.nest i,d,h=>by
  obtain⟨ds,rfl,h⟩:=h;have:∀(fs:List (Str×Kd)) (ds:List ν),yC (Can S n) fs ds->xJ (Rec S n) fs ds ds:=by
   intro fs
   induction fs with
   |nil=>intro ds h;cases ds with
    |nil=>exact iu
    |cons _ _=>exact h.elim
   |cons f fs ih=>intro ds h;cases ds with
    |nil=>exact h.elim
    |cons d ds=>exact⟨eJ h.1,ih ds h.2⟩
  refine⟨ds,ds,((Kd.nest i).parts S).map (·.1),ds,rfl,?_,by rw[δ];exact h.len,?_,this _ _ h⟩
  ·show ue _=_;rw[zX]
  ·rw[zX]
def cnL (c:ν->Nat):List ν->Nat
 |[]=>0
 |d::ds=>c d+cnL c ds
def cn:Nat->ν->Nat
 |_,.int _=>1
 |0,_=>0
 |r+1,.list ds=>cnL (cn r) ds
 |r+1,.tuple [.int _,e]=>cn r e
 |r+1,.dict kvs=>cnL (cn r) (kvs.map (·.2))
 |_,_=>0
def nbL (c:ν->Nat) (f:ν->Nat->ν):List ν->Nat->List ν
 |[],_=>[]
 |d::ds,i=>f d i::nbL c f ds (i+c d)
def nb:Nat->ν->Nat->ν
 |_,.int _,i=>.int i
 |0,d,_=>d
 |r+1,.list ds,i=>.list (nbL (cn r) (nb r) ds i)
 |r+1,.tuple [.int j,e],i=>.tuple [.int j,nb r e i]
 |r+1,.dict kvs,i=>.dict (iw (fun (p:ν×ν) d=>(p.1,d)) kvs (nbL (cn r) (nb r) (kvs.map (·.2)) i))
 |_,d,_=>d
def nuL (f:ν->List Int):List ν->List Int
 |[]=>[]
 |d::ds=>f d++nuL f ds
def nu:Nat->ν->List Int
 |_,.int v=>[v]
 |0,_=>[]
 |r+1,.list ds=>nuL (nu r) ds
 |r+1,.tuple [.int _,e]=>nu r e
 |r+1,.dict kvs=>nuL (nu r) (kvs.map (·.2))
 |_,_=>[]
section
variable {X:Cx}{pins:List (Addr×Obj)}{σ:St}{H:Hp}{s:ς}
theorem Inv.thaw(I:Inv X pins σ H s)(e:H a=some (.frz o u))(h0:∀o' u',X.H₀ a≠some (.frz o' u')):Inv X pins σ (upd H a u) s:=by
 have ne:∀{b:Addr},H b=none->b≠a:=fun {b} n z=>by rw[z,e]at n;cases n
 have nt:∀{b:Addr}{w:HO},H b=some w->(∀o' u',w≠.frz o' u')->b≠a:=fun {b w} q n z=>by rw[z,e]at q;exact n _ _ (jg q).symm
 have hb:=I.base;have n0:∀{b:Addr}{w:HO},X.H₀ b=some w->H b=some w->(∀o' u',w=.frz o' u'->b≠a)->upd H a u b=some w:=fun {b w} _ q2 n=>by
  by_cases z:b=a
  ·subst z;rw[e]at q2;exact absurd rfl (n _ _ (jg q2).symm)
  ·rw[jS z];exact q2
 refine⟨I.ok,I.os,I.bare,⟨hb.keep,hb.slot,fun b ob q n hx=>?_,hb.there,fun b xs q=>?_,fun b o' u' q=>?_,fun b ps q=>?_⟩,I.loc,I.cell,?_,fun x c q=>?_,fun p hp=>?_,?_,I.len⟩
 ·have:=hb.free b ob q n hx;rw[jS (ne this)];exact this
 ·have:=hb.tups b xs q;rw[jS (nt this fun _ _ z=>by cases z)];exact this
 ·have:=hb.frzs b o' u' q;rw[jS (fun z=>by rw[z]at q;exact h0 _ _ q)];exact this
 ·obtain⟨more,h⟩:=hb.tbls b ps q;exact⟨more,by rw[jS (nt h fun _ _ z=>by cases z)];exact h⟩
 ·have:=I.free;rw[jS (ne this)];exact this
 ·have:=I.freeC x c q;rw[jS (ne this)];exact this
 ·obtain⟨p1,p2,p3⟩:=I.pin p hp;exact⟨p1,by rw[jS (ne p2)];exact p2,p3⟩
 ·intro b w q;have own:∀c z,H c=some (.own z)->upd H a u c=some (.own z):=fun c z r=>by rw[jS (nt r fun _ _ z=>by cases z)];exact r
  have tup:∀c xs,H c=some (.tup xs)->upd H a u c=some (.tup xs):=fun c xs r=>by rw[jS (nt r fun _ _ z=>by cases z)];exact r
  by_cases z:b=a
  ·subst z;rw[jR]at q;cases q;have:=I.hok b _ e;exact(show qO X.prog X.w H s.heap b u from this.2).stay (fun _ _ _ r=>r) (fun c r=>own c b r) fun c xs r=>tup c xs r
  ·rw[jS z]at q;exact(I.hok b w q).stay (fun _ _ _ r=>r) (fun c r=>own c b r) fun c xs r=>tup c xs r
theorem aEk{t:TE}(h:PE X e t):PE X e (fun σ H Q=>t σ H fun v H1=>Q v H1\/∃a o u,H1 a=some (.frz o u)/\(∀o' u',X.H₀ a≠some (.frz o' u'))/\Q v (upd H1 a u)):=by
 intro pins s σ H Q I q;refine thn (h pins s σ H _ I q) fun v s1 zq=>?_;obtain⟨x,H1,I1,r1,q1⟩:=zq;rcases q1 with q1|⟨a,o,u,e1,h0,q1⟩
 ·exact⟨x,H1,I1,r1,q1⟩
 ·exact⟨x,_,I1.thaw e1 h0,r1,q1⟩
end
section
variable {X:Cx}
theorem gR:vD X (.builtin "sorted") (fun xs H Q=>∃(a:Addr) (ss:List Str),xs=[.ref a]/\SqL X.K H a (ss.map V.str)/\ss.length<64/\∀(l:Addr) (ss':List Str),ss'.Perm ss->sortedS ss'=true->H l=none->Q (.ref l) (upd H l (.lst (ss'.map V.str)))):=by
 intro pins s σ H xs us Q I r h;obtain⟨a,ss,rfl,hS,hl,q⟩:=h;obtain⟨u,rfl,ru⟩:=r.one;cases ru;obtain⟨its,rv,pl,_⟩:=I.list hS;have hlen:=rv.length;rw[δ]at hlen;refine sorted_strs pl.isList (rP rv) (by omega) fun out ss' h1 hp hs=>?_;have hf:H (s.heap.objs.size+1)=none:=I.hok.fresh (rj _);obtain⟨e,he⟩:=sortedAll_at s.heap its out;have hv:=aCu h1;refine⟨.ref (s.heap.objs.size+1),_,I.laid (t':=s.toks) (fun b o z=>sortedAll_old z) (rj _) ?_,rfl,q _ ss' hp hs hf⟩;have hz:(ss'.map V.str).length<=χ:=by rw[δ,hp.length_eq,ic];omega
 exact⟨hz,out.toList,e,hv,by simpa [seqObj] using he⟩
theorem sH : ∀{kvs:List (Key×V)}{vs:List (Key×Value)},KV kvs vs->∀{us:List Value},us.length=vs.length->(∀(j:Nat) (v:Value),us[j]?=some v->∃k x,vs[j]?=some (k,x)/\(kT P w).is k v=true)->kO (kvs.map fun kv=>kV kv.1) us
 |_,_,.nil,us,hl,_=>by cases us with|nil=>exact .nil|cons _ _=>cases hl
 |_,_,.cons (a:=p) (b:=q) r t,us,hl,h=>by
  cases us with
  |nil=>cases hl
  |cons u us =>
   obtain⟨k,x,h1,h2⟩:=h 0 u rfl;have e1:q=(k,x):=jg h1;refine .cons ?_ (sH t (jr hl) fun j v hv=>h (j+1) v hv);show RelV (kV p.1) u;rw[r.1,e1];exact pG h2
theorem fX(hc:X.calm=true):vD X (.type "list") (fun xs H Q=>∃(a:Addr) (kvs:List (Key×V)),xs=[.ref a]/\H a=some (.dK kvs)/\kvs.length<=1000/\∀l,H l=none->Q (.ref l) (upd H l (.lst (kvs.map fun kv=>kV kv.1)))):=by
 intro pins s σ H xs us Q I r h;obtain⟨a,kvs,rfl,ha,hz,q⟩:=h;obtain⟨u,rfl,ru⟩:=r.one;cases ru;obtain⟨z,hd,vs,rel,dd⟩:=dN I.hok ha;obtain⟨ep,hat⟩:=dd.dictAt;have hl:kvs.length=vs.length:=wd rel;refine PySem.W.kdl_call (PySem.W.kdl_dict (knd:=kT X.prog X.w) (kvs:=vs) (ep:=ep) hd) (I.ok.hd hc) hat (by rw[ic];omega) fun h' tk acc c' hk hD hacc=>?_;refine⟨.ref s.heap.objs.size,_,I.laid hk (μ _) (show qO X.prog X.w _ h' _ (.lst (kvs.map fun kv=>kV kv.1)) from⟨?_,acc.toList,c',?_,by simpa using hD⟩),rfl,q _ (I.hok.fresh (μ _))⟩
 ·rw[δ,ic];omega
 ·exact sH rel (by rw[jb];exact hacc.1) fun j v e=>hacc.2 j v (by rw[←px];exact e)
end
end L2
namespace L2
open PySem PySem.Spec PyProof.Rows PySem.SeqAt
mutual
inductive Tr (z:Bool) (K:Δ) (H:Hp):V->ν->List Addr->Prop
 |int (i:Int):Tr z K H (.int i) (.int i) []
 |lst {a:Addr}{xs:List V}{ds:List ν}{fs:List Addr} : H a=some (.lst xs)->Trs z K H xs ds fs->a∉fs->Tr z K H (.ref a) (.list ds) (a::fs)
 |tup {a:Addr}{i:Int}{x:V}{d:ν}{fs:List Addr} : SqT K H a [.int i,x]->Tr z K H x d fs->Tr z K H (.ref a) (.tuple [.int i,d]) fs
 |dct {a:Addr}{ks:List Str}{xs:List V}{ds:List ν}{fs:List Addr} : H a=some (.dK (iw (fun k v=>((.inr k:Key),v)) ks xs))->ks.length=xs.length->Trs z K H xs ds fs->a∉fs->Tr z K H (.ref a) (.dict (kvD ks ds)) (a::fs)
inductive Trs (z:Bool) (K:Δ) (H:Hp):List V->List ν->List Addr->Prop
 |nil:Trs z K H [] [] []
 |cons {x:V}{xs:List V}{d:ν}{ds:List ν}{fs gs:List Addr} : Tr z K H x d fs->Trs z K H xs ds gs->(z=true->∀a∈fs,a∉gs)->Trs z K H (x::xs) (d::ds) (fs++gs)
end
mutual
theorem Tr.dt{K:Δ}: ∀{x:V}{d:ν}{fs:List Addr},Tr z K H x d fs->Dt false K H x d
 |_,_,_,.int i=>.int i
 |_,_,_,.lst h t _=>.lst (SqL.of h) (fun z=>by cases z) (Trs.dts t)
 |_,_,_,.tup h t=>.tup h (.cons (.int _) (.cons (Tr.dt t) .nil))
 |_,_,_,.dct h l t _=>.dct h l (Trs.dts t)
theorem Trs.dts{K:Δ}: ∀{xs:List V}{ds:List ν}{fs:List Addr},Trs z K H xs ds fs->Dts false K H xs ds
 |_,_,_,.nil=>.nil
 |_,_,_,.cons h t _=>.cons (Tr.dt h) (Trs.dts t)
end
theorem Trs.len{K:Δ}(h:Trs z K H xs ds fs):xs.length=ds.length:=h.dts.length
def Fr (ms:List Addr) (H H':Hp):Prop:=∀b o,b∉ms->H b=some o->H' b=some o
def Mu (H:Hp) (ms:List Addr):Prop:=∀b∈ms,(∃xs,H b=some (.lst xs))\/∃kvs,H b=some (.dK kvs)
theorem Fr.trans(a:Fr ms H H1)(b:Fr ms H1 H2):Fr ms H H2:=fun c o n e=>b c o n (a c o n e)
theorem Fr.refl : Fr ms H H:=fun _ _ _ e=>e
theorem Fr.mono{ns:List Addr}(a:Fr ms H H1)(h:∀x∈ms,x∈ns):Fr ns H H1:=fun c o n e=>a c o (fun z=>n (h c z)) e
theorem Fr.of(g:jG H H1):Fr ms H H1:=fun c o _ e=>g c o e
theorem Fr.upd{ms:List Addr}{a:Addr}(h:a∈ms):Fr ms H (L2.upd H a o):=fun c u n e=>by rw[jS (fun z:c=a=>n (by rw[z];exact h))];exact e
theorem Fr.same{H0:Hp}(g:jG H0 H)(f:Fr ms H H')(h:∀a∈ms,H0 a=none):jG H0 H':=fun c o e=>f c o (fun z=>by rw[h c z]at e;cases e) (g c o e)
theorem Mu.ne{H:Hp}(h:Mu H ms)(e:H a=some o)(h1:∀xs,o≠.lst xs)(h2:∀kvs,o≠.dK kvs):a∉ms:=fun z=>by
 rcases h a z with⟨xs,q⟩|⟨kvs,q⟩
 ·rw[e]at q;exact h1 _ (jg q)
 ·rw[e]at q;exact h2 _ (jg q)
theorem Mu.app(h:Mu H ms)(h':Mu H ns):Mu H (ms++ns):=fun b hb=>(iz.mp hb).elim (h b) (h' b)
theorem Mu.cons{H:Hp}{a:Addr}{ns:List Addr}(h:(∃xs,H a=some (.lst xs))\/∃kvs,H a=some (.dK kvs))(h':Mu H ns):Mu H (a::ns):=fun b hb=>by
 rcases υ.mp hb with rfl|hb
 ·exact h
 ·exact h' b hb
theorem Mu.same(h:Mu H ms)(g:jG H H'):Mu H' ms:=fun b hb=>(h b hb).imp (fun ⟨x,e⟩=>⟨x,g _ _ e⟩) fun ⟨x,e⟩=>⟨x,g _ _ e⟩
def Nt (H:Hp) (ms:List Addr):Prop:=∀b∈ms,(∀xs,H b≠some (.tup xs))/\∀o xs,H b≠some (.frz o (.tup xs))
theorem Mu.nt(h:Mu H ms):Nt H ms:=fun b hb=>by
 rcases h b hb with⟨xs,q⟩|⟨kvs,q⟩ <;> refine⟨fun _ z=>?_,fun _ _ z=>?_⟩ <;> rw[q]at z <;> cases z
theorem Fr.tp{K:Δ}(f:Fr ms H H')(m:Nt H ms)(h:SqT K H a xs):SqT K H' a xs:=by
 rcases h with (h|⟨o,h⟩)|h
 ·exact .inl (.inl (f _ _ (fun z=>(m _ z).1 _ h) h))
 ·exact .inl (.inr ⟨o,f _ _ (fun z=>(m _ z).2 _ _ h) h⟩)
 ·exact .inr h
theorem But.none{H H1:Hp}(g:But a H H1)(k:H1 a=some o)(h:H1 b=none):H b=none:=by
 cases e:H b with
 |none=>rfl
 |some u =>
  have n:b≠a:=fun z=>by rw[z,k]at h;cases h
  have:=g b u n e;rw[h]at this;cases this
mutual
theorem Tr.mu{K:Δ}: ∀{x:V}{d:ν}{fs:List Addr},Tr z K H x d fs->Mu H fs
 |_,_,_,.int i=>fun b hb=>by cases hb
 |_,_,_,.lst h t _=>Mu.cons (.inl ⟨_,h⟩) (Trs.mu t)
 |_,_,_,.tup h t=>Tr.mu t
 |_,_,_,.dct h l t _=>Mu.cons (.inr ⟨_,h⟩) (Trs.mu t)
theorem Trs.mu{K:Δ}: ∀{xs:List V}{ds:List ν}{fs:List Addr},Trs z K H xs ds fs->Mu H fs
 |_,_,_,.nil=>fun b hb=>by cases hb
 |_,_,_,.cons h t _=>(Tr.mu h).app (Trs.mu t)
end
mutual
theorem Tr.frN{K:Δ}(f:Fr ms H H')(m:Nt H ms):∀{x:V}{d:ν}{fs:List Addr},Tr z K H x d fs->(∀b∈fs,b∉ms)->Tr z K H' x d fs
 |_,_,_,.int i,_=>.int i
 |_,_,_,.lst h t n,g=>.lst (f _ _ (g _ (ψ ..)) h) (Trs.frN f m t fun b hb=>g b (ρ _ hb)) n
 |_,_,_,.tup h t,g=>.tup (f.tp m h) (Tr.frN f m t g)
 |_,_,_,.dct h l t n,g=>.dct (f _ _ (g _ (ψ ..)) h) l (Trs.frN f m t fun b hb=>g b (ρ _ hb)) n
theorem Trs.frN{K:Δ}(f:Fr ms H H')(m:Nt H ms):∀{xs:List V}{ds:List ν}{fs:List Addr},Trs z K H xs ds fs->(∀b∈fs,b∉ms)->Trs z K H' xs ds fs
 |_,_,_,.nil,_=>.nil
 |_,_,_,.cons h t n,g=>.cons (Tr.frN f m h fun b hb=>g b (ke _ hb)) (Trs.frN f m t fun b hb=>g b (gq _ hb)) n
end
theorem Tr.fr{K:Δ}(f:Fr ms H H')(m:Mu H ms)(h:Tr z K H x d fs)(n:∀b∈fs,b∉ms):Tr z K H' x d fs:=h.frN f m.nt n
theorem Trs.fr{K:Δ}(f:Fr ms H H')(m:Mu H ms)(h:Trs z K H xs ds fs)(n:∀b∈fs,b∉ms):Trs z K H' xs ds fs:=h.frN f m.nt n
theorem Tr.same{K:Δ}(g:jG H H')(h:Tr z K H x d fs):Tr z K H' x d fs:=h.fr (ms:=[]) (.of g) (fun b hb=>by cases hb) fun b _ z=>by cases z
theorem Trs.same{K:Δ}(g:jG H H')(h:Trs z K H xs ds fs):Trs z K H' xs ds fs:=h.fr (ms:=[]) (.of g) (fun b hb=>by cases hb) fun b _ z=>by cases z
theorem Trs.snoc{K:Δ}(h:Tr true K H x d gs):∀{xs:List V}{ds:List ν}{fs:List Addr},Trs true K H xs ds fs->(∀a∈fs,a∉gs)->Trs true K H (xs++[x]) (ds++[d]) (fs++gs)
 |_,_,_,.nil,_=>by
  have:=Trs.cons (z:=true) h .nil (fun _ a _ z=>by cases z)
  rwa [mi]at this
 |_,_,_,.cons (fs:=f1) (gs:=f2) h1 t1 n1,g=>by
  have:=Trs.cons h1 (Trs.snoc h t1 fun a ha=>g a (gq _ ha)) (fun _ a ha hb=>(iz.mp hb).elim (n1 rfl a ha) (g a (ke _ ha)))
  rwa [←kj]at this
theorem Trs.cut{K:Δ}: ∀{j:Nat}{xs:List V}{ds:List ν}{fs:List Addr}{x:V},Trs true K H xs ds fs->xs[j]?=some x->∃d f1 f2 f3,ds[j]?=some d/\fs=f1++(f2++f3)/\Trs true K H (xs.take j) (ds.take j) f1/\Tr true K H x d f2/\Trs true K H (xs.drop (j+1)) (ds.drop (j+1)) f3/\(∀a∈f1,a∉f2/\a∉f3)/\∀a∈f2,a∉f3
 |0,_,_,_,_,.cons (d:=d) (fs:=f2) (gs:=f3) h t n,e=>by
  cases e;exact⟨d,[],f2,f3,rfl,rfl,.nil,h,t,fun a z=>(by cases z),n rfl⟩
 |j+1,_,_,_,_,.cons (d:=d) (fs:=f0) (gs:=f9) h t n,e=>by
  obtain⟨d',f1,f2,f3,h1,rfl,h3,h4,h5,h6,h7⟩:=Trs.cut (j:=j) t e;refine⟨d',f0++f1,f2,f3,h1,by rw[kj],.cons h h3 fun _ a ha hb=>n rfl a ha (ke _ hb),h4,h5,fun a ha=>?_,h7⟩;rcases iz.mp ha with ha|ha
  ·exact⟨fun z=>n rfl a ha (gq _ (ke _ z)),fun z=>n rfl a ha (gq _ (gq _ z))⟩
  ·exact h6 a ha
 |_,_,_,_,_,.nil,e=>by cases e
def New (H:Hp) (fs:List Addr):Prop:=∀a∈fs,H a=none
theorem New.app(h:New H fs)(h':New H gs):New H (fs++gs):=fun a ha=>(iz.mp ha).elim (h a) (h' a)
theorem New.cons{H:Hp}{a:Addr}{gs:List Addr}(h:H a=none)(h':New H gs):New H (a::gs):=fun b hb=>by
 rcases υ.mp hb with rfl|hb
 ·exact h
 ·exact h' b hb
theorem New.back(h:New H' fs)(g:jG H H'):New H fs:=fun a ha=>g.free (h a ha)
theorem Mu.not{H:Hp}(h:Mu H ms)(n:H a=none):a∉ms:=fun z=>by
 rcases h a z with⟨_,e⟩|⟨_,e⟩ <;> rw[n]at e <;> cases e
theorem New.dis(h:New H gs)(m:Mu H fs):∀a∈fs,a∉gs:=fun a ha hb=>m.not (h a hb) ha
theorem Tr.put{K:Δ}{H:Hp}{a:Addr}(h:Tr z K H x d fs)(n:a∉fs)(m:(∃xs,H a=some (.lst xs))\/∃kvs,H a=some (.dK kvs)):Tr z K (upd H a o) x d fs:=h.fr (ms:=[a]) (Fr.upd (Φ.mpr rfl)) (fun b hb=>by rw[Φ.mp hb];exact m) fun b hb z=>n (by rw[←Φ.mp z];exact hb)
theorem Trs.put{K:Δ}{H:Hp}{a:Addr}(h:Trs z K H xs ds fs)(n:a∉fs)(m:(∃xs,H a=some (.lst xs))\/∃kvs,H a=some (.dK kvs)):Trs z K (upd H a o) xs ds fs:=h.fr (ms:=[a]) (Fr.upd (Φ.mpr rfl)) (fun b hb=>by rw[Φ.mp hb];exact m) fun b hb z=>n (by rw[←Φ.mp z];exact hb)
section
variable {X:Cx}{pins:List (Addr×Obj)}{σ:St}{H:Hp}{s:ς}
theorem aLv{κ : Type}{ks:List Str}{us:List κ}{i:Nat}{x:Str}{v : κ}(hn:ks.Nodup)(h1:ks[i]?=some x)(h2:us[i]?=some v):(iw (fun k v=>((.inr k:Key),v)) ks us).find? (fun kv=>decide (kv.1=(.inr x:Key)))=some (.inr x,v):=by
 refine sW ?_ h1 h2;have:∀(ks:List Str) (us:List κ),ks.Nodup->((iw (fun k v=>((.inr k:Key),v)) ks us).map (·.1)).Nodup:=by
  intro ks
  induction ks with
  |nil=>intro us _;exact vg
  |cons k ks ih=>intro us hn;cases us with
   |nil=>exact vg
   |cons u us =>
    show((.inr k:Key)::(iw (fun k v=>((.inr k:Key),v)) ks us).map (·.1)).Nodup;refine jh.mpr ⟨fun z=>?_,ih us (jh.mp hn).2⟩;obtain⟨kv,hkv,e⟩:=ib.mp z;obtain⟨j,hj⟩:=jz.mp hkv;obtain⟨k',v'⟩:=kv;obtain⟨_,y,hy,e2⟩:=zip_get hj;have e3:(wk y:Key)=.inr k:=e2.symm.trans e;exact(jh.mp hn).1 (by rw[←qf e3];exact ι hy)
 exact this ks us hn
mutual
theorem Tr.any{K:Δ}: ∀{x:V}{d:ν}{fs:List Addr},Tr true K H x d fs->Tr false K H x d fs
 |_,_,_,.int i=>.int i
 |_,_,_,.lst h t n=>.lst h (Trs.any t) n
 |_,_,_,.tup h t=>.tup h (Tr.any t)
 |_,_,_,.dct h l t n=>.dct h l (Trs.any t) n
theorem Trs.any{K:Δ}: ∀{xs:List V}{ds:List ν}{fs:List Addr},Trs true K H xs ds fs->Trs false K H xs ds fs
 |_,_,_,.nil=>.nil
 |_,_,_,.cons h t _=>.cons (Tr.any h) (Trs.any t) fun z=>by cases z
end
theorem Trs.at{K:Δ}: ∀{xs:List V}{ds:List ν}{fs:List Addr}{j:Nat}{x:V},Trs z K H xs ds fs->xs[j]?=some x->∃d gs,ds[j]?=some d/\Tr z K H x d gs/\∀a∈gs,a∈fs
 |_,_,_,0,_,.cons (d:=d) (fs:=f) h _ _,e=>by cases e;exact⟨d,f,rfl,h,fun a ha=>ke _ ha⟩
 |_,_,_,j+1,_,.cons _ t _,e=>by
  obtain⟨d,gs,h1,h2,h3⟩:=Trs.at (j:=j) t e;exact⟨d,gs,h1,h2,fun a ha=>gq _ (h3 a ha)⟩
 |_,_,_,_,_,.nil,e=>by cases e
end
end L2
namespace L2
open PySem PySem.Spec PyProof.Rows
def lD (h:kq) (d:Addr) (es:Array vj) (ep:Nat):Prop:=∃o,h.get? d=some o/\o.ExactDict/\o.data=.dict es ep
section
variable {prog:io}{w:jl}{A:km}{E:Value->ς->Prop}{s:ς}
theorem lD.ty{s:ς}(h:lD s.heap d es ep):s.TypeIs (.ref d) "dict":=let ⟨o,e,c,_⟩:=h; ⟨o,e,c.1⟩
theorem pW(d:Addr)(hd:(d == ja)=false):
  MeetsIn prog w (oy.«dict.__len__» ⟨[.ref d],[]⟩) (fun _ R s=>∃es ep,lD s.heap d es ep/\R (.ok (.ret (.int es.size s.toks))) { s with toks:=s.toks+1 }) :=
 .of_wp fun A R s ⟨es,ep,hm,h⟩=>by
  obtain⟨o,ho,hc,hdat⟩:=hm;show gp _ _ (dictSize d >>= _) _ _ s;unfold dictSize;refine ε (ε (mr ho hdat (π ?_)));show gp _ _ (oy.Dict.pendingCount d >>= _) _ _ s;refine ε (wpAny_pendingCount_other hd ?_);refine wpAny_ret_mkInt ?_;rw[Nat.add_zero];exact h
theorem tO{d:Addr}{Q:Value->ς->Prop}(hd:(d == ja)=false)(hm:lD s.heap d es ep)(hfit:(es.size:Int)<2 ^ 63)
  (h:Q (.int es.size (s.toks+1)) { s with toks:=s.toks+1+1 }):gp (ik prog w) A (oy.«len» ⟨[.ref d],[]⟩) (fun fin s'=>∃r,fin=.done (.ret r)/\Q r s') E s:=by
 unfold oy.«len»;refine ε (m:=oneArg "len" _) (π ?_);refine ε (m:=callSpecial? (.ref d) (ζ "__len__")) (wpAny_callSpecial?_slot (name:=ζ "__len__") (lD.ty hm) F.slot_dict_len
  (xn F.slot_dict_len (lD.ty hm) F.entry_dict_len (F.args_dict_len_1 _) (pW d hd) ⟨es,ep,hm,?_⟩))
 show gp _ _ _ _ _ { s with toks:=s.toks+1 };refine ε (lh (π ?_));refine ε (wpAny_letGo ?_);show gp _ _ (if ((es.size:Nat):Int)<0 then _ else _) _ _ _;rw[if_neg (by omega)];show gp _ _ (if ((es.size:Nat):Int)≥2 ^ 63 then _ else _) _ _ _;rw[if_neg (by omega)];exact ε (wpAny_mkInt (π ⟨_,rfl,h⟩))
theorem tE{d:Addr}{Q:Value->ς->Prop}(hd:(d == ja)=false)(hm:lD s.heap d es ep)(hfit:(es.size:Int)<2 ^ 63)
  (h:Q (.int es.size (s.toks+1)) { s with toks:=s.toks+1+1 }):gp (ik prog w) A (call (.builtin "len") [.ref d]) Q E s :=
 Calls.call_function_entry kind_len plain_len entry_len (args_len1 _) (tO hd hm hfit h)
theorem aIq{d:Addr}{Q:Value->ς->Prop}(hd:(d == ja)=false)(hm:lD s.heap d es ep)
  (hQ:Q (.ref s.heap.objs.size) { s with heap:=s.heap.push { cls:=.type "dict_keyiterator",data:=.fields #[.ref d,.int 0 0,.int es.size 0,.int ep 0] } }):
  gp (ik prog w) A (pyIter (.ref d)) Q E s:=by
 obtain⟨o,ho,hc,hdat⟩:=id hm;have hT:s.TypeIs (.ref d) "dict":=⟨o,ho,hc.1⟩;refine wpAny_pyIter_slot hT F.slot_dict_iter (mn F.slot_dict_iter hT F.entry_dict_iter ?_ (F.args_dict_iter_1 _));unfold oy.«dict.__iter__»;refine ε ?_;unfold oy.Dict.dictSlotNone;refine ε (ux hT ?_);show gp _ _ (pure (jm d)) _ _ s;refine π ?_;show gp _ _ (xt d >>= _) _ _ s;unfold xt;rw[if_neg (by rw[hd];exact ο)];refine ε (π ?_);refine ε (mr ho hdat ?_);refine ε (ph ho hdat ?_);have hsz:es.size=es.size:=rfl;refine ε (qo (π ⟨_,rfl,"dict_keyiterator",_,⟨_,gm _ rfl,rfl⟩,ol.lookup,?_⟩));simpa [rawInt,hsz] using hQ
theorem aIm{es:Array vj}{Q:Option Value->ς->Prop}(hit:s.heap.IsKeyIter it d i es.size ep)
  (hm:lD s.heap d es ep)(hx:es[i]?=some e)
  (hQ:∀h',h'.IsKeyIter it d (i+1) es.size ep->qc it s.heap h'->Q (some e.key) { s with heap:=h' }):
  gp (ik prog w) A (pyNext (.ref it)) Q E s:=by
 obtain⟨o,ho,hc,hd⟩:=id hit;obtain⟨od,hod,hcd,hdd⟩:=id hm;unfold pyNext;refine ε (wpAny_attempt (wpAny_callSpecial?_slot (name:=ζ "__next__") hit.typeIs ol
  (mn ol hit.typeIs F.entry_dict_keyiterator_next ?_ (F.args_dict_keyiterator_next_1 _))))
 refine ε (π ?_);refine ε ?_;refine ε ?_
 first|refine ε (qj hit.typeIs (π ?_))|refine ε (tq hit.typeIs (π ?_))
 refine ε (wpAny_fieldsOf ho hd ?_);have hown:yr "dict_keyiterator" = false:=by decide
 simp only[hown,li,if_false];show gp _ _ (if (jm d == mz)=true then _ else _) _ _ s;rw[if_neg (show ¬ ((jm d == mz)=true) from ο)];refine ε (π ?_);refine ε (mr hod hdd ?_);have hsz:es.size=es.size:=rfl;rw[if_neg (by simp)];refine ε (π ?_);refine ε (ph hod hdd ?_);rw[if_neg (by simp)];refine π ?_;have hlt:i<es.size:=(Array.getElem?_eq_some_iff.mp hx).1;have hlt':i<es.size:=hlt;have hkey:es[i]=e:=(Array.getElem?_eq_some_iff.mp hx).2;simp only[show ¬ ((i:Int)<0) from by omega,if_false,ql,iy hlt'];refine ε ?_
 first|refine ε (qj hit.typeIs (π ?_))|refine ε (tq hit.typeIs (π ?_))
 refine ε (wpAny_isOneOf_keyiter hit.typeIs ?_);show gp _ _ (setField (.ref it) 1 (rawInt ((i:Int)+1)) >>= _) _ _ s;refine ε (wpAny_setField ho hd (by simp) ?_);have hit':(s.heap.update it (Obj.mapFields (·.setIfInBounds 1 (rawInt ((i:Int)+1))))).IsKeyIter it d (i+1) es.size ep :=
  ⟨_,uw _ ho (Obj.isFreed_of_fields (ww hd _)),(Obj.cls_mapFields ..).trans hc,by rw[ww hd];simp[rawInt]⟩
 refine ε (lh ?_);refine ε (wpAny_isOneOf_keyiter (s:={ s with heap:=s.heap.update it (Obj.mapFields (·.setIfInBounds 1 (rawInt ((i:Int)+1)))) }) hit'.typeIs ?_);show gp _ _ (pure es[i].key) _ _ _;exact π (π ⟨_,rfl,π (by rw[hkey];exact hQ _ hit' (vz ..))⟩)
theorem aMy{es:Array vj}{Q:Option Value->ς->Prop}(hh:A.handled=none)(hit:s.heap.IsKeyIter it d i es.size ep)
  (hm:lD s.heap d es ep)(hx:es[i]?=none)
  (hQ:∀h',kq.ExtBut it s.heap h'->Q none { s with heap:=h' }):gp (ik prog w) A (pyNext (.ref it)) Q E s:=by
 obtain⟨o,ho,hc,hd⟩:=id hit;obtain⟨od,hod,hcd,hdd⟩:=id hm;unfold pyNext;refine ε (wpAny_attempt (wpAny_callSpecial?_slot (name:=ζ "__next__") hit.typeIs ol
  (mn ol hit.typeIs F.entry_dict_keyiterator_next ?_ (F.args_dict_keyiterator_next_1 _))))
 refine ε (π ?_);refine ε ?_;refine ε ?_
 first|refine ε (qj hit.typeIs (π ?_))|refine ε (tq hit.typeIs (π ?_))
 refine ε (wpAny_fieldsOf ho hd ?_);have hown:yr "dict_keyiterator" = false:=by decide
 simp only[hown,li,if_false];show gp _ _ (if (jm d == mz)=true then _ else _) _ _ s;rw[if_neg (show ¬ ((jm d == mz)=true) from ο)];refine ε (π ?_);refine ε (mr hod hdd ?_);have hsz:es.size=es.size:=rfl;rw[if_neg (by simp)];refine ε (π ?_);refine ε (ph hod hdd ?_);rw[if_neg (by simp)];refine π ?_;have hge:es.size<=i:=by simpa using hx
 simp only[show ¬ ((i:Int)<0) from by omega,if_false,ql,Array.getElem?_eq_none hge];refine ε ?_
 first|refine ε (qj hit.typeIs (π ?_))|refine ε (tq hit.typeIs (π ?_))
 show gp _ _ (setField (.ref it) 0 .none >>= _) _ _ s;refine ε (wpAny_setField ho hd (by simp) ?_);show gp _ _ (newExc (.type "StopIteration") [] >>= _) _ _ _;refine ε ?_;simp only[newExc,newTuple];refine ε (qo ?_ (by size_fits));refine ε (m:=firstArgMember _ _) (wpAny_of_eq (a:=mz) (by first|rfl|(simp only[firstArgMember];rfl)) ?_);refine qo ?_ (by size_fits);simp only[raiseNew];refine ε (wpAny_handled ?_);rw[show A.in1.handled=none from hh];refine ε (π (wpAny_throw ?_));refine ε (ub (T:="StopIteration") (b:=true) ⟨_,gm _ rfl,rfl⟩ isSubtype_stop ?_);exact π (hQ _ (((vz ..).extBut.push _).push _))
end
section
variable {prog:io}{w:jl}{A:km}{E:Value->ς->Prop}{s:ς}
theorem aBv{key:Value}{stored:List Value}{Q:Bool->ς->Prop}(hq:∀v,(v=key\/v∈stored)->∀Q:Bool->ς->Prop,Q true s->gp (ik prog w) A (eqIsQuiet 8 v) Q E s)(h:Q false s):gp (ik prog w) A (tableMayTell key stored) Q E s:=by
 unfold tableMayTell
 split
 ·exact π h
 ·refine ε (hq key (.inl rfl) _ ?_);simp only[Bool.not_true,li,if_false];refine ε ?_;refine vq _ (fun rest r s'=>s'=s/\r=(none,())/\∀v∈rest,v∈stored) _ ?_ ?_ _ _ ⟨rfl,rfl,fun _ h=>h⟩
  ·rintro x rest r s' ⟨rfl,rfl,hr⟩;refine ε (hq x (.inr (hr x ψ)) _ ?_);simp only[Bool.not_true,li,if_false];exact π ⟨rfl,rfl,fun v hv=>hr v (ρ _ hv)⟩
  ·rintro r s' ⟨rfl,rfl,_⟩;exact π h
theorem shr_{α : Type}{a : α}{M : α->Prop}{G:Prop}(h:(∀k,k=a->M k)->G)(g:∀k,k=a->M k):G:=h g
theorem ex_of{α : Type}{a b : α}(h:a=b):∃k,k=a/\k=b:=⟨a,rfl,h⟩
theorem wp_if{α : Type}{c:Prop}[Decidable c]{x y:Sem α}{Q : α->ς->Prop}(h1:gp (ik prog w) A x Q E s)(h2:gp (ik prog w) A y Q E s):gp (ik prog w) A (if c then x else y) Q E s:=by
 split <;> assumption
theorem wN{d:Addr}{key:Value}{hk:Int}{Q:Option Nat->ς->Prop}(sm:Nat->Bool)
  (ho:s.heap.get? d=some o)(hd:o.data=.dict es ep)
  (hs:∀x t,key=.str x t->(es.all fun e=>isExactStrKey e.key)=false)
  (ha:∀a,key=.ref a->(es.any fun e=>e.key == key&&e.hash != hk)=false)
  (he:∀j e,es[j]?=some e->∀Q:Bool->ς->Prop,Q (sm j) s->gp (ik prog w) A (eqBool e.key key) Q E s)
  (hq:∀v,(v=key\/∃e∈es,e.key=v)->∀Q:Bool->ς->Prop,Q true s->gp (ik prog w) A (eqIsQuiet 8 v) Q E s)
  (hu:∀i j,sm i=true->sm j=true->i=j)(hh:∀j e,es[j]?=some e->sm j=true->e.hash=hk)
  (hnone:(∀j,j<es.size->sm j=false)->Q none s)(hsome:∀j,j<es.size->sm j=true->Q (some j) s):
  gp (ik prog w) A (dictFind d key hk) Q E s:=by
 have hskp:∀j,j<es.size->((es[j]?.map (·.hash)) == some hk)=false->sm j=false:=fun j hj z=>by
  cases hz:sm j with
  |false=>rfl
  |true =>
   have:=hh j es[j] (iy hj) hz;rw[iy hj,sq,this]at z;simp at z
 have hend:∀(i:Nat) (hit:Option Nat),[]=(ud i (es.size-i)).filter (fun i=>(es[i]?.map (·.hash)) == some hk)->((hit=none/\∀j,j<i->j<es.size->sm j=false)\/∃j,hit=some j/\j<es.size/\sm j=true)->Q hit s:=by
  intro i hit hr hH;rcases hH with⟨rfl,hno⟩|⟨j,rfl,h1,h2⟩
  ·refine hnone fun j hj=>?_;rcases uf j i with h|h
   ·exact hno j h hj
   ·refine hskp j hj ?_;have:=List.filter_eq_nil_iff.mp hr.symm j (List.mem_range'_1.mpr ⟨h,by omega⟩);simpa using this
  ·exact hsome j h1 h2
 have inE:∀v∈(xo es.size (fun i=>es[i]?.map (·.hash)) hk).filterMap (fun i=>es[i]?.map (·.key)),∃e∈es,e.key=v:=by
  intro v hv;obtain⟨i,_,hi⟩:=wo.mp hv;cases hei:es[i]? with
  |none=>rw[hei]at hi;cases hi
  |some e =>
   rw[hei]at hi;exact⟨e,Array.mem_of_getElem? hei,by simpa using hi⟩
 have plain:gp (ik prog w) A (dictWalkPlain d key hk es (xo es.size (fun i=>es[i]?.map (·.hash)) hk)) Q E s:=by
  unfold dictWalkPlain;refine ε ?_;refine vq _
   (fun rest b s'=>s'=s/\b=(none,())/\∃i,rest=(ud i (es.size-i)).filter (fun i=>(es[i]?.map (·.hash)) == some hk)/\i<=es.size/\∀j,j<i->j<es.size->sm j=false) _ ?_ ?_ _ _
   ⟨rfl,rfl,0,by rw[xo,List.range_eq_range',xl],gw _,fun _ h=>absurd h (ui _)⟩
  ·rintro x rest b s' ⟨rfl,rfl,i,hr,hi,hno⟩;obtain⟨q1,q2,q3,hskip,hrest⟩:=filter_range'_cons _ _ _ _ _ hr.symm;have lx:x<es.size:=by omega
   have ex:es[x]?=some es[x]:=iy lx;have nxt:sm x=false->∃i,rest=(ud i (es.size-i)).filter (fun i=>(es[i]?.map (·.hash)) == some hk)/\i<=es.size/\∀j,j<i->j<es.size->sm j=false:=fun hne =>
    ⟨x+1,by rw[hrest];congr 2;omega,lx,fun j hji hj=>by
     rcases uf j i with h|h
     ·exact hno j h hj
     ·rcases uf j x with h'|h'
      ·exact hskp j hj (hskip j h h')
      ·have:j=x:=by omega
       subst this;exact hne⟩
   rw[ex];dsimp only
   by_cases eh:(es[x].hash == hk)=true
   ·rw[if_pos eh];refine ε (ph ho hd (ε (he x _ ex _ (ε (ph ho hd ?_)))));show gp _ _ (if (ep != ep)=true then _ else _) _ E _;rw[if_neg (by simp)];cases hz:sm x with
    |true=>exact ε (wx (π (π (hsome x lx hz))))
    |false=>exact ε (wx (π ⟨rfl,rfl,nxt hz⟩))
   ·rw[if_neg eh];refine π ⟨rfl,rfl,nxt (hskp x lx ?_)⟩;rw[ex,sq];simpa using eh
  ·rintro b s' ⟨rfl,rfl,i,hr,hi,hno⟩;exact π (hend i none hr (.inl ⟨rfl,hno⟩))
 unfold dictFind
 try with_reducible refine lh ?_
 refine ε (mr ho hd ?_);dsimp only;generalize hst:(xo es.size (fun i=>es[i]?.map (·.hash)) hk).filterMap (fun i=>es[i]?.map (·.key))=stored at inE ⊢;apply shr_ (a:=key)
 ·intro slow;obtain⟨k2,ek⟩ : ∃k,k=key:=⟨_,rfl⟩;rw[←ek];have hv':((k2::stored).all carriedByValue=true) ∨ ¬ ((k2::stored).all carriedByValue=true):=Classical.em _
  split
  all_goals first|(rename_i x t;rw[if_neg (by rw[hs x t ek.symm];exact ο)])|skip
  all_goals rcases hv' with hv|hv
  all_goals first|(rw[if_pos hv,ek];exact plain)|rw[if_neg hv]
  all_goals first|(have hn:=‹∀(s:Str) (tok:Tok),k2=Value.str s tok->False›;split)|skip
  all_goals first|rw[if_neg (by rw[ek,ha _ ek.symm];exact ο)]|skip
  all_goals (try dsimp only)
  all_goals (
   refine wp_if ?_ ?_
   all_goals first|refine ε (π ?_)|refine ε (aBv (fun v hv=>hq v (Or.imp (fun z=>z.trans ek) (inE v) hv)) ?_))
  all_goals (
   rw[if_neg (by simp)];refine ε ?_;obtain⟨kk,e1,e2⟩:=ex_of ek;rw[←e1];exact slow kk e2)
 ·intro kk ek;subst ek;refine vq _
   (fun rest b s'=>s'=s/\∃i hit,b=(none,hit)/\rest=(ud i (es.size-i)).filter (fun i=>(es[i]?.map (·.hash)) == some hk)/\i<=es.size ∧
    ((hit=none/\∀j,j<i->j<es.size->sm j=false)\/∃j,hit=some j/\j<i/\j<es.size/\sm j=true)) _ ?_ ?_ _ _
   ⟨rfl,0,none,rfl,by rw[xo,List.range_eq_range',xl],gw _,.inl ⟨rfl,fun _ h=>absurd h (ui _)⟩⟩
  ·rintro x rest b s' ⟨rfl,i,hit,rfl,hr,hi,hH⟩;obtain⟨q1,q2,q3,hskip,hrest⟩:=filter_range'_cons _ _ _ _ _ hr.symm;have lx:x<es.size:=by omega
   have ex:es[x]?=some es[x]:=iy lx;have rst:rest=(ud (x+1) (es.size-(x+1))).filter (fun i=>(es[i]?.map (·.hash)) == some hk):=by rw[hrest];congr 2;omega
   have stay:sm x=false->((hit=none/\∀j,j<x+1->j<es.size->sm j=false)\/∃j,hit=some j/\j<x+1/\j<es.size/\sm j=true):=fun hne=>by
    rcases hH with⟨h0,hno⟩|⟨j,h1,h2,h3⟩
    ·refine .inl ⟨h0,fun j hji hj=>?_⟩;rcases uf j i with h|h
     ·exact hno j h hj
     ·rcases uf j x with h'|h'
      ·exact hskp j hj (hskip j h h')
      ·have:j=x:=by omega
       subst this;exact hne
    ·exact .inr ⟨j,h1,by omega,h3⟩
   rw[ex];dsimp only
   by_cases eh:(es[x].hash == hk)=true
   ·rw[if_pos eh];refine ε (ph ho hd (ε (he x _ ex _ (ε (ph ho hd ?_)))));show gp _ _ (if (ep != ep)=true then _ else _) _ E _;rw[if_neg (by simp)];cases hz:sm x with
    |true =>
     rcases hH with⟨rfl,_⟩|⟨j,_,hjx,_,hj⟩
     ·first|rw[if_pos rfl]|skip
      simp only[Option.isSome_none,li,if_false]
      first|refine ε (π ?_)|skip
      refine ε (wx ?_)
      split
      ·exact π (π (hsome x lx hz))
      ·exact π ⟨rfl,x+1,some x,rfl,rst,lx,.inr ⟨x,rfl,tu x,lx,hz⟩⟩
     ·exact absurd (hu j x hj hz) (by omega)
    |false =>
     simp only[li,if_false];refine ε (wx ?_)
     first|rw[if_neg (by simp)]|skip
     first
      |exact π ⟨rfl,x+1,hit,rfl,rst,lx,stay hz⟩
      |exact ε (π (π ⟨rfl,x+1,hit,rfl,rst,lx,stay hz⟩))
   ·rw[if_neg eh];refine π ⟨rfl,x+1,hit,rfl,rst,lx,stay (hskp x lx ?_)⟩;rw[ex,sq];simpa using eh
  ·rintro b s' ⟨rfl,i,hit,rfl,hr,hi,hH⟩;refine π (hend i hit hr ?_);rcases hH with h|⟨j,h1,_,h2⟩
   ·exact .inl h
   ·exact .inr ⟨j,h1,h2⟩
end
abbrev kzA {α : Type}(ks:List Str) (xs:List α):List (Key×α):=iw (fun k v=>((.inr k:Key),v)) ks xs
def OddF (P:io) (w:jl) (a:Addr) (ks:List Str) (xs:List V) (ok lv:V):kq->Prop:=fun h=>(a == ja)=false/\∃(us:List Value) (uk uo:Value) (h0:Int) (es:Array vj) (ep:Nat) (el:List vj),kO xs us/\RelV ok uk/\RelV lv uo/\lD h a es ep/\es.toList=el++[⟨h0,uk,uo⟩]/\Pairs (kT P w) el (kzA ks us)/\∀e∈el,∃k,(kT P w).is k e.key=true/\e.hash=(kT P w).hash k
def aJu (P:io) (w:jl) (a:Addr) (ks:List Str) (xs:List V) (ok lv:V):HO:=.ext (OddF P w a ks xs ok lv)
theorem aNu(x:OddF P w a ks xs ok lv h):qO P w H h a (aJu P w a ks xs ok lv):=by
 refine⟨x,?_,fun h1 h2 y g=>?_⟩
 ·obtain⟨_,us,uk,uo,h0,es,ep,el,_,_,_,⟨o,e,_⟩,_⟩:=x;exact⟨o,e⟩
 ·obtain⟨hs,us,uk,uo,h0,es,ep,el,a1,a2,a3,⟨o,e,r⟩,r2⟩:=y;exact⟨hs,us,uk,uo,h0,es,ep,el,a1,a2,a3,⟨o,g o e,r⟩,r2⟩
def dB (K:Δ) (H:Hp) (ok:V):Prop:=ok=.non\/ok=.int 0\/∃b,ok=.ref b/\SqT K H b [.str (ζ "a")]
theorem dB.same{K:Δ}(h:dB K H ok)(g:jG H H'):dB K H' ok:=by
 rcases h with h|h|⟨b,e,h⟩
 ·exact .inl h
 ·exact .inr (.inl h)
 ·exact .inr (.inr ⟨b,e,g.tp h⟩)
section
variable {X:Cx}{pins:List (Addr×Obj)}{σ:St}{H:Hp}{s:ς}
structure OddU (P:io) (w:jl) (A:km) (s:ς) (u:Value):Prop where
 q:∀(E:Value->ς->Prop) (Q:Bool->ς->Prop),Q true s->gp (ik P w) A (eqIsQuiet 8 u) Q E s
 e1:∀x t,lc A s (.str x t) u false
 e2:∀x t,lc A s u (.str x t) false
 h:∃(h0:Int) (n:Nat),∀(E:Value->ς->Prop) (Q:Int->ς->Prop),Q h0 { s with toks:=n }->gp (ik P w) A (pyHash u) Q E s
 n:isExactStrKey u=false
theorem Inv.oddU{ok:V}{u:Value}(I:Inv X pins σ H s)(h:dB X.K H ok)(r:RelV ok u){A:km}(hu:A.units<pw):OddU X.prog X.w A s u:=by
 rcases h with rfl|rfl|⟨b,rfl,h⟩
 ·cases r;exact⟨fun E Q q=>π q,fun x t=>.str_none x t,fun x t=>.none_str x t,⟨_,_,fun E Q q=>PySem.W.pyHash_slot (T:="NoneType") rfl F.slot_NoneType_hash F.entry_NoneType_hash (F.args_NoneType_hash_1 _) (beq_builtin_none _) (.inr hu) (ε (π (ε (wpAny_mkInt (π ⟨_,_,rfl,q⟩)))))⟩,rfl⟩
 ·obtain⟨t,rfl⟩:=r;exact⟨fun E Q q=>π q,fun x t'=>.str_int x t' _ _,fun x t'=>.int_str _ _ x t',⟨_,_,fun E Q q=>wpAny_pyHash_int q⟩,rfl⟩
 ·cases r;obtain⟨its,rv,⟨o,e,hc,n,hd⟩,_⟩:=I.tuple h;obtain⟨v,rfl,t,rfl⟩:=rv.one;have hk:IsTupleKey (kT X.prog X.w) s.heap [.inr (ζ "a")] b:=⟨o,_,n,e,hc,hd,.cons rfl .nil⟩;have ht:s.heap.IsTuple b #[.str (ζ "a") t]:=⟨o,e,hc,n,hd⟩;exact⟨fun E Q q=>wpAny_eqIsQuiet_tuple hk q,fun x t=>.str_tuple x t ht hu,fun x t=>.tuple_str x t ht hu,⟨_,_,fun E Q q=>wpAny_pyHash_tuple hu hk q⟩,rfl⟩
theorem sC(p:Pairs (kT P w) el (kzA ks us))(h:ks.length=us.length):(∀e∈el,∃x t,x∈ks/\e.key=.str x t)/\el.length=ks.length:=by
 induction ks generalizing el us with
 |nil =>
  cases us with
  |nil =>
   cases p;exact⟨fun e z=>(by cases z),rfl⟩
  |cons _ _=>cases h
 |cons k ks ih =>
  cases us with
  |nil=>cases h
  |cons u us =>
   cases p with
   |cons p1 _ p3 =>
    obtain⟨z1,z2⟩:=ih p3 (jr h);refine⟨fun e he=>?_,congrArg (·+1) z2⟩;rcases υ.mp he with rfl|he
    ·rcases qJ (show eV (.inr k) _=true from p1) with⟨_,_,z,_⟩|⟨x,t,z,e⟩
     ·cases z
     ·cases z;exact⟨k,t,ψ ..,e⟩
    ·obtain⟨x,t,hx,e⟩:=z1 e he;exact⟨x,t,ρ _ hx,e⟩
theorem aNe(hu:X.A.units+1<pw):PSet X (fun o i v H Q=>∃(a:Addr) (ks:List Str) (xs:List V),o=.ref a/\H a=some (.dK (kzA ks xs))/\ks.length=xs.length/\ks.length<=1000/\dB X.K H i/\Q (upd H a (aJu X.prog X.w a ks xs i v))):=by
 intro pins s σ H o i v ov iv u Q I ro ri rv h;obtain⟨a,ks,xs,rfl,ha,hl,hz,hk,q⟩:=h;cases ro;obtain⟨hsm,us,rus,od,es,ep,ho,hx,hd,hke,hp,hn⟩:=I.dkz ha hl;have hl2:ks.length=us.length:=hl.trans rus.length;obtain⟨hst,hle⟩:=sC hp hl2;have hstr:∀e∈es,∃x t,e.key=Value.str x t:=fun e he=>by
  obtain⟨x,t,_,z⟩:=hst e (vd.mpr he);exact⟨x,t,z⟩
 have hT:s.TypeIs (.ref a) "dict":=⟨od,ho,hx.1⟩;unfold setItem
 try with_reducible refine lh ?_
 refine ε (wpAny_sequenceKey hT (by decide) ?_);refine ε (wpAny_callSpecial?_slot (name:=ζ "__setitem__") hT slot_dict_setitem (mn slot_dict_setitem hT entry_dict_setitem ?_ (args_dict_setitem _ _ _)));show gp _ _ (oy.Dict.notOrdered "__setitem__" ⟨[.ref a,iv,u],[]⟩ >>= _) _ _ s;refine ε (ux hT ?_);show gp _ _ (dictSet a iv u >>= _) _ _ s;refine ε ?_;obtain⟨h0,n,hh⟩:=(I.oddU hk ri (A:=X.A.in1) hu).h;have U:=(I.tok n).oddU hk ri (A:=X.A.in1) hu;unfold dictSet
 try with_reducible refine lh ?_
 refine ε (hh _ _ ?_);unfold dictSetHashed
 try with_reducible refine lh ?_
 refine ε (wN (s:={ s with toks:=n }) (fun _=>false) ho hd (fun x t z=>by have:=U.n;rw[z]at this;cases this) (fun b z=>?_) (fun j e he Q' hq=>?_) (fun v' hv Q' hq=>?_) (fun _ _ z=>by cases z) (fun _ _ _ z=>by cases z) (fun _=>?_) (fun _ _ z=>by cases z))
 ·rw[←Array.any_toList,List.any_eq_false];intro e he;obtain⟨x,t,z'⟩:=hstr e (vd.mp he);rw[z',z];exact fun z=>by cases z
 ·obtain⟨x,t,z⟩:=hstr e (Array.mem_of_getElem? he);rw[z];exact U.e1 x t _ _ _ _ hq
 ·rcases hv with rfl|⟨e,he,rfl⟩
  ·exact U.q _ _ hq
  ·obtain⟨x,t,z⟩:=hstr e he;rw[z];exact π hq
 have hes:es.size=ks.length:=by rw[←jb];exact hle
 have hg:=uw (f:=Obj.mapDictKeys (·.push ⟨h0,iv,u⟩)) ho (Obj.isFreed_of_dict (Obj.data_mapDictKeys hd _));refine ε (wx (wpAny_updateDictKeys (hz:=by rw[hes,ic];omega) (s:={ s with toks:=n }) ho hd ?_));refine π ⟨.none,rfl,π ⟨_,I.write (x:=a) (e:=a) (by rw[ha];trivial) (.inl rfl) (fun b o hb e=>(qy _ _ (kh hb)).trans e) ⟨_,hg⟩ (aNu ⟨hsm,us,iv,u,h0,es.push ⟨h0,iv,u⟩,ep+1,es.toList,rus,ri,rv,⟨_,hg,hx.mapDictKeys _,Obj.data_mapDictKeys hd _⟩,by simp,hp,fun e he=>hke e (vd.mp he)⟩),q⟩⟩
def KyO (P:io) (w:jl) (a:Addr) (u:HO) (vs:List V):Prop:=vs.length<=1000/\∀(H:Hp) (h:kq),qO P w H h a u->(a == ja)=false/\∃es ep,lD h a es ep/\kO vs (es.toList.map (·.key))
theorem oP{ks:List Str}{xs:List V}(hl:ks.length=xs.length)(hz:ks.length<=1000):KyO P w a (.dK (kzA ks xs)) (ks.map V.str):=by
 refine⟨by rw[δ];exact hz,fun H h x=>?_⟩;obtain⟨hz0,hsm,vs,rel,o,es,ep,e,hx,hd,hke,hp,hnd⟩:=x;refine⟨hsm,es,ep,⟨o,e,hx,hd⟩,?_⟩;clear hke hnd hd hz0;generalize es.toList=el at hp
 induction ks generalizing el xs vs with
 |nil=>cases xs with
  |nil=>cases rel;cases hp;exact .nil
  |cons _ _=>cases hl
 |cons k ks ih=>cases xs with
  |nil=>cases hl
  |cons x xs =>
   have rel':KV (((.inr k:Key),x)::kzA ks xs) vs:=rel;cases rel' with
   |cons r1 r2 =>
    cases hp with
    |cons p1 p2 p3 =>
     refine .cons ?_ (ih (hl:=jr hl) (hz:=by simp at hz;omega) (rel:=r2) (hp:=p3));have:=pG p1;rw[←r1.1]at this;exact this
theorem aKb{ks:List Str}{xs:List V}(hl:ks.length=xs.length)(hz:ks.length<1000):KyO P w a (aJu P w a ks xs ok lv) (ks.map V.str++[ok]):=by
 refine⟨by rw[ξ,δ];exact hz,fun H h x=>?_⟩;obtain⟨⟨hsm,us,uk,uo,h0,es,ep,el,r1,r2,r3,raw,he,hp,_⟩,_⟩:=x;refine⟨hsm,es,ep,raw,?_⟩;rw[he,τ];have:∀{ks:List Str}{us:List Value}{el:List vj},ks.length=us.length->Pairs (kT P w) el (kzA ks us)->kO (ks.map V.str++[ok]) (el.map (·.key)++[uk]):=by
  intro ks
  induction ks with
  |nil=>intro us el hl hp;cases us with
   |nil=>cases hp;exact .cons r2 .nil
   |cons _ _=>cases hl
  |cons k ks ih=>intro us el hl hp;cases us with
   |nil=>cases hl
   |cons u us =>
    have hp':Pairs (kT P w) el (((.inr k:Key),u)::kzA ks us):=hp;cases hp' with
    |cons p1 p2 p3=>exact .cons (pG p1) (ih (jr hl) p3)
 exact this (hl.trans r1.length) hp
def tyQ (P:io) (w:jl) (K:Δ) (x:V) (H:Hp) (t:String):Prop:=tyN K x H t\/(t = "dict"/\∃p u vs,x=.ref p/\H p=some u/\KyO P w p u vs)
theorem kZ:vD X (.builtin "isinstance") (fun xs H Q=>∃x T t,xs=[x,.ty T]/\T∈sQ/\tyQ X.prog X.w X.K x H t/\Q (.bl (isa t T)) H):=by
 intro pins s σ H xs us Q I r h;obtain⟨x,T,t,rfl,hT,ht|⟨rfl,p,u,vs,rfl,hp,hk⟩,q⟩:=h
 ·exact pD pins s σ H _ us Q I r ⟨x,T,t,rfl,hT,ht,q⟩
 ·obtain⟨u',w',rfl,rx,rT⟩:=vals2 r;cases rT;cases rx;have hT':T = "int" ∨ T = "bool" ∨ T = "str" ∨ T = "list" ∨ T = "tuple" ∨ T = "dict":=by simpa [sQ] using hT
  have fin:∀{k:Bool}{s':ς},isa "dict" T=k->Inv X pins σ H s'->EP X pins σ Q (.bool k) s':=fun {k s'} e I'=>by subst e;exact⟨.bl _,H,I',rfl,q⟩
  obtain⟨_,es,ep,⟨o,e,hx,_⟩,_⟩:=hk.2 H _ (I.hok p u hp);rcases hT' with rfl|rfl|rfl|rfl|rfl|rfl
  ·exact IsiPair.dict_int e hx.1 (fin (by decide) (I.tok _))
  ·exact IsiPair.dict_bool e hx.1 (fin (by decide) (I.tok _))
  ·exact IsiPair.dict_str e hx.1 (fin (by decide) (I.tok _))
  ·exact IsiPair.dict_list e hx.1 (fin (by decide) (I.tok _))
  ·exact IsiPair.dict_tuple e hx.1 (fin (by decide) (I.tok _))
  ·exact IsiPair.dict_dict e hx.1 (fin (by decide) I)
theorem aHa{P:io}{w:jl}(hP:X.prog=P)(hw:X.w=w):vD X (.builtin "len") (fun xs H Q=>∃p u vs,xs=[.ref p]/\H p=some u/\KyO P w p u vs/\Q (.int vs.length) H):=by
 subst hP hw;intro pins s σ H xs us Q I r h;obtain⟨p,u,vs,rfl,hp,hk,q⟩:=h;obtain⟨u',rfl,rx⟩:=r.one;cases rx;obtain⟨hsm,es,ep,⟨o,e,hx,hd⟩,rv⟩:=hk.2 H _ (I.hok p u hp);have hl:es.size=vs.length:=by rw[rv.length,δ,jb]
 have hz:=hk.1;refine tE hsm ⟨o,e,hx,hd⟩ (by rw[hl];omega) ⟨.int vs.length,H,I.tok _,⟨_,by rw[hl]⟩,q⟩
theorem pairs_at{j:Nat}(p:Pairs (kT P w) el (kzA ks us))(h:ks.length=us.length)(z:el[j]?=some e):∃k t,ks[j]?=some k/\e.key=.str k t:=by
 induction ks generalizing el us j with
 |nil =>
  cases us with
  |nil =>
   cases p;simp at z
  |cons _ _=>cases h
 |cons k ks ih =>
  cases us with
  |nil=>cases h
  |cons u us =>
   cases p with
   |cons p1 _ p3 =>
    cases j with
    |zero =>
     simp at z;subst z;rcases qJ (show eV (.inr k) _=true from p1) with⟨_,_,z,_⟩|⟨x,t,z,e⟩
     ·cases z
     ·cases z;exact⟨k,t,rfl,e⟩
    |succ j=>exact ih p3 (jr h) (by simpa using z)
theorem uU : ∀{ks:List Str}{xs:List V},ks.length=xs.length->(vX (kzA ks xs) (.inr z)).isSome=decide (z∈ks)
 |[],[],_=>rfl
 |k::ks,x::xs,h=>by
  have ih:=uU (z:=z) (ks:=ks) (xs:=xs) (jr h);unfold vX at ih ⊢;show(((((.inr k:Key),x)::kzA ks xs).find? _).map _).isSome=_;rw[si]
  by_cases e:k=z
  ·subst e;simp
  ·rw[decide_eq_false (show ¬ ((.inr k:Key)=.inr z) from fun y=>e (qf y))];refine ih.trans ?_;exact decide_eq_decide.mpr ⟨ρ _,fun y=>(υ.mp y).resolve_left fun y=>e y.symm⟩
def rInQ (P:io) (w:jl) (K:Δ):R2:=fun x y H Q=>∃(z:Str) (a:Addr) (ks:List Str) (xs:List V),x=.str z/\y=.ref a/\ks.length=xs.length/\ks.Nodup/\(H a=some (.dK (kzA ks xs))\/∃ok lv,dB K H ok/\H a=some (aJu P w a ks xs ok lv))/\Q (.bl (decide (z∈ks))) H
theorem aRh(hu:X.A.units+1<pw):OpR X (kn .In) (rInQ X.prog X.w X.K):=by
 intro pins s σ H x y v u Q I rx ry h;obtain⟨z,a,ks,xs,rfl,rfl,hl,hn,hh,q⟩:=h;obtain⟨t,rfl⟩:=rx;cases ry;rcases hh with ha|⟨ok,lv,hok,ha⟩
 ·refine d_in hu I (bB.k (k:=.inr z) ha) (show RelV (kV (.inr z)) _ from⟨t,rfl⟩) fun s' I'=>⟨.bl _,H,I',?_,q⟩;rw[uU hl];rfl
 ·obtain⟨⟨hsm,us,uk,uo,h0,es,ep,el,r1,r2,r3,raw,he,hp,hke⟩,_⟩:=I.hok a _ ha;obtain⟨o,ho,hx,hd⟩:=id raw;obtain⟨hst,hle⟩:=sC hp (hl.trans r1.length);show gp _ _ (do return Value.bool (←contains (.ref a) (.str z t)):Sem Value) _ _ s;refine ε ?_;unfold contains
  try with_reducible refine lh ?_
  refine ε (wpAny_specialOf raw.ty slot_dict_contains.lookup ?_);show gp _ _ (if (some (Value.builtin "dict.__contains__") == some mz)=true then _ else _) _ _ s;rw[if_neg (by rw[beq_builtin_none];exact ο)];refine ε (wpAny_callSpecialUnlessNone?_slot (name:=ζ "__contains__") raw.ty slot_dict_contains (mn slot_dict_contains raw.ty entry_dict_contains ?_ (args_dict_contains _ _)));show gp _ _ (dictGet a (.str z t) >>= _) _ _ s;have U:=(I.tok (s.toks+1)).oddU hok r2 (A:=X.A.in1) hu;have es_at:∀(j:Nat) (e:vj),es[j]?=some e->(∃(k:Str) (t':Tok),j<ks.length/\ks[j]?=some k/\e.key=.str k t'/\e.hash=hashStr X.w k)\/(j=ks.length/\e.key=uk):=fun j e hj=>by
   rw[←px,he]at hj;rcases uf j el.length with hlt|hge
   ·rw[ig hlt]at hj;obtain⟨k,t',h1,h2⟩:=pairs_at hp (hl.trans r1.length) hj;obtain⟨k',h3,h4⟩:=hke e (ι hj);refine .inl ⟨k,t',by rw[←hle];exact hlt,h1,h2,?_⟩;rw[h2]at h3;rcases qJ (show eV k' _=true from h3) with⟨_,_,_,z⟩|⟨x,_,rfl,z⟩
    ·cases z
    ·cases z;exact h4
   ·rw[gr hge]at hj;cases hz:j-el.length with
    |zero=>rw[hz]at hj;cases hj;exact .inr ⟨by omega,rfl⟩
    |succ n=>rw[hz]at hj;cases hj
  refine ε ?_;unfold dictGet
  try with_reducible refine lh ?_
  refine ε (wpAny_pyHash_str (ε (wN (s:={ s with toks:=s.toks+1 }) (fun j=>decide (ks[j]?=some z)) ho hd (fun x t z=>?_) (fun b z=>by cases z) (fun j e he Q' hq=>?_) (fun v' hv Q' hq=>?_) (fun i j z1 z2=>?_) (fun j e he z=>?_) (fun hno=>?_) (fun j hj hz=>?_))))
  ·have e:(⟨h0,uk,uo⟩ : vj)∈es.toList:=by rw[he];simp
   rw[←Array.all_toList,List.all_eq_false];exact⟨_,e,by rw[U.n];exact ο⟩
  ·rcases es_at j e he with⟨k,t',_,h1,h2,_⟩|⟨rfl,h2⟩
   ·rw[h2];refine lc.str_str k t' z t _ _ _ _ ?_;have:(k == z)=decide (ks[j]?=some z):=by rw[h1,Bool.beq_eq_decide_eq];exact decide_eq_decide.mpr ⟨fun e=>by rw[e],fun e=>jg e⟩
    rw[this];exact hq
   ·rw[h2];refine U.e2 z t _ _ _ _ ?_;rw[se (μ _)]at hq;exact hq
  ·rcases hv with rfl|⟨e,he,rfl⟩
   ·exact π hq
   ·obtain⟨j,hj⟩:=Array.getElem?_of_mem he;rcases es_at j e hj with⟨k,t',_,h1,h2,_⟩|⟨rfl,h2⟩
    ·rw[h2];exact π hq
    ·rw[h2];exact U.q _ _ hq
  ·have z1:=of_decide_eq_true z1;have z2:=of_decide_eq_true z2;exact(List.getElem?_inj (θ.mp z1).1 hn).mp (z1.trans z2.symm)
  ·rcases es_at j e he with⟨k,t',_,h1,h2,h3⟩|⟨rfl,h2⟩
   ·have z1:=of_decide_eq_true z;rw[h1]at z1;rw[h3,jg z1]
   ·have z1:=of_decide_eq_true z;rw[se (μ _)]at z1;cases z1
  ·have hnm:z∉ks:=fun hm=>by
    obtain⟨j,hj⟩:=vh hm;have hlt:=(θ.mp hj).1;have hes:es.size=ks.length+1:=by rw[←jb,he,ξ,hle];rfl
    have:=hno j (by omega);rw[decide_eq_true hj]at this;cases this
   rw[decide_eq_false hnm]at q;refine π ?_;show gp _ _ (oy.Dict.pendingKey? a _ >>= _) _ _ _;exact ε (wpAny_pendingKey_other hsm (π ⟨_,rfl,kg (π ⟨.bl false,H,I.tok _,rfl,q⟩)⟩))
  ·have z1:=of_decide_eq_true hz;have hm:z∈ks:=ι z1;rw[decide_eq_true hm]at q;refine ε (mr ho hd (π ?_));rw[iy hj];show gp _ _ (ret (.bool true)) _ _ _;exact π ⟨_,rfl,kg (π ⟨.bl true,H,I.tok _,rfl,q⟩)⟩
end
def Itk (a:Addr) (o:Obj) (u:HO) (vs:List V):It:=⟨fun i H=>H a=some (.frz o u)/\i<vs.length,fun i H x H'=>H'=H/\vs[i]?=some x,fun i H=>H a=some (.frz o u)/\vs.length<=i⟩
theorem aDb(hk:KyO P w a u vs)(x:qO P w H h a (.frz o u)):(a == ja)=false/\∃es,lD h a es (epOf o)/\kO vs (es.toList.map (·.key))/\es.size=vs.length:=by
 obtain⟨x1,x2⟩:=x;obtain⟨hs,es,ep,⟨o',e,hx,hd⟩,rv⟩:=hk.2 H h x2;rw[x1]at e;cases e;refine⟨hs,es,⟨o,x1,hx,by unfold epOf;rw[hd]⟩,rv,?_⟩;rw[rv.length,δ,jb]
theorem aGl{K:Δ}(a it:Addr)(o:Obj)(hk:KyO P w a u vs):Turn P w K tg (Itk a o u vs) [it] it (fun i h=>h.IsKeyIter it a i vs.length (epOf o)) where
 mem:=by simp
 obj:=fun i h st b hb=>by
  have e:b=it:=by simpa using hb
  subst e;obtain⟨o,e,c,d⟩:=st;exact⟨o,e,fun v z=>by rw[d]at z;cases z⟩
 keep:=fun i h h' st k=>st.at fun o e=>k it (by simp) o e
 item:=by
  intro X hP hw hK hc i pins s σ H E I hf st hg;subst hP hw hK;obtain⟨hq,hi⟩:=hg;obtain⟨_,es,raw,rv,hl⟩:=aDb hk (I.hok a _ hq);obtain⟨f0,f1,f2,f3,f4,f5⟩:=hf it (by simp);have hi':i<es.size:=by rw[hl];exact hi
  rw[←hl]at st;refine aIm (e:=es[i]) st raw (iy hi') fun h' st' sb=>?_;have I1:Inv X pins σ H { s with heap:=h' }:=I.turned (t':=s.toks) (fun b o hb e=>(sb.2 b hb).trans e) f0 f1 f3 f4 f5;obtain⟨x,hx,rx⟩:=rv.getR (i:=i) (u:=es[i].key) (by rw[gu,px,iy hi'];rfl);exact⟨_,rfl,letGo_keyiter st' ⟨x,H,I1,rx,⟨rfl,hx⟩,by rw[←hl];exact st',fun b hb=>(hf b hb).1⟩⟩
 done:=by
  intro X hP hw hK hc i pins s σ H E I hf st hg;subst hP hw hK;obtain⟨hq,hi⟩:=hg;obtain⟨_,es,raw,rv,hl⟩:=aDb hk (I.hok a _ hq);obtain⟨f0,f1,f2,f3,f4,f5⟩:=hf it (by simp);rw[←hl]at st hi;exact aMy (I.ok.hd hc) st raw (by simp;omega) fun h' eb=>⟨rfl,I.turned (t':=s.toks) (fun b o hb e=>eb b o hb e) f0 f1 f3 f4 f5⟩
 self:=fun _ _ _ _ _ st h=>wpAny_pyIter_keyiter st h
def iKeys (P:io) (w:jl) (tl:TE):TI:=fun σ H R=>tl σ H fun x H1=>∃a u vs,x=.ref a/\H1 a=some u/\Mut (some u)/\KyO P w a u vs/\∀o,R (Itk a o u vs) (upd H1 a (.frz o u))
theorem aGb{X:Cx}{P:io}{w:jl}(hP:X.prog=P)(hw:X.w=w)(hl:PE X l tl):PI X tg l (iKeys P w tl):=by
 subst hP hw;intro pins s σ H R I h;refine thn (hl pins s σ H _ I h) fun v s1 zq=>?_;obtain⟨x,H1,I1,r1,q1⟩:=zq;obtain⟨a,u,vs,e,hq,mu,hk,q⟩:=q1;subst e;cases r1;obtain⟨_,es0,ep0,⟨o,ho,_⟩,_⟩:=hk.2 H1 _ (I1.hok a u hq);have ok0:=I1.hok a u hq;have I2:Inv X pins σ (upd H1 a (.frz o u)) s1:=I1.write (x:=a) (e:=a) (h':=s1.heap) (t':=s1.toks) (by rw[hq];exact mu) (.inl rfl) (fun _ _ _ q=>q) ⟨o,ho⟩ ⟨ho,ok0.stay (fun _ _ _ q=>q) (fun b q=>by
   rw[jS (fun z=>by rw[z,hq]at q;cases q;exact mu)];exact q) fun b xs q=>by rw[jS (fun z=>by rw[z,hq]at q;cases q;exact mu)];exact q⟩
 obtain⟨hsm,es,raw,rv,hl⟩:=aDb hk (I2.hok a _ jR);refine aIq hsm raw ?_;refine⟨s1.heap.objs.size,[s1.heap.objs.size],_,_,_,rfl,I2.kept (t':=s1.toks) fun b o e=>ω _ e,aGl a _ o hk,⟨_,gm _ rfl,rfl,?_⟩,fun b hb=>?_,q o⟩
 ·rw[hl];rfl
 have e:b=s1.heap.objs.size:=by simpa using hb
 subst e;exact I2.fpOk (μ _) (I2.hok.fresh (μ _))
theorem rW{vs:List V}{k:Nat}{tc:TT}{te:TE}{Q:VK}(P:Nat->List V->Hp->Prop)(h0:P 0 [] H1)(hl:∀i ys H,i<=vs.length->P i ys H->H a=some (.frz o u)/\ys.length<=i)(hz:vs.length<χ)
  (hs:∀i x ys H,vs[i]?=some x->P i ys H->tc (some x::vE js σ) H fun b H2=>if b=true then te (some x::vE js σ) H2 fun v H3=>cQ P i js σ (some x::vE js σ) (ys++[v]) H3 else cQ P i js σ (some x::vE js σ) ys H2)
  (hd:∀ys H,P vs.length ys H->∀p,H p=none->Q (.ref p) (upd H p (.lst ys)))(hk:k=1:=by rfl):
  dY (Itk a o u vs) k js (yZ 0) tc te σ Q H1:=by
 subst hk;refine aD P (fun σ'=>∃o,σ'=o::vE js σ) ⟨none,rfl⟩ h0 hz (fun i ys H h p=>(hl i ys H h p).2) (fun i ys H h p=>⟨(hl i ys H (jw h) p).1,h⟩) (fun ys H p=>⟨⟨(hl _ ys H (μ _) p).1,μ _⟩,fun l n _=>hd ys H p l n⟩) fun i ys σ' H h p r x H' y=>?_;obtain⟨o,rfl⟩:=r;obtain⟨rfl,y⟩:=y;exact hs i x ys _ y p
end L2
namespace L2
open PySem
def xE (S:List Shp):Nat->Kd->ν->Bool
 |_,.num w,.int v=>decide (0<=v/\v<((256 ^ w:Nat):Int))
 |n+1,.nest i,.dict kvs=>decide (kvs.length=((Kd.nest i).parts S).length)&&((Kd.nest i).parts S).all (fun f=>(lkD kvs f.1).isSome)&&((Kd.nest i).parts S).all (fun f=>((lkD kvs f.1).map (xE S n f.2)).getD false)
 |n+1,.many m k,.list ds=>decide (ds.length=m)&&ds.all (xE S n k)
 |n+1,.pick is,.tuple [.int j,e]=>decide (0<=j/\j<is.length)&&xE S n (.nest (is.getD j.toNat 0)) e
 |_,_,_=>false
theorem wP{c:Kd->ν->ν->Prop}{k:Kd}{g:ν->Bool}(h:∀d e,c k d e->g e=true):∀{fs:List (Str×Kd)}{ds es:List ν},(∀f∈fs,f.2=k)->xJ c fs ds es->es.all g=true
 |[],[],[],_,_=>rfl
 |f::fs,d::ds,e::es,hk,r=>by
  rw[List.all_cons,h d e (by rw[←hk f (ψ ..)];exact r.1),wP h (fun f hf=>hk f (ρ _ hf)) r.2];rfl
theorem uR(hS:FNd S):∀{n:Nat}{k:Kd}{d e:ν},Rec S n k d e->xE S n k e=true:=by
 have num:∀{n w:Nat}{d e:ν},(∃v:Nat,d=.int v/\e=.int v/\v<256 ^ w)->xE S n (.num w) e=true:=by
  rintro n w d e ⟨v,rfl,rfl,h⟩;have:xE S n (.num w) (.int v)=decide (0<=(v:Int)/\(v:Int)<((256 ^ w:Nat):Int)):=by cases n <;> rfl
  rw[this];exact decide_eq_true ⟨by omega,by omega⟩
 intro n
 induction n with
 |zero=>intro k d e h;cases k with
  |num w=>exact num h
  |_=>exact h.elim
 |succ n ih=>intro k d e h;cases k with
  |num w=>exact num h
  |pick is =>
   obtain⟨j,i,a,b,h1,rfl,rfl,h⟩:=h;have hj:=(θ.mp h1).1;show(decide _&&xE S n (.nest (is.getD (j:Int).toNat 0)) b)=true;rw[decide_eq_true ⟨by omega,by omega⟩,ql,Θ,h1];exact ih h
  |many m q =>
   obtain⟨ds,es,rfl,rfl,h⟩:=h;have hl:=h.len.2;have e1:((Kd.many m q).parts S).length=m:=by show((ir m).map _).length=m;rw[δ,jo]
   show(decide _&&es.all (xE S n q))=true;rw[decide_eq_true (hl.symm.trans e1)];refine wP (k:=q) (fun d e z=>ih z) (fun f hf=>?_) h;obtain⟨_,_,rfl⟩:=ib.mp (show f∈(ir m).map _ from hf);rfl
  |nest i =>
   obtain⟨ds,es,ks,es',rfl,rfl,l,p,h⟩:=h;have hn:=uG hS i;have hl:=h.len.2;have hks:ks.Nodup:=by
    have:=p.map (·.1);rw[zX,xO l,xO (by rw[δ];exact hl)]at this;exact(nO this).nodup_iff.mpr hn
   have at_:∀f∈(Kd.nest i).parts S,∃e,lkD (kvD ks es') f.1=some e/\xE S n f.2 e=true:=fun f hf=>by
    obtain⟨j,hj⟩:=vh hf;obtain⟨d,e,_,he,hc⟩:=h.get hj;refine⟨e,uJ hks (p.symm.subset ?_),ih hc⟩;rw[zX];exact aEr (by rw[gu,hj];rfl) he
   have e1:(kvD ks es').length=((Kd.nest i).parts S).length:=by
    rw[p.length_eq,zX,←δ (·.1),xO (by rw[δ];exact hl),δ,δ]
   show(decide _&&List.all _ _&&List.all _ _)=true;rw[decide_eq_true e1,ia.mpr fun f hf=>by obtain⟨e,h1,_⟩:=at_ f hf;rw[h1];rfl,ia.mpr fun f hf=>by obtain⟨e,h1,h2⟩:=at_ f hf;rw[h1];exact h2];rfl
def Low (x:Str):Prop:=∀c∈x.cps.toList,97<=c/\c<=122
theorem dR(h:Low x):(ul x).cps.toList=39::(x.cps.toList++[39]):=by
 have hq:reprQuote x=39:=by
  unfold reprQuote;have:x.cps.contains 39=false:=by
   rw[←Array.contains_toList,xp];intro z;have:=h 39 (List.contains_iff_mem.mp z);omega
  rw[this];rfl
 have go:∀(l:List Nat) (acc:Array Nat),(∀c∈l,97<=c/\c<=122)->(l.foldl (fun out c=>out++(yo 39 c).toArray) acc).toList=acc.toList++l:=by
  intro l
  induction l with
  |nil=>intro acc _;simp
  |cons c l ih =>
   intro acc hc;have hc':=hc c (ψ ..);have e:yo 39 c=[c]:=by
    have:∀c:Fin 26,yo 39 (97+c.val)=[97+c.val]:=by ac_rfl
    have z:=this ⟨c-97,by omega⟩;have e : 97+(c-97)=c:=by omega
    simpa [e] using z
   rw[List.foldl_cons,ih _ fun c hc''=>hc c (ρ _ hc''),e];simp
 unfold ul;rw[hq,Array.toList_push,←Array.foldl_toList,go _ _ h];simp
theorem aNi(hx:Low x)(hy:Low y)(h:ul x=ul y):x=y:=by
 have : 39::(x.cps.toList++[39])=39::(y.cps.toList++[39]):=by rw[←dR hx,←dR hy,h]
 injection this with _ this;exact Str.ext' (Array.toList_inj.mp (List.append_cancel_right this))
def aLh (s:Str):Prop:=∃c r,s.cps.toList=c::r/\c≠39
theorem aLh.ne(h:aLh s)(hx:Low x):ul x≠s:=fun e=>by
 obtain⟨c,r,h1,h2⟩:=h;have:=dR hx;rw[e,h1]at this;injection this with this;exact h2 this
theorem wX:∀{a b:List Str},a.Nodup->(∀x∈a,x∈b)->b.length<=a.length->a.Perm b
 |[],b,_,_,h=>by rw[mv.mp (Nat.le_zero.mp h)]
 |x::a,b,hn,hs,h=>by
  have hx:=hs x (ψ ..);have p:=List.perm_cons_erase hx;refine(List.Perm.cons x (wX (jh.mp hn).2 (fun y hy=>?_) ?_)).trans p.symm
  ·have ne:y≠x:=fun z=>(jh.mp hn).1 (by rw[←z];exact hy);exact(List.mem_erase_of_ne ne).mpr (hs y (ρ _ hy))
  ·have:=p.length_eq;simp only[gj]at this h;omega
theorem aHo{ks names:List Str}{ok:List Str}(hk:ks.Nodup)(hn:names.Nodup)(lk:∀k∈ks,Low k)(ln:∀k∈names,Low k)(ho:∀s∈ok,aLh s):
  (ks.map ul++ok).Perm (names.map ul) ↔ (ks.length+ok.length=names.length/\∀x∈names,x∈ks):=by
 constructor
 ·intro p;have hl:=p.length_eq;rw[ξ,δ,δ]at hl;refine⟨hl,fun x hx=>?_⟩;have:=p.symm.subset (ib.mpr ⟨x,hx,rfl⟩);rcases iz.mp this with z|z
  ·obtain⟨y,hy,e⟩:=ib.mp z;rw[←aNi (lk y hy) (ln x hx) e];exact hy
  ·exact absurd rfl ((ho _ z).ne (ln x hx))
 ·rintro ⟨hl,hs⟩;have p:names.Perm ks:=wX hn hs (by omega);have e:=p.length_eq;have:ok=[]:=mv.mp (by omega);subst this;rw[mi];exact(p.symm.map _)
end L2
namespace L2
open PySem PySem.Spec PyProof.Rows
def aDz:V->ν
 |.non=>.none
 |.int i=>.int i
 |_=>.tuple [.str (ζ "a")]
structure Ks (ks:List Str) (n:Nat):Prop where
 l:ks.length=n
 z:ks.length<=50
 nd:ks.Nodup
 lo:∀k∈ks,Low k
 sh:∀k∈ks,k.length<=20
mutual
inductive Dq (z:Bool) (P:io) (w:jl) (K:Δ) (H:Hp):V->ν->Prop
 |non:Dq z P w K H .non .none
 |bl (b:Bool):Dq z P w K H (.bl b) (.bool b)
 |int (i:Int):Dq z P w K H (.int i) (.int i)
 |str (x:Str):Dq z P w K H (.str x) (.str x)
 |lst {a:Addr}{xs:List V}{ds:List ν} : SqL K H a xs->(z=true->a≠ja)->Dqs z P w K H xs ds->Dq z P w K H (.ref a) (.list ds)
 |tup {a:Addr}{xs:List V}{ds:List ν} : SqT K H a xs->Dqs z P w K H xs ds->Dq z P w K H (.ref a) (.tuple ds)
 |dct {a:Addr}{ks:List Str}{xs:List V}{ds:List ν} : H a=some (.dK (kzA ks xs))->Ks ks xs.length->Dqs z P w K H xs ds->Dq z P w K H (.ref a) (.dict (kvD ks ds))
 |odd {a:Addr}{ks:List Str}{xs:List V}{ds:List ν}{ok lv:V}{d:ν} : H a=some (aJu P w a ks xs ok lv)->Ks ks xs.length->dB K H ok->Dqs z P w K H xs ds->Dq z P w K H lv d->Dq z P w K H (.ref a) (.dict (kvD ks ds++[(aDz ok,d)]))
inductive Dqs (z:Bool) (P:io) (w:jl) (K:Δ) (H:Hp):List V->List ν->Prop
 |nil:Dqs z P w K H [] []
 |cons {x:V}{xs:List V}{d:ν}{ds:List ν} : Dq z P w K H x d->Dqs z P w K H xs ds->Dqs z P w K H (x::xs) (d::ds)
end
section
variable {z:Bool}{P:io}{w:jl}{K:Δ}{H H':Hp}
theorem Dq.intI(h:Dq z P w K H x (.int i)):x=.int i:=by
 cases h;rfl
theorem Dq.lstI(h:Dq z P w K H x (.list ds)):∃a xs,x=.ref a/\SqL K H a xs/\(z=true->a≠ja)/\Dqs z P w K H xs ds:=by
 cases h with
 |lst a b c=>exact⟨_,_,rfl,a,b,c⟩
theorem Dq.tupI(h:Dq z P w K H x (.tuple ds)):∃a xs,x=.ref a/\SqT K H a xs/\Dqs z P w K H xs ds:=by
 cases h with
 |tup a c=>exact⟨_,_,rfl,a,c⟩
theorem Dq.pickI{e:ν}(h:Dq z P w K H x (.tuple [.int j,e])):∃a x1,x=.ref a/\SqT K H a [.int j,x1]/\Dq z P w K H x1 e:=by
 obtain⟨a,xs,rfl,h1,h2⟩:=h.tupI;cases h2 with
 |cons h3 h4 =>
  cases h4 with
  |cons h5 h6 =>
   cases h6;cases h3;exact⟨a,_,rfl,h1,h5⟩
theorem Dt.intI(h:Dt z K H x (.int i)):x=.int i:=by
 cases h;rfl
theorem Dt.lstI(h:Dt z K H x (.list ds)):∃a xs,x=.ref a/\SqL K H a xs/\(z=true->a≠ja)/\Dts z K H xs ds:=by
 cases h with
 |lst a b c=>exact⟨_,_,rfl,a,b,c⟩
theorem Dt.tupI(h:Dt z K H x (.tuple ds)):∃a xs,x=.ref a/\SqT K H a xs/\Dts z K H xs ds:=by
 cases h with
 |tup a c=>exact⟨_,_,rfl,a,c⟩
theorem Dt.pickI{e:ν}(h:Dt z K H x (.tuple [.int j,e])):∃a x1,x=.ref a/\SqT K H a [.int j,x1]/\Dt z K H x1 e:=by
 obtain⟨a,xs,rfl,h1,h2⟩:=h.tupI;cases h2 with
 |cons h3 h4 =>
  cases h4 with
  |cons h5 h6 =>
   cases h6;cases h3;exact⟨a,_,rfl,h1,h5⟩
mutual
theorem Dq.same(g:jG H H'):∀{x:V}{d:ν},Dq z P w K H x d->Dq z P w K H' x d
 |_,_,.non=>.non
 |_,_,.bl b=>.bl b
 |_,_,.int i=>.int i
 |_,_,.str x=>.str x
 |_,_,.lst h n t=>.lst (g.seq h) n (Dqs.same g t)
 |_,_,.tup h t=>.tup (g.tp h) (Dqs.same g t)
 |_,_,.dct h l t=>.dct (g _ _ h) l (Dqs.same g t)
 |_,_,.odd h l o t v=>.odd (g _ _ h) l (o.same g) (Dqs.same g t) (Dq.same g v)
theorem Dqs.same(g:jG H H'):∀{xs:List V}{ds:List ν},Dqs z P w K H xs ds->Dqs z P w K H' xs ds
 |_,_,.nil=>.nil
 |_,_,.cons h t=>.cons (Dq.same g h) (Dqs.same g t)
end
mutual
theorem Dq.any:∀{x:V}{d:ν},Dq z P w K H x d->Dq false P w K H x d
 |_,_,.non=>.non
 |_,_,.bl b=>.bl b
 |_,_,.int i=>.int i
 |_,_,.str x=>.str x
 |_,_,.lst h _ t=>.lst h (fun y=>nomatch y) (Dqs.any t)
 |_,_,.tup h t=>.tup h (Dqs.any t)
 |_,_,.dct h l t=>.dct h l (Dqs.any t)
 |_,_,.odd h l o t v=>.odd h l o (Dqs.any t) (Dq.any v)
theorem Dqs.any:∀{xs:List V}{ds:List ν},Dqs z P w K H xs ds->Dqs false P w K H xs ds
 |_,_,.nil=>.nil
 |_,_,.cons h t=>.cons (Dq.any h) (Dqs.any t)
end
theorem Dqs.length:∀{xs:List V}{ds:List ν},Dqs z P w K H xs ds->xs.length=ds.length
 |_,_,.nil=>rfl
 |_,_,.cons _ t=>congrArg (·+1) (Dqs.length t)
theorem Dqs.get:∀{xs:List V}{ds:List ν}{i:Nat}{d:ν},Dqs z P w K H xs ds->ds[i]?=some d->∃x,xs[i]?=some x/\Dq z P w K H x d
 |_,_,_,_,.nil,e=>by simp at e
 |_,_,0,_,.cons h _,e=>by simp at e;subst e;exact⟨_,rfl,h⟩
 |_,_,i+1,d,.cons _ t,e=>by
  obtain⟨x,h1,h2⟩:=Dqs.get (i:=i) (d:=d) t (by simpa using e);exact⟨x,by simpa using h1,h2⟩
theorem Dqs.getX:∀{xs:List V}{ds:List ν}{i:Nat}{x:V},Dqs z P w K H xs ds->xs[i]?=some x->∃d,ds[i]?=some d/\Dq z P w K H x d
 |_,_,_,_,.nil,e=>by simp at e
 |_,_,0,_,.cons h _,e=>by simp at e;subst e;exact⟨_,rfl,h⟩
 |_,_,i+1,x,.cons _ t,e=>by
  obtain⟨d,h1,h2⟩:=Dqs.getX (i:=i) (x:=x) t (by simpa using e);exact⟨d,by simpa using h1,h2⟩
theorem Dqs.app:∀{xs ys:List V}{ds es:List ν},Dqs z P w K H xs ds->Dqs z P w K H ys es->Dqs z P w K H (xs++ys) (ds++es)
 |_,_,_,_,.nil,h=>h
 |_,_,_,_,.cons h t,g=>.cons h (Dqs.app t g)
theorem Dqs.take:∀{n:Nat}{xs:List V}{ds:List ν},Dqs z P w K H xs ds->Dqs z P w K H (xs.take n) (ds.take n)
 |0,_,_,_=>.nil
 |_+1,_,_,.nil=>.nil
 |_+1,_,_,.cons h t=>.cons h (Dqs.take t)
theorem Dqs.drop:∀{n:Nat}{xs:List V}{ds:List ν},Dqs z P w K H xs ds->Dqs z P w K H (xs.drop n) (ds.drop n)
 |0,_,_,h=>h
 |_+1,_,_,.nil=>.nil
 |n+1,_,_,.cons _ t=>Dqs.drop (n:=n) t
theorem Dq.ty(h:Dq z P w K H x d):tyQ P w K x H (tyD d):=by
 cases h with
 |lst h _ _=>exact .inl (.inl ⟨rfl,_,h⟩)
 |tup h _=>exact .inl (.inr ⟨rfl,_,h⟩)
 |dct h k _=>exact .inr ⟨rfl,_,_,_,rfl,h,oP k.l (by have:=k.z;omega)⟩
 |odd h k _ _ _=>exact .inr ⟨rfl,_,_,_,rfl,h,aKb k.l (by have:=k.z;omega)⟩
 |_=>exact .inl rfl
theorem aIn{z:Str}: ∀{ks:List Str}{ds:List ν}{r:List (ν×ν)},ks.length=ds.length->lkD (kvD ks ds++r) z=if z∈ks then lkD (kvD ks ds) z else lkD r z
 |[],[],_,_=>by simp[kvD]
 |k::ks,d::ds,r,h=>by
  show(if k=z then some d else lkD (kvD ks ds++r) z)=if z∈k::ks then (if k=z then some d else lkD (kvD ks ds) z) else lkD r z
  rw[aIn (jr h)]
  by_cases e:k=z
  ·subst e;simp
  ·rw[if_neg e,if_neg e]
   by_cases m:z∈ks
   ·rw[if_pos m,if_pos (ρ _ m)]
   ·rw[if_neg m,if_neg fun y=>(υ.mp y).elim (fun y=>e y.symm) m]
theorem nL{z:Str}: ∀{ks:List Str}{ds:List ν},ks.length=ds.length->(lkD (kvD ks ds) z).isSome=decide (z∈ks)
 |[],[],_=>rfl
 |k::ks,d::ds,h=>by
  show(if k=z then some d else lkD (kvD ks ds) z).isSome=_
  by_cases e:k=z
  ·subst e;simp
  ·rw[if_neg e,nL (jr h)];exact decide_eq_decide.mpr ⟨ρ _,fun y=>(υ.mp y).resolve_left fun y=>e y.symm⟩
theorem aQv{ok:V}{d:ν}{z:Str}(h:dB K H ok):lkD [(aDz ok,d)] z=none:=by
 rcases h with rfl|rfl|⟨b,rfl,_⟩ <;> rfl
structure DV (z:Bool) (P:io) (w:jl) (K:Δ) (H:Hp) (a:Addr) (u:HO) (ks:List Str) (os:List V) (kvs:List (ν×ν)):Prop where
 h:H a=some u
 mu:Mut (some u)
 ky:KyO P w a u (ks.map V.str++os)
 nd:ks.Nodup
 lo:∀k∈ks,Low k
 sh:∀k∈ks,k.length<=20
 len:kvs.length=ks.length+os.length
 ok:∀o∈os,dB K H o
 inq:∀(H':Hp),jG H H'->∀(z:Str) (Q:VK),Q (.bl (decide (z∈ks))) H'->rInQ P w K (.str z) (.ref a) H' Q
 lk:∀z,(lkD kvs z).isSome=decide (z∈ks)
 get:os=[]->∀y∈ks,∃v d,bB H a (.str y) (some v)/\lkD kvs y=some d/\Dq z P w K H v d
 few:ks.length+os.length<=51
theorem aEq{ks:List Str}{ds:List ν}(h:ks.length=ds.length):(kvD ks ds).length=ks.length:=by
 unfold kvD;rw[List.length_zipWith,h,Nat.min_self]
theorem Dq.dv(h:Dq z P w K H x (.dict kvs)):∃a u ks os,x=.ref a/\DV z P w K H a u ks os kvs:=by
 generalize hd:ue kvs=d at h;cases h with
 | @dct a ks xs ds h k t =>
  injection hd with hd;subst hd;have hl:ks.length=ds.length:=k.l.trans t.length;refine⟨a,_,ks,[],rfl,h,iu,by rw[mi];exact oP k.l (by have:=k.z;omega),k.nd,k.lo,k.sh,aEq hl,fun _ zz=>(by cases zz),fun H' g z Q q=>⟨z,a,ks,xs,rfl,rfl,k.l,k.nd,.inl (g _ _ h),q⟩,fun z=>nL hl,fun _ z hz=>?_,by have:=k.z;simp;omega⟩;obtain⟨j,hj⟩:=vh hz;have hjl:=(θ.mp hj).1;have ed:ds[j]?=some (ds[j]'(by omega)):=η _;obtain⟨v,hv,hdv⟩:=t.get ed;refine⟨v,_,?_,uJ k.nd (aEr hj ed),hdv⟩;have e:vX (kzA ks xs) (.inr z)=some v:=by
   unfold vX;rw[aLv k.nd hj hv];rfl
  rw[←e];exact bB.k (k:=.inr z) h
 | @odd a ks xs ds ok lv d h k o t v =>
  injection hd with hd;subst hd;have hl:ks.length=ds.length:=k.l.trans t.length;refine⟨a,_,ks,[ok],rfl,h,iu,aKb k.l (by have:=k.z;omega),k.nd,k.lo,k.sh,?_,fun o' z=>?_,fun H' g z Q q=>⟨z,a,ks,xs,rfl,rfl,k.l,k.nd,.inr ⟨ok,lv,o.same g,g _ _ h⟩,q⟩,fun z=>?_,fun z=>(by cases z),by have:=k.z;simp;omega⟩
  ·rw[ξ,aEq hl];rfl
  ·rw[Φ.mp z];exact o
  ·rw[aIn hl,aQv o]
   by_cases m:z∈ks
   ·rw[if_pos m];exact nL hl
   ·rw[if_neg m,decide_eq_false m];rfl
 |_=>cases hd
end
section
variable {X:Cx}{pins:List (Addr×Obj)}{σ:St}{H:Hp}{s:ς}
theorem lW{ks:List Str}{us:List Value}{ds:List ν}(z1:ks.length=us.length)(z2:ks.length=ds.length)(p:Pairs (kT P w) el (kzA ks us)):
  ReadsAll h (el.map (·.key)) ((kvD ks ds).map (·.1)) []/\el.map (·.val)=us/\(kvD ks ds).map (·.2)=ds:=by
 induction ks generalizing el us ds with
 |nil =>
  cases us with
  |nil =>
   cases ds with
   |nil =>
    cases p;exact⟨.nil,rfl,rfl⟩
   |cons _ _=>cases z2
  |cons _ _=>cases z1
 |cons k ks ih =>
  cases us with
  |nil=>cases z1
  |cons u us =>
   cases ds with
   |nil=>cases z2
   |cons d ds =>
    cases p with
    |cons p1 p2 p3 =>
     obtain⟨q1,q2,q3⟩:=ih (jr z1) (jr z2) p3;refine⟨.cons (as:=[]) (bs:=[]) (aHt (h:=h) p1) q1,?_,?_⟩
     ·rw[jp,q2];exact congrArg (· :: us) p2
     ·exact congrArg (d :: ·) q3
theorem cH : ∀{us vs:List Value}{ds es:List ν}{as bs:List Addr},ReadsAll h us ds as->ReadsAll h vs es bs->ReadsAll h (us++vs) (ds++es) (as++bs)
 |_,_,_,_,_,_,.nil,g=>g
 |_,_,_,_,_,_,.cons (as:=as) (bs:=bs) r t,g=>by
  rw[kj];exact .cons r (cH t g)
theorem Inv.readsO{ok:V}{u:Value}(I:Inv X pins σ H s)(h:dB X.K H ok)(r:RelV ok u):Reads s.heap u (aDz ok) []:=by
 rcases h with rfl|rfl|⟨b,rfl,h⟩
 ·cases r;exact .none
 ·obtain⟨t,rfl⟩:=r;exact .int 0 t
 ·cases r;obtain⟨its,rv,⟨o,e,hc,n,hd⟩,_⟩:=I.tuple h;obtain⟨v,rfl,t,rfl⟩:=rv.one;exact .tuple e hc hd (.cons (as:=[]) (bs:=[]) (.str _ t) .nil)
mutual
theorem Inv.readsQ(I:Inv X pins σ H s):∀{x:V}{d:ν}{u:Value},Dq true X.prog X.w X.K H x d->RelV x u->∃as,Reads s.heap u d as/\ja∉as
 |_,_,_,.non,r=>by cases r;exact⟨_,.none,by simp⟩
 |_,_,_,.bl b,r=>by cases r;exact⟨_,.bool b,by simp⟩
 |_,_,_,.int i,r=>by obtain⟨t,rfl⟩:=r;exact⟨_,.int i t,by simp⟩
 |_,_,_,.str x,r=>by obtain⟨t,rfl⟩:=r;exact⟨_,.str x t,by simp⟩
 |_,_,_,.lst h n ds,r=>by
  cases r;obtain⟨its,rv,⟨o,m,e,hc,_,hd⟩,_⟩:=I.list h;obtain⟨as,ra,hn⟩:=Inv.readsQs I ds rv;exact⟨_,.list e hc hd ra,by simp only[υ,not_or];exact⟨kh (n rfl),hn⟩⟩
 |_,_,_,.tup h ds,r=>by
  cases r;obtain⟨its,rv,⟨o,e,hc,n,hd⟩,_⟩:=I.tuple h;obtain⟨as,ra,hn⟩:=Inv.readsQs I ds rv;exact⟨_,.tuple e hc hd ra,hn⟩
 |_,_,_,.dct (a:=a) h k hv,r=>by
  cases r;obtain⟨hsm,us,rv,o,es,ep,e1,hx,e2,_,e3,_⟩:=I.dkz h k.l;obtain⟨bs,rb,hb⟩:=Inv.readsQs I hv rv;obtain⟨k1,k2,k3⟩:=lW (h:=s.heap) (k.l.trans rv.length) (k.l.trans hv.length) e3;refine⟨_,.dict e1 hx.1 e2 k1 (by rw[k2,k3];exact rb),?_⟩;have ha:ja≠a:=fun z=>by rw[←z]at hsm;simp at hsm
  simp only[List.nil_append,mi,oo,υ,not_or];exact⟨ha,hb⟩
 |_,_,_,.odd (a:=a) (ks:=ks) (ds:=ds) (ok:=ok) (d:=d) h k o hv hl,r=>by
  cases r;obtain⟨⟨hsm,us,uk,uo,h0,es,ep,el,r1,r2,r3,⟨ob,e1,hx,e2⟩,he,hp,_⟩,_⟩:=I.hok a _ h;obtain⟨bs,rb,hb⟩:=Inv.readsQs I hv r1;obtain⟨cs,rc,hc⟩:=Inv.readsQ I hl r3;obtain⟨k1,k2,k3⟩:=lW (h:=s.heap) (k.l.trans r1.length) (k.l.trans hv.length) hp;have ro:=I.readsO o r2;refine⟨_,.dict e1 hx.1 e2 (as:=[]++([]++[])) (bs:=bs++(cs++[])) ?_ ?_,?_⟩
  ·rw[he,τ,τ];exact cH k1 (.cons ro .nil)
  ·rw[he,τ,τ,k2,k3];exact cH rb (.cons rc .nil)
  have ha:ja≠a:=fun z=>by rw[←z]at hsm;simp at hsm
  simp only[List.nil_append,mi,oo,υ,iz,not_or];exact⟨ha,hb,hc⟩
theorem Inv.readsQs(I:Inv X pins σ H s):∀{xs:List V}{ds:List ν}{us:List Value},Dqs true X.prog X.w X.K H xs ds->kO xs us->∃as,ReadsAll s.heap us ds as/\ja∉as
 |_,_,_,.nil,r=>by cases r;exact⟨_,.nil,by simp⟩
 |_,_,_,.cons h t,r=>by
  cases r with
  |cons r1 r2 =>
   obtain⟨a1,e1,n1⟩:=Inv.readsQ I h r1;obtain⟨a2,e2,n2⟩:=Inv.readsQs I t r2;exact⟨_,.cons e1 e2,by simp only[iz,not_or];exact⟨n1,n2⟩⟩
end
def aPw (P:io) (w:jl) (K:Δ):List V->Hp->VK->Prop:=fun xs H Q=>∃x d,xs=[x]/\Dq true P w K H x d/\d.showable=true/\d.depth<=60/\d.shown.length<=χ/\Q (.str d.shown) H
theorem cC{P:io}{w:jl}{K:Δ}(hP:X.prog=P)(hw:X.w=w)(hK:X.K=K)(hg:X.A.guards=some [])(hu:X.A.units+64<pw):vD X (.builtin "repr") (aPw P w K):=by
 subst hP hw hK;intro pins s σ H xs us Q I r h;obtain⟨x,d,rfl,hd,hs,hdep,hsz,q⟩:=h;obtain⟨u,rfl,rx⟩:=r.one;have fin:∀(h':kq) (u:Tok) (tk:Nat),(∀b o,s.heap.get? b=some o->h'.get? b=some o)->EP X pins σ Q (.str d.shown u) { s with heap:=h',toks:=tk }:=fun h' u tk hk=>⟨.str d.shown,H,I.kept hk,⟨u,rfl⟩,q⟩;obtain⟨as,ra,hn⟩:=I.readsQ hd rx;cases ra with
 |none=>exact P.repr_of_none (fin s.heap _ _ (fun _ _ e=>e))
 |bool b=>cases b <;> exact P.repr_of_bool (fin s.heap _ _ (fun _ _ e=>e))
 |int i t=>exact P.repr_of_int (by simpa [ν.showable] using hs) (fin s.heap _ _ (fun _ _ e=>e))
 |str x t=>exact P.repr_of_str (fin s.heap _ _ (fun _ _ e=>e)) hsz
 |list h1 h2 h3 h4=>exact repr_of_reads' (.list h1 h2 h3 h4) hs (fun _=>hn) hg (by omega) (fun _ _ e=>e) fin hsz
 |tuple h1 h2 h3 h4=>exact repr_of_reads' (.tuple h1 h2 h3 h4) hs (fun _=>hn) hg (by omega) (fun _ _ e=>e) fin hsz
 |dict h1 h2 h3 h4 h5=>exact repr_of_reads' (.dict h1 h2 h3 h4 h5) hs (fun _=>hn) hg (by omega) (fun _ _ e=>e) fin hsz
end
def kyD:V->ν
 |.str k=>.str k
 |v=>aDz v
def shV (v:V):Str:=(kyD v).shown
theorem aPa{H:Hp}(h:H a=some u)(m:Mut (some u))(o':Obj)(u':HO):H a≠some (.frz o' u'):=fun z=>by
 rw[h]at z;cases z;exact m
theorem nY{H H1 H2:Hp}(h:H a=some u)(hp:upd H a (.frz o u) p=none)(e1:upd (upd H a (.frz o u)) p (.lst ys)=H1)(e2:upd H1 a u=H2):jG H H2/\H2 p=some (.lst ys)/\H1 a=some (.frz o u):=by
 have ne:p≠a:=fun z=>by rw[z,jR]at hp;cases hp
 have hp0:H p=none:=by rw[jS ne]at hp;exact hp
 subst e1 e2;refine⟨fun b w' e=>?_,by rw[jS ne,jR],by rw[jS (kh ne),jR]⟩
 by_cases z:b=a
 ·subst z;rw[jR,←h,e]
 ·rw[jS z,jS (fun y=>by rw[y,hp0]at e;cases e),jS z];exact e
theorem aIg{K:Δ}(h:dB K H ok):Dq true P w K H ok (kyD ok)/\(kyD ok).showable=true/\(kyD ok).depth<=60/\(kyD ok).shown.length<=χ/\aLh (shV ok)/\Sml (shV ok):=by
 rcases h with rfl|rfl|⟨b,rfl,h⟩
 ·exact⟨.non,rfl,by decide,by ac_rfl,⟨78,_,rfl,by decide⟩,by unfold Sml;ac_rfl⟩
 ·exact⟨.int 0,rfl,by decide,by ac_rfl,⟨48,[],by ac_rfl,by decide⟩,by unfold Sml;ac_rfl⟩
 ·exact⟨.tup h (.cons (.str _) .nil),rfl,(by show(vt [.str (ζ "a")]).depth<=60;decide),(by show(vt [.str (ζ "a")]).shown.length<=χ;ac_rfl),⟨40,[39,97,39,44,41],(by show(vt [.str (ζ "a")]).shown.cps.toList=_;ac_rfl),by decide⟩,(by show((vt [.str (ζ "a")]).shown.cps.toList.all fun c=>decide (c<128))=true;ac_rfl)⟩
theorem aEy(h:Low k):Sml (ul k):=by
 unfold Sml;rw[dR h];refine ia.mpr fun c hc=>decide_eq_true ?_;rcases υ.mp hc with rfl|hc
 ·omega
 ·rcases iz.mp hc with hc|hc
  ·have:=h c hc;omega
  ·rw[Φ.mp hc];omega
theorem aMb(h:Low k):(ul k).length=k.length+2:=by
 show(ul k).cps.size=k.cps.size+2;rw[←jb,dR h,gj,ξ,jb];rfl
theorem aAh : ν.eqv (.str x) (.str y)=decide (x=y):=by
 show(x == y)=_
 by_cases e:x=y
 ·subst e;simp
 ·rw[decide_eq_false e];simp[e]
theorem aCc:∀{a b:List Str},ν.eqvAll (a.map .str) (b.map .str)=decide (a=b)
 |[],[]=>rfl
 |[],_::_=>rfl
 |_::_,[]=>rfl
 |x::a,y::b=>by
  show(ν.eqv (.str x) (.str y)&&ν.eqvAll (a.map .str) (b.map .str))=_;rw[aCc (a:=a) (b:=b)]
  by_cases e:x=y
  ·subst e;rw[aAh,decide_eq_true rfl,ow];exact decide_eq_decide.mpr ⟨fun z=>by rw[z],fun z=>(tf z).2⟩
  ·rw[aAh,decide_eq_false e,decide_eq_false (fun z=>e (tf z).1)];rfl
theorem lR{a:List Str}(h:∀x∈a,Sml x):vo (.list (a.map .str))=true:=by
 have hc:∀{a:List Str},(∀x∈a,Sml x)->ν.canLayAll0 (a.map .str)=true:=by
  intro a
  induction a with
  |nil=>intro _;rfl
  |cons x a ih =>
   intro h;show(ν.canLay0 (.str x)&&ν.canLayAll0 (a.map .str))=true;rw[SeqAt.canLay_of_shaped (h x (ψ ..)).ok,ih fun y hy=>h y (ρ _ hy)];rfl
 have hd:∀{a:List Str},ji (a.map .str)<=0:=by
  intro a
  induction a with
  |nil=>exact μ _
  |cons x a ih=>exact oz.mpr ⟨gw _,ih⟩
 have e1:(ν.list (a.map .str)).canLay0=true:=hc h;unfold vo;rw[e1,ow];exact decide_eq_true (Ψ (ua hd) (by decide))
theorem aCf{ks names s1 s2:List Str}{os:List V}(hk:ks.Nodup)(hn:names.Nodup)(lk:∀k∈ks,Low k)(ln:∀k∈names,Low k)(ho:∀o∈os,aLh (shV o))(p1:s1.Perm ((ks.map V.str++os).map shV))(q1:sortedS s1=true)(p2:s2.Perm (names.map ul))(q2:sortedS s2=true):
  decide (s1=s2)=(decide (ks.length+os.length=names.length)&&names.all fun x=>decide (x∈ks)):=by
 have e:(ks.map V.str++os).map shV=ks.map ul++os.map shV:=by
  rw[τ,jf]
  congr 1
 have main:=aHo (ok:=os.map shV) hk hn lk ln fun s hs=>by obtain⟨o,ho',rfl⟩:=ib.mp hs;exact ho o ho'
 rw[δ]at main;rw[e]at p1;rw[←Bool.decide_eq_true (b:=List.all _ _),←Bool.decide_and];refine decide_eq_decide.mpr ⟨fun z=>?_,fun z=>?_⟩
 ·subst z;have:=main.mp (p1.symm.trans p2);exact⟨this.1,ia.mpr fun x hx=>decide_eq_true (this.2 x hx)⟩
 ·refine pM q1 q2 (p1.trans ((main.mpr ⟨z.1,fun x hx=>?_⟩).trans p2.symm));exact of_decide_eq_true (ia.mp z.2 x hx)
theorem dB.frz{K:Δ}{H:Hp}{ok:V}{a:Addr}{u:HO}{o:Obj}(h:dB K H ok)(ha:H a=some u)(m:Mut (some u)):dB K (upd H a (.frz o u)) ok:=by
 rcases h with h|h|⟨b,e,h⟩
 ·exact .inl h
 ·exact .inr (.inl h)
 ·refine .inr (.inr ⟨b,e,?_⟩);rcases h with (h|⟨o',h⟩)|h
  ·have ne:b≠a:=fun z=>by rw[z,ha]at h;cases h;exact m
   exact .inl (.inl (by rw[jS ne];exact h))
  ·have ne:b≠a:=fun z=>by rw[z,ha]at h;cases h;exact m
   exact .inl (.inr ⟨o',by rw[jS ne];exact h⟩)
  ·exact .inr h
theorem nV{K:Δ}: ∀(ss:List Str),DatAll K H (ss.map V.str) (ss.map PyData.str)
 |[]=>.nil
 |x::ss=>.cons (.str x) (nV ss)
theorem aLb(h:Low k)(hl:k.length<=20):(PyData.str k).shown.length<=χ:=by
 rw[ν.shown_str,aMb h,ic];omega
theorem DV.key{K:Δ}{os:List V}(D:DV z P w K H a u ks os kvs)(o:Obj){y:V}(hy:y∈ks.map V.str++os):Dq true P w K (upd H a (.frz o u)) y (kyD y)/\(kyD y).showable=true/\(kyD y).depth<=60/\(kyD y).shown.length<=χ/\Sml (shV y):=by
 rcases iz.mp hy with hy|hy
 ·obtain⟨k,hk,rfl⟩:=ib.mp hy;have hl:=D.lo k hk;exact⟨.str k,rfl,gw _,aLb hl (D.sh k hk),by show Sml (PyData.str k).shown;rw[ν.shown_str];exact aEy hl⟩
 ·obtain⟨q1,q2,q3,q4,_,q5⟩:=aIg (P:=P) (w:=w) ((D.ok y hy).frz (o:=o) D.h D.mu);exact⟨q1,q2,q3,q4,q5⟩
section
variable {X:Cx}
def aKe (kvs:List (Key×V)) (k:Key):List (Key×V):=kvs.filter fun kv=>decide (kv.1≠k)
theorem aDu : ∀{kvs:List (Key×V)}{vs:List (Key×Value)},KV kvs vs->KV (aKe kvs k) (without vs k)
 |_,_,.nil=>.nil
 |_,_,.cons (a:=p) (b:=q) r t=>by
  unfold aKe without;rw[vn,vn,r.1]
  split
  ·exact .cons r (aDu t)
  ·exact aDu t
theorem wG:MtR X "dict.pop" (fun x vs H Q=>∃(a:Addr) (kvs:List (Key×V)) (k:Str) (v:V),x=.ref a/\vs=[.str k]/\H a=some (.dK kvs)/\vX kvs (.inr k)=some v/\Q v (upd H a (.dK (aKe kvs (.inr k))))):=by
 intro pins s σ H x vs v us Q I rx rv h;obtain⟨a,kvs,k,y,rfl,rfl,ha,hv,q⟩:=h;cases rx;obtain⟨u,rfl,t,rfl⟩:=rv.one;obtain⟨z,hd,ws,rel,dd⟩:=dN I.hok ha;obtain⟨yv,hy,ry⟩:=bS.some_of (v:=y) (o:=vm ws (.inr k)) (by rw[←hv];exact rel.val _);refine xn uy dd.typeIs PySem.F.entry_dict_pop (PySem.F.args_dict_pop_2 _ _) (meets_dict_pop_there (kT X.prog X.w) a (k:=.inr k) (lZ (show RelV (kV (.inr k)) (.str k t) from⟨t,rfl⟩)) [] (.inl rfl) rfl) ⟨ws,yv,dd,(by rw[←rel.length];exact z),hy,fun h' dd' hs=>⟨y,_,?_,ry,q⟩⟩;have he:∃q,h'.get? a=some q:=let ⟨q,_,_,hq,_⟩:=dd'; ⟨q,hq⟩;exact eG (t':=s.toks+1) I (by rw[ha];exact iu) hs he (iU (Ψ (List.length_filter_le _ _) z) hd (aDu rel) dd')
def ViewF (v a:Addr):kq->Prop:=fun h=>h.IsValuesView v a
def aKu (v a:Addr):HO:=.ext (ViewF v a)
theorem aHv:MtR X "dict.values" (fun x vs H Q=>∃(a:Addr) (kvs:List (Key×V)),x=.ref a/\vs=[]/\H a=some (.dK kvs)/\∀v,H v=none->Q (.ref v) (upd H v (aKu v a))):=by
 intro pins s σ H x vs v us Q I rx rv h;obtain⟨a,kvs,rfl,rfl,ha,q⟩:=h;cases rx;have hus:=rv.zero;subst hus;obtain⟨z,hd,ws,rel,dd⟩:=dN I.hok ha;refine xn PySem.F.slot_dict_values dd.typeIs PySem.F.entry_dict_values (PySem.F.args_dict_values_1 _) (meets_dict_values (kT X.prog X.w) a hd) ⟨⟨ws,dd⟩,?_⟩;have hv:(s.heap.push { cls:=.type "dict_values",data:=.fields #[.ref a] }).IsValuesView s.heap.objs.size a:=⟨_,gm _ rfl,rfl,rfl⟩;refine⟨.ref s.heap.objs.size,_,I.laid (t':=s.toks) (fun b ob q=>ω _ q) (μ _) (show qO X.prog X.w _ _ _ (aKu s.heap.objs.size a) from⟨hv,⟨_,gm _ rfl⟩,fun h1 h2 y g=>?_⟩),rfl,q _ (I.hok.fresh (μ _))⟩;obtain⟨o,e,c⟩:=y;exact⟨o,g o e,c⟩
theorem wZ:∀{kvs:List (Key×V)}{vs:List (Key×Value)},KV kvs vs->kO (kvs.map (·.2)) (vs.map (·.2))
 |_,_,.nil=>.nil
 |_,_,.cons r t=>.cons r.2 (wZ t)
theorem aCl(hc:X.calm=true):vD X (.type "list") (fun xs H Q=>∃(v a:Addr) (kvs:List (Key×V)),xs=[.ref v]/\H v=some (aKu v a)/\H a=some (.dK kvs)/\kvs.length<=1000/\∀l,H l=none->Q (.ref l) (upd H l (.lst (kvs.map (·.2))))):=by
 intro pins s σ H xs us Q I r h;obtain⟨v,a,kvs,rfl,hv,ha,hz,q⟩:=h;obtain⟨u,rfl,ru⟩:=r.one;cases ru;obtain⟨z,hd,vs,rel,dd⟩:=dN I.hok ha;obtain⟨ep,hat⟩:=dd.dictAt;obtain⟨hvv,_⟩:=I.hok v _ hv;have hl:kvs.length=vs.length:=wd rel;refine PySem.W.kdl_call (PySem.W.kdl_values (knd:=kT X.prog X.w) (kvs:=vs) (ep:=ep) (r:=v) (d:=a)) (I.ok.hd hc) ⟨hvv,hat⟩ (by rw[ic];omega) fun h' tk acc c' hk hD hacc=>?_;refine⟨.ref s.heap.objs.size,_,I.laid hk (μ _) (show qO X.prog X.w _ h' _ (.lst (kvs.map (·.2))) from⟨?_,acc.toList,c',?_,by simpa using hD⟩),rfl,q _ (I.hok.fresh (μ _))⟩
 ·rw[δ,ic];omega
 ·have e:=PySem.W.kdl_vals_eq (kvs:=vs) acc.toList (by rw[jb];exact hacc.1) fun j v e=>hacc.2 j v (by rw[←px];exact e);rw[e];exact wZ rel
theorem aAg{P:ς->Prop}(hP:∀s tk,P s->P { s with toks:=tk }){tp:Addr}{cs:List Value}{tk:Tok}{s:ς}{Q:Fin->ς->Prop}
  (hT:s.TypeIs x Tx)(ht:s.heap.get? tp=some ot)(htc:ot.cls=.type "tuple")(htd:ot.data=.seq cs.toArray n)(ha:AnswersAll P x cs bs)(hs:P s)
  (hq:∀tk',Q (.done (.ret (.bool (bs.any id)))) { s with toks:=tk' }):gp (ik prog w) A (oy.«isinstance.nested» ⟨[x,.ref tp,.int 0 tk],[]⟩) Q E s:=by
 unfold oy.«isinstance.nested»;refine ε (m:=typeOf x) (wpAny_typeOf hT ?_);show gp _ _ (if (wn Tx == jm tp)=true then _ else _) _ _ s;rw[if_neg (by simp)];refine ε (m:=typeOf (.ref tp)) (wpAny_typeOf_ref ht ?_);rw[htc];show gp _ _ (if (wn "tuple" == wn "type")=true then _ else _) _ _ s;rw[if_neg (by decide)];refine ε ?_;unfold oy.Builtins.unionMembers;refine ε (m:=typeOf (.ref tp)) (wpAny_typeOf_ref ht ?_);rw[htc];show gp _ _ (if (wn "tuple" == wn "types.UnionType")=true then _ else _) _ _ s;rw[if_neg (by decide)];refine π ?_;refine ε (ub (T:="tuple") (b:=true) ⟨ot,ht,htc⟩ F.isi_sub_tuple ?_);rw[if_pos rfl];show gp _ _ (if (0:Int)≥oy.Builtins.nestingLimit then _ else _) _ _ s;rw[if_neg (by decide)];refine ε (qh ht htd ?_);refine ε ?_;refine wpAny_arrayLoop ?_;simp only[Option.getD_some,List.toList_toArray];refine isinstance_items (dep:=0) hP cs bs _ _ ha hs fun tk'=>?_;cases hv:bs.any id with
 |true =>
  simp only[if_true];exact π (hv ▸ hq tk')
 |false =>
  simp only[li,if_false];exact ε (π (π (hv ▸ hq tk')))
theorem aHh:vD X (.builtin "isinstance") (fun xs H Q=>∃(x:V) (tp:Addr) (t:String),xs=[x,.ref tp]/\H tp=some (.tup [.ty "list",.ty "tuple"])/\tyN X.K x H t/\(t = "int" ∨ t = "list" ∨ t = "tuple")/\Q (.bl (t == "list" || t == "tuple")) H):=by
 intro pins s σ H xs us Q I r h;obtain⟨x,tp,t,rfl,ht,hx,ho,q⟩:=h;obtain⟨u,v,rfl,ru,rv⟩:=vals2 r;cases rv;obtain⟨_,its,rt,ot,t1,t2,n,t3⟩:=I.hok tp _ ht;have ei:its=[.type "list",.type "tuple"]:=by
  cases rt with
  |cons a b=>cases b with
   |cons c d=>cases d;cases a;cases c;rfl
 subst ei;have go:∀(Tx:String) (b1 b2:Bool),s.TypeIs u Tx->AnswersAll (fun s=>s.TypeIs u Tx) u [.type "list",.type "tuple"] [b1,b2]->Q (.bl (b1||b2)) H->gp (ik X.prog X.w) X.A (call (.builtin "isinstance") [u,.ref tp]) (EP X pins σ Q) X.xe s:=fun Tx b1 b2 hT ha q'=>by
  refine call_isinstance_of ?_ (ς.TypeIs.not_mainsLoader hT);refine aAg (P:=fun s=>s.TypeIs u Tx) (fun _ tk h=>h.toks tk) hT t1 t2 t3 ha hT fun tk=>⟨.bl (b1||b2),H,I.tok _,?_,q'⟩;cases b1 <;> cases b2 <;> rfl
 cases x with
 |int i =>
  obtain⟨tk,rfl⟩:=ru;have e:t = "int":=hx;subst e;exact go "int" false false (typeIs_int s i tk) ⟨Answers.of_false_int (by ac_rfl) F.isi_meta_list F.sub_int_list,Answers.of_false_int (by ac_rfl) F.isi_meta_tuple F.sub_int_tuple,trivial⟩ q
 |ref p =>
  cases ru;rcases hx with⟨rfl,xs,hx⟩|⟨rfl,xs,hx⟩
  ·obtain⟨i1,_,p1,_⟩:=I.list hx;exact go "list" true false p1.isList.typeIs ⟨Answers.of_true F.isi_meta_list F.sub_list_list,Answers.of_false_list (by ac_rfl) F.isi_meta_tuple F.sub_list_tuple,trivial⟩ q
  ·obtain⟨i1,_,⟨o,e,hc,n',hd⟩,_⟩:=I.tuple hx;exact go "tuple" false true ⟨o,e,hc⟩ ⟨Answers.of_false_tuple (by ac_rfl) F.isi_meta_list F.sub_tuple_list,Answers.of_true F.isi_meta_tuple F.sub_tuple_tuple,trivial⟩ q
 |non=>have e:t = "NoneType":=hx;subst e;rcases ho with z|z|z <;> exact absurd z (by decide)
 |bl b=>have e:t = "bool":=hx;subst e;rcases ho with z|z|z <;> exact absurd z (by decide)
 |str y=>have e:t = "str":=hx;subst e;rcases ho with z|z|z <;> exact absurd z (by decide)
 |_=>exact hx.elim
theorem kO.rev:∀{xs:List V}{us:List Value},kO xs us->kO xs.reverse us.reverse
 |_,_,.nil=>.nil
 |_,_,.cons r t=>by
  rw[qm,qm];exact(kO.rev t).append (.cons r .nil)
theorem aPr{st:Expr}{te ts:TE}(he:PE X e te)(hst:PE X st ts)(hsub:∀v r,∃ops,subscripted (.Slice none none (some st) p2) false v r=operate ops (getItem v r):=by intro v r;exact⟨_,by with_unfolding_all rfl⟩):PE X (.Subscript e (.Slice none none (some st) p2) pos) (fun σ H Q=>te σ H fun x H1=>ts σ H1 fun y H2=>y=.int (-1)/\∃(a:Addr) (xs:List V),x=.ref a/\SqL X.K H2 a xs/\∀p,H2 p=none->Q (.ref p) (upd H2 p (.lst xs.reverse))):=by
 intro pins s σ H Q I h;refine Subscript_ (thn (he pins s σ H _ I h) fun v s1 zq=>?_);obtain⟨x,H1,I1,r1,q1⟩:=zq;refine wpAny_Slice ?_;rw[evalPart_none];refine π ?_;refine π ?_;rw[evalPart_some];refine thn (hst pins s1 σ H1 _ I1 q1) fun vk s3 zq=>?_;obtain⟨y,H3,I3,r3,q3⟩:=zq;obtain⟨rfl,a,xs,rfl,hx,q⟩:=q3;obtain⟨t,rfl⟩:=r3;cases r1;have I4:Inv X pins σ H3 { s3 with heap:=s3.heap.push { cls:=.type "slice",data:=.fields #[.none,.none,.int (-1) t] } }:=I3.kept (t':=s3.toks) fun b ob q=>ω _ q;obtain⟨its,rr,ht,hz⟩:=I4.list hx;have hlen:=rr.length;show gp (ik X.prog X.w) X.A (subscriptTail e (.Slice none none (some st) p2) (.ref a) (.ref s3.heap.objs.size)) (EP X pins σ Q) X.xe { s3 with heap:=s3.heap.push { cls:=.type "slice",data:=.fields #[.none,.none,.int (-1) t] } };obtain⟨ops,ho⟩:=hsub (.ref a) (.ref s3.heap.objs.size);refine tail_any (ops:=ops) ht.isList.typeIs xh.lookup ?_ ho;refine wg ht.isList (kq.IsSliceOf.new ..) .none .none (.int (-1) t) (by simp) ?_ (by rw[Ξ] <;> omega);rw[PySem.W.krv_pick];refine⟨.ref _,_,I4.laid (t':=s3.toks) (o:=.lst xs.reverse) (fun b ob q=>ω _ q) (μ _) ⟨by rw[qv];exact hz,its.reverse,0,?_,?_⟩,rfl,q _ (I4.hok.fresh (μ _))⟩
 ·exact rr.rev
 ·exact gm _ rfl
end
theorem SnA.app(h:SnA ds n m)(g:SnA es n' m):SnA (ds++es) (n+n') m:=by
 induction ds generalizing n with
 |nil=>exact⟨g.sh,g.ls,Ψ g.wt (Nat.le_add_left _ _),g.dp⟩
 |cons d ds ih =>
  have h1:(d.showable&&qa ds)=true:=h.sh;have h2:(d.leavesShort 200&&nr 200 ds)=true:=h.ls;have h3:d.weight+1+mq ds<=n:=h.wt;have h4:=oz.mp (show max d.depth (ji ds)<=m from h.dp);obtain⟨a1,a2⟩:=jd.mp h1;obtain⟨b1,b2⟩:=jd.mp h2;have:=SnA.cons (n:=d.weight) ⟨a1,b1,μ _,h4.1⟩ (ih (n:=mq ds) ⟨a2,b2,μ _,h4.2⟩);exact⟨this.sh,this.ls,Ψ this.wt (by omega),this.dp⟩
theorem SnA.hd{d:ν}{ds:List ν}(h:SnA (d::ds) n m):Sn d n m/\SnA ds n m:=by
 have h1:(d.showable&&qa ds)=true:=h.sh;have h2:(d.leavesShort 200&&nr 200 ds)=true:=h.ls;have h3:d.weight+1+mq ds<=n:=h.wt;have h4:=oz.mp (show max d.depth (ji ds)<=m from h.dp);obtain⟨a1,a2⟩:=jd.mp h1;obtain⟨b1,b2⟩:=jd.mp h2;exact⟨⟨a1,b1,by omega,h4.1⟩,⟨a2,b2,by omega,h4.2⟩⟩
theorem SnA.drop:∀{k:Nat}{ds:List ν}{n m:Nat},SnA ds n m->SnA (ds.drop k) n m
 |0,_,_,_,h=>h
 |_+1,[],_,_,h=>h
 |k+1,_::ds,_,_,h=>SnA.drop (k:=k) (ds:=ds) h.hd.2
theorem Sn.lst{ds:List ν}{n m:Nat}(h:Sn (.list ds) n m):∃k,m=k+1/\SnA ds n k:=by
 have hd:ji ds+1<=m:=h.dp;exact⟨m-1,by omega,h.sh,h.ls,h.wt,by omega⟩
theorem Sn.tup{ds:List ν}{n m:Nat}(h:Sn (.tuple ds) n m):∃k,m=k+1/\SnA ds n k:=by
 have hd:ji ds+1<=m:=h.dp;exact⟨m-1,by omega,h.sh,h.ls,h.wt,by omega⟩
theorem Sn.dct{ps:List (ν×ν)}{n m:Nat}(h:Sn (.dict ps) n m):∃k,m=k+1/\SnK ps n k:=by
 have hd:qi ps+1<=m:=h.dp;exact⟨m-1,by omega,h.sh,h.ls,h.wt,by omega⟩
theorem SnK.hd{d:ν}{ps:List (ν×ν)}(h:SnK ((.str x,d)::ps) n m):∃n1 n2,Sn d n1 m/\SnK ps n2 m/\x.length+n1+2+n2<=n:=by
 have h1:(true&&d.showable&&uz ps)=true:=h.sh;have h2:((PyData.str x).leavesShort 200&&d.leavesShort 200&&su 200 ps)=true:=h.ls;have h3:x.cps.size+d.weight+2+sr ps<=n:=h.wt;have h4:=oz.mp (show max (max 0 d.depth) (qi ps)<=m from h.dp);obtain⟨a1,a2⟩:=jd.mp h1;obtain⟨b0,b2⟩:=jd.mp h2;obtain⟨b0,b1⟩:=jd.mp b0;exact⟨d.weight,sr ps,⟨a1,b1,μ _,Ψ (Nat.le_max_right _ _) h4.1⟩,⟨a2,b2,μ _,h4.2⟩,h3⟩
theorem Low.sml(h:Low k):Sml k:=ia.mpr fun c hc=>decide_eq_true (by have:=h c hc;omega)
section
variable {P:io}{w:jl}{K:Δ}{H:Hp}
structure KD (P:io) (w:jl) (K:Δ) (H:Hp) (ks:List Str) (xs:List V) (ds:List ν) (W m:Nat):Prop where
 k:Ks ks xs.length
 d:Dqs true P w K H xs ds
 s:SnK (kvD ks ds) W m
theorem Ks.tl{k:Str}{ks:List Str}{x:V}{xs:List V}(h:Ks (k::ks) (x::xs).length):Ks ks xs.length/\k∉ks/\Low k/\k.length<=20:=⟨⟨jr h.l,Ψ (rj _) h.z,(jh.mp h.nd).2,fun y hy=>h.lo y (ρ _ hy),fun y hy=>h.sh y (ρ _ hy)⟩,(jh.mp h.nd).1,h.lo k (ψ ..),h.sh k (ψ ..)⟩
theorem KD.cut{m:Nat}{k:Str}: ∀{ks:List Str}{xs:List V}{ds:List ν}{W:Nat},KD P w K H ks xs ds W m->∃ks' xs' ds',aKe (kzA ks xs) (.inr k)=kzA ks' xs'/\KD P w K H ks' xs' ds' W m/\ks'.length<=ks.length/\∀y∈ks',y∈ks/\y≠k
 |[],[],ds,W,h=>⟨[],[],ds,rfl,h,μ _,fun y hy=>(by cases hy)⟩
 |y::ks,x::xs,ds,W,h=>by
  obtain⟨k1,n1,l1,s1⟩:=h.k.tl;cases h.d with
  | @cons _ _ d ds h0 h1 =>
   obtain⟨w1,w2,q1,q2,q3⟩:=SnK.hd (show SnK ((.str y,d)::kvD ks ds) W m from h.s);obtain⟨ks',xs',ds',e,K',le,mem⟩:=KD.cut (k:=k) (ks:=ks) (xs:=xs) (ds:=ds) (W:=w2) ⟨k1,h1,q2⟩;have ec:aKe (kzA (y::ks) (x::xs)) (.inr k)=if y=k then kzA ks' xs' else ((.inr y:Key),x)::kzA ks' xs':=by
    rw[←e];show List.filter _ (((.inr y:Key),x)::kzA ks xs)=_;rw[vn]
    by_cases z:y=k
    ·subst z;rw[if_pos rfl,if_neg (by simp)];rfl
    ·rw[if_neg z,if_pos (by simp;exact z)];rfl
   rw[ec]
   by_cases z:y=k
   ·rw[if_pos z];exact⟨ks',xs',ds',rfl,⟨K'.k,K'.d,⟨K'.s.sh,K'.s.ls,Ψ K'.s.wt (by omega),K'.s.dp⟩⟩,Ψ le (rj _),fun u hu=>⟨ρ _ (mem u hu).1,(mem u hu).2⟩⟩
   ·rw[if_neg z];have l1':=K'.k.l;refine⟨y::ks',x::xs',d::ds',rfl,⟨⟨congrArg (·+1) l1',?_,jh.mpr ⟨fun q=>n1 (mem y q).1,K'.k.nd⟩,fun u hu=>?_,fun u hu=>?_⟩,.cons h0 K'.d,?_⟩,ua le,fun u hu=>?_⟩
    ·have:=h.k.z;simp only[gj]at this ⊢;omega
    ·rcases υ.mp hu with rfl|hu
     ·exact l1
     ·exact K'.k.lo u hu
    ·rcases υ.mp hu with rfl|hu
     ·exact s1
     ·exact K'.k.sh u hu
    ·have:=SnK.cons l1.sml q1 K'.s;exact⟨this.sh,this.ls,Ψ this.wt q3,this.dp⟩
    ·rcases υ.mp hu with rfl|hu
     ·exact⟨ψ ..,z⟩
     ·exact⟨ρ _ (mem u hu).1,(mem u hu).2⟩
theorem KD.val{k:Str}: ∀{ks:List Str}{xs:List V}{ds:List ν}{W:Nat},KD P w K H ks xs ds W m->k∈ks->∃v d,vX (kzA ks xs) (.inr k)=some v/\Dq true P w K H v d/\Sn d W m
 |y::ks,x::xs,ds,W,h,hm=>by
  obtain⟨k1,n1,l1,s1⟩:=h.k.tl;cases h.d with
  | @cons _ _ d ds h0 h1 =>
   obtain⟨w1,w2,q1,q2,q3⟩:=SnK.hd (show SnK ((.str y,d)::kvD ks ds) W m from h.s)
   by_cases z:y=k
   ·subst z;exact⟨x,d,vO (p:=((.inr y:Key),x)) (r:=kzA ks xs) rfl,h0,q1.le (by omega) (μ _)⟩
   ·obtain⟨v,d',e,a1,a2⟩:=KD.val (ks:=ks) (xs:=xs) (ds:=ds) (W:=w2) ⟨k1,h1,q2⟩ ((υ.mp hm).resolve_left fun q=>z q.symm);exact⟨v,d',(vN (p:=((.inr y:Key),x)) (r:=kzA ks xs) fun q=>z (qf q)).trans e,a1,a2.le (by omega) (μ _)⟩
 |y::ks,[],_,_,h,_=>by have:=h.k.l;cases this
theorem tP{k:Str}{v:V}: ∀{ks:List Str}{xs:List V},k∉ks->(kzA ks xs).map (fun kv=>if kv.1=(.inr k:Key) then (kv.1,v) else kv)=kzA ks xs
 |[],_,_=>rfl
 |_::_,[],_=>rfl
 |y::ks,x::xs,h=>by
  have h1:¬ ((.inr y:Key)=.inr k):=fun q=>h (by rw[qf q];exact ψ ..);show(if ((.inr y:Key))=.inr k then _ else ((.inr y:Key),x))::(kzA ks xs).map _=_;rw[if_neg h1,tP fun q=>h (ρ _ q)];rfl
theorem KD.set{k:Str}(hv:Dq true P w K H v dv)(sv:Sn dv Wv m):∀{ks:List Str}{xs:List V}{ds:List ν}{W:Nat},KD P w K H ks xs ds W m->k∈ks->∃xs' ds',(kzA ks xs).map (fun kv=>if kv.1=(.inr k:Key) then (kv.1,v) else kv)=kzA ks xs'/\KD P w K H ks xs' ds' (W+Wv) m
 |y::ks,x::xs,ds,W,h,hm=>by
  obtain⟨k1,n1,l1,s1⟩:=h.k.tl;cases h.d with
  | @cons _ _ d ds h0 h1 =>
   obtain⟨w1,w2,q1,q2,q3⟩:=SnK.hd (show SnK ((.str y,d)::kvD ks ds) W m from h.s)
   by_cases z:y=k
   ·subst z;refine⟨v::xs,dv::ds,?_,⟨h.k.l,h.k.z,h.k.nd,h.k.lo,h.k.sh⟩,.cons hv h1,?_⟩
    ·show(if ((.inr y:Key))=.inr y then ((.inr y:Key),v) else _)::(kzA ks xs).map _=_;rw[if_pos rfl,tP n1];rfl
    ·have:=SnK.cons l1.sml sv q2;exact⟨this.sh,this.ls,Ψ this.wt (by omega),this.dp⟩
   ·obtain⟨xs',ds',e,K'⟩:=KD.set hv sv (ks:=ks) (xs:=xs) (ds:=ds) (W:=w2) ⟨k1,h1,q2⟩ ((υ.mp hm).resolve_left fun q=>z q.symm);refine⟨x::xs',d::ds',?_,⟨congrArg (·+1) K'.k.l,h.k.z,h.k.nd,h.k.lo,h.k.sh⟩,.cons h0 K'.d,?_⟩
    ·show(if ((.inr y:Key))=.inr k then _ else ((.inr y:Key),x))::(kzA ks xs).map _=_;rw[if_neg fun q=>z (qf q),e];rfl
    ·have:=SnK.cons l1.sml q1 K'.s;exact⟨this.sh,this.ls,Ψ this.wt (by omega),this.dp⟩
 |y::ks,[],_,_,h,_=>by have:=h.k.l;cases this
theorem KD.snoc{m:Nat}{k:Str}{v:V}{dv:ν}{Wv:Nat}(hk:Low k)(hs:k.length<=20)(hv:Dq true P w K H v dv)(sv:Sn dv Wv m):∀{ks:List Str}{xs:List V}{ds:List ν}{W:Nat},KD P w K H ks xs ds W m->k∉ks->ks.length<50->kzA ks xs++[((.inr k:Key),v)]=kzA (ks++[k]) (xs++[v])/\KD P w K H (ks++[k]) (xs++[v]) (ds++[dv]) (W+Wv+22) m
 |[],[],ds,W,h,_,_=>by
  have hd:=h.d;cases hd;refine⟨rfl,⟨rfl,by show 1<=50;decide,jh.mpr ⟨by simp,vg⟩,fun y hy=>?_,fun y hy=>?_⟩,.cons hv .nil,?_⟩
  ·rw[Φ.mp hy];exact hk
  ·rw[Φ.mp hy];exact hs
  ·have:=SnK.cons hk.sml sv (SnK.nil m);exact⟨this.sh,this.ls,Ψ this.wt (by omega),this.dp⟩
 |y::ks,x::xs,ds,W,h,hn,hz=>by
  obtain⟨k1,n1,l1,s1⟩:=h.k.tl;cases h.d with
  | @cons _ _ d ds h0 h1 =>
   obtain⟨w1,w2,q1,q2,q3⟩:=SnK.hd (show SnK ((.str y,d)::kvD ks ds) W m from h.s);obtain⟨e,K'⟩:=KD.snoc hk hs hv sv (ks:=ks) (xs:=xs) (ds:=ds) (W:=w2) ⟨k1,h1,q2⟩ (fun q=>hn (ρ _ q)) (by simp at hz;omega);refine⟨congrArg (((.inr y:Key),x) :: ·) e,⟨congrArg (·+1) K'.k.l,?_,jh.mpr ⟨fun q=>?_,K'.k.nd⟩,fun u hu=>?_,fun u hu=>?_⟩,.cons h0 K'.d,?_⟩
   ·simp only[gj,ξ,List.length_nil]at hz ⊢;omega
   ·rcases iz.mp q with q|q
    ·exact n1 q
    ·exact hn (by rw[Φ.mp q];exact ψ ..)
   ·rcases υ.mp hu with rfl|hu
    ·exact l1
    ·exact K'.k.lo u hu
   ·rcases υ.mp hu with rfl|hu
    ·exact s1
    ·exact K'.k.sh u hu
   ·have:=SnK.cons l1.sml q1 K'.s;exact⟨this.sh,this.ls,Ψ this.wt (by omega),this.dp⟩
 |y::ks,[],_,_,h,_,_=>by have:=h.k.l;cases this
theorem KD.put{m:Nat}{k:Str}{v:V}{dv:ν}{Wv:Nat}(hk:Low k)(hs:k.length<=20)(hv:Dq true P w K H v dv)(sv:Sn dv Wv m){ks:List Str}{xs:List V}{ds:List ν}{W:Nat}(h:KD P w K H ks xs ds W m)(hz:ks.length<50):∃ks' xs' ds',putK (kzA ks xs) (.inr k) v=kzA ks' xs'/\KD P w K H ks' xs' ds' (W+Wv+22) m:=by
 have ha:((kzA ks xs).any fun kv=>decide (kv.1=(.inr k:Key)))=decide (k∈ks):=by
  have:∀{ks:List Str}{xs:List V},ks.length=xs.length->((kzA ks xs).any fun kv=>decide (kv.1=(.inr k:Key)))=decide (k∈ks):=by
   intro ks
   induction ks with
   |nil=>intro xs _;rfl
   |cons y ks ih=>intro xs e;cases xs with
    |nil=>cases e
    |cons x xs =>
     show(decide ((.inr y:Key)=.inr k)||(kzA ks xs).any _)=_;rw[ih (jr e)]
     by_cases z:y=k
     ·subst z;simp
     ·rw[decide_eq_false fun q=>z (qf q),Bool.false_or];exact decide_eq_decide.mpr ⟨ρ _,fun q=>(υ.mp q).resolve_left fun q=>z q.symm⟩
  exact this h.k.l
 unfold putK
 by_cases hm:k∈ks
 ·rw[if_pos (by rw[ha];exact decide_eq_true hm)];obtain⟨xs',ds',e,K'⟩:=h.set hv sv hm;exact⟨ks,xs',ds',e,K'.k,K'.d,⟨K'.s.sh,K'.s.ls,Ψ K'.s.wt (by omega),K'.s.dp⟩⟩
 ·rw[if_neg (by rw[ha];simp[hm])];obtain⟨e,K'⟩:=h.snoc hk hs hv sv hm hz;exact⟨_,_,_,e,K'⟩
end
theorem SnA.take:∀{k:Nat}{ds:List ν}{n m:Nat},SnA ds n m->SnA (ds.take k) n m
 |0,_,_,m,_=>⟨rfl,rfl,gw _,gw _⟩
 |_+1,[],_,_,h=>h
 |k+1,d::ds,n,m,h=>by
  have h1:(d.showable&&qa ds)=true:=h.sh;have h2:(d.leavesShort 200&&nr 200 ds)=true:=h.ls;have h3:d.weight+1+mq ds<=n:=h.wt;have h4:=oz.mp (show max d.depth (ji ds)<=m from h.dp);obtain⟨a1,a2⟩:=jd.mp h1;obtain⟨b1,b2⟩:=jd.mp h2;have:=SnA.cons (n:=d.weight) ⟨a1,b1,μ _,h4.1⟩ (SnA.take (k:=k) (n:=mq ds) (m:=m) ⟨a2,b2,μ _,h4.2⟩);exact⟨this.sh,this.ls,Ψ this.wt (by omega),this.dp⟩
theorem KD.same{K:Δ}(h:KD P w K H ks xs ds W m)(g:jG H H'):KD P w K H' ks xs ds W m:=⟨h.k,h.d.same g,h.s⟩
theorem KD.ok{K:Δ}{H:Hp}(h:KD P w K H ks xs ds W m)(ha:H a=some (.dK (kzA ks xs))):Dq true P w K H (.ref a) (.dict (kvD ks ds))/\Sn (.dict (kvD ks ds)) W (m+1):=⟨.dct ha h.k h.d,h.s.dct⟩
theorem SnK.le'{m':Nat}(h:SnK ps n m)(hm:m<=m'):SnK ps n m':=⟨h.sh,h.ls,h.wt,Ψ h.dp hm⟩
theorem SnK.odd{ps:List (ν×ν)}{k d:ν}{n m n':Nat}(hk:Sn k 5 1)(h:SnK ps n m)(hd:Sn d n' m)(hm : 1<=m):SnK (ps++[(k,d)]) (n+n'+7) m:=by
 have one:SnK [(k,d)] (n'+7) m:=by
  refine⟨?_,?_,?_,?_⟩
  ·show(k.showable&&d.showable&&true)=true;rw[hk.sh,hd.sh];rfl
  ·show(k.leavesShort 200&&d.leavesShort 200&&true)=true;rw[hk.ls,hd.ls];rfl
  ·show k.weight+d.weight+2+0<=_;have:=hk.wt;have:=hd.wt;omega
  ·exact oz.mpr ⟨oz.mpr ⟨Ψ hk.dp hm,hd.dp⟩,gw _⟩
 have:∀{ps:List (ν×ν)}{n:Nat},SnK ps n m->SnK (ps++[(k,d)]) (n+(n'+7)) m:=by
  intro ps
  induction ps with
  |nil=>intro n _;exact⟨one.sh,one.ls,Ψ one.wt (Nat.le_add_left _ _),one.dp⟩
  |cons p ps ih =>
   intro n h;obtain⟨k0,d0⟩:=p;have h1:(k0.showable&&d0.showable&&uz ps)=true:=h.sh;have h2:(k0.leavesShort 200&&d0.leavesShort 200&&su 200 ps)=true:=h.ls;have h3:k0.weight+d0.weight+2+sr ps<=n:=h.wt;have h4:=oz.mp (show max (max k0.depth d0.depth) (qi ps)<=m from h.dp);obtain⟨a1,a2⟩:=jd.mp h1;obtain⟨b1,b2⟩:=jd.mp h2;have r:=ih (n:=sr ps) ⟨a2,b2,μ _,h4.2⟩;refine⟨?_,?_,?_,?_⟩
   ·show(k0.showable&&d0.showable&&uz (ps++[(k,d)]))=true;rw[a1,r.sh];rfl
   ·show(k0.leavesShort 200&&d0.leavesShort 200&&su 200 (ps++[(k,d)]))=true;rw[b1,r.ls];rfl
   ·show k0.weight+d0.weight+2+sr (ps++[(k,d)])<=_;have:=r.wt;omega
   ·exact oz.mpr ⟨h4.1,r.dp⟩
 have:=this h;exact⟨this.sh,this.ls,Ψ this.wt (by omega),this.dp⟩
theorem aRn{K:Δ}(h:dB K H ok):Sn (aDz ok) 5 1:=by
 rcases h with rfl|rfl|⟨b,rfl,_⟩
 ·exact⟨rfl,rfl,by decide,by decide⟩
 ·exact⟨by decide,by ac_rfl,by decide,by decide⟩
 ·exact⟨rfl,(by show ν.leavesShort 200 (.tuple [.str (ζ "a")])=true;ac_rfl),(by show ν.weight (.tuple [.str (ζ "a")])<=5;ac_rfl),(by show ν.depth (.tuple [.str (ζ "a")])<=1;decide)⟩
theorem Dq.kd{K:Δ}{H:Hp}(h:Dq z P w K H x (.dict (kvD ks ds)))(e:ks.length=ds.length):∃a xs,x=.ref a/\H a=some (.dK (kzA ks xs))/\Ks ks xs.length/\Dqs z P w K H xs ds:=by
 generalize hd:ue (kvD ks ds)=d at h;cases h with
 | @dct a ks' xs ds' h k t =>
  injection hd with hd;have l':ks'.length=ds'.length:=k.l.trans t.length;have e1:ks.map PyData.str=ks'.map PyData.str:=by rw[←xO e,hd,xO l']
  have e2:ds=ds':=by rw[←tK e,hd,tK l']
  have e3:ks=ks':=(List.map_inj_right fun a b h=>PyData.str.inj h).mp e1;subst e2 e3;exact⟨a,xs,rfl,h,k,t⟩
 | @odd a ks' xs ds' ok lv d h k o t v =>
  injection hd with hd;have l':ks'.length=ds'.length:=k.l.trans t.length;have e1:ks.map PyData.str=ks'.map PyData.str++[aDz ok]:=by
   have:=congrArg (List.map (·.1)) hd;rw[xO e,τ,xO l']at this;exact this
  have:aDz ok∈ks.map PyData.str:=by rw[e1];simp
  obtain⟨y,_,hy⟩:=ib.mp this;rcases o with rfl|rfl|⟨b,rfl,_⟩ <;> cases hy
 |_=>cases hd
theorem SnA.split:∀{j:Nat}{ds:List ν}{d:ν}{n m:Nat},SnA ds n m->ds[j]?=some d->∃w1 w2 w3,SnA (ds.take j) w1 m/\Sn d w2 m/\SnA (ds.drop (j+1)) w3 m/\w1+(w2+1)+w3<=n
 |0,d::ds,_,n,m,h,e=>by
  cases e;have h1:(d.showable&&qa ds)=true:=h.sh;have h2:(d.leavesShort 200&&nr 200 ds)=true:=h.ls;have h3:d.weight+1+mq ds<=n:=h.wt;have h4:=oz.mp (show max d.depth (ji ds)<=m from h.dp);obtain⟨a1,a2⟩:=jd.mp h1;obtain⟨b1,b2⟩:=jd.mp h2;exact⟨0,d.weight,mq ds,SnA.nil m,⟨a1,b1,μ _,h4.1⟩,⟨a2,b2,μ _,h4.2⟩,by omega⟩
 |j+1,d::ds,x,n,m,h,e=>by
  have h1:(d.showable&&qa ds)=true:=h.sh;have h2:(d.leavesShort 200&&nr 200 ds)=true:=h.ls;have h3:d.weight+1+mq ds<=n:=h.wt;have h4:=oz.mp (show max d.depth (ji ds)<=m from h.dp);obtain⟨a1,a2⟩:=jd.mp h1;obtain⟨b1,b2⟩:=jd.mp h2;obtain⟨w1,w2,w3,q1,q2,q3,q4⟩:=SnA.split (j:=j) (ds:=ds) (d:=x) (n:=mq ds) (m:=m) ⟨a2,b2,μ _,h4.2⟩ e;exact⟨d.weight+1+w1,w2,w3,SnA.cons ⟨a1,b1,μ _,h4.1⟩ q1,q2,q3,by omega⟩
theorem SnA.dp'{m':Nat}(h:SnA ds n m)(hm:m<=m'):SnA ds n m':=⟨h.sh,h.ls,h.wt,Ψ h.dp hm⟩
theorem KD.setx{P:io}{w:jl}{K:Δ}{H:Hp}{m:Nat}{k:Str}: ∀{ks:List Str}{xs:List V}{ds:List ν}{W:Nat}{j:Nat},KD P w K H ks xs ds W m->ks[j]?=some k->∃v0 d0 w2 w',vX (kzA ks xs) (.inr k)=some v0/\ds[j]?=some d0/\Dq true P w K H v0 d0/\Sn d0 w2 m/\w'+w2<=W/\∀{H':Hp}{v:V}{dv:ν}{Wv m':Nat},jG H H'->m<=m'->Dq true P w K H' v dv->Sn dv Wv m'->∃xs' ds',(kzA ks xs).map (fun kv=>if kv.1=(.inr k:Key) then (kv.1,v) else kv)=kzA ks xs'/\KD P w K H' ks xs' ds' (w'+Wv) m'
 |y::ks,x::xs,ds,W,0,h,e=>by
  cases e;obtain⟨k1,n1,l1,s1⟩:=h.k.tl;cases h.d with
  | @cons _ _ d ds h0 h1 =>
   obtain⟨w1,w2,q1,q2,q3⟩:=SnK.hd (show SnK ((.str k,d)::kvD ks ds) W m from h.s);refine⟨x,d,w1,k.length+2+w2,vO (p:=((.inr k:Key),x)) (r:=kzA ks xs) rfl,rfl,h0,q1,by omega,fun {H' v dv Wv m'} g hm hv sv=>⟨v::xs,dv::ds,?_,⟨h.k.l,h.k.z,h.k.nd,h.k.lo,h.k.sh⟩,.cons hv (h1.same g),?_⟩⟩
   ·show(if ((.inr k:Key))=.inr k then ((.inr k:Key),v) else _)::(kzA ks xs).map _=_;rw[if_pos rfl,tP n1];rfl
   ·have:=SnK.cons l1.sml sv (q2.le' hm);exact⟨this.sh,this.ls,Ψ this.wt (by omega),this.dp⟩
 |y::ks,x::xs,ds,W,j+1,h,e=>by
  obtain⟨k1,n1,l1,s1⟩:=h.k.tl;have hm:=ι (show ks[j]?=some k from e);have z:y≠k:=fun z=>n1 (z ▸ hm);cases h.d with
  | @cons _ _ d ds h0 h1 =>
   obtain⟨w1,w2,q1,q2,q3⟩:=SnK.hd (show SnK ((.str y,d)::kvD ks ds) W m from h.s);obtain⟨v0,d0,u2,u',r1,r2,r3,r4,r5,r6⟩:=KD.setx (ks:=ks) (xs:=xs) (ds:=ds) (W:=w2) (j:=j) ⟨k1,h1,q2⟩ e;refine⟨v0,d0,u2,y.length+w1+2+u',(vN (p:=((.inr y:Key),x)) (r:=kzA ks xs) fun q=>z (qf q)).trans r1,r2,r3,r4,by omega,fun {H' v dv Wv m'} g hm hv sv=>?_⟩;obtain⟨xs',ds',e',K'⟩:=r6 g hm hv sv;refine⟨x::xs',d::ds',?_,⟨congrArg (·+1) K'.k.l,h.k.z,h.k.nd,h.k.lo,h.k.sh⟩,.cons (h0.same g) K'.d,?_⟩
   ·show(if ((.inr y:Key))=.inr k then _ else ((.inr y:Key),x))::(kzA ks xs).map _=_;rw[if_neg fun q=>z (qf q),e'];rfl
   ·have:=SnK.cons l1.sml (q1.le (μ _) hm) K'.s;exact⟨this.sh,this.ls,Ψ this.wt (by omega),this.dp⟩
 |y::ks,[],_,_,_,h,_=>by have:=h.k.l;cases this
theorem aNw{k:Str}{ks:List Str}{xs:List V}(hl:ks.length=xs.length)(hm:k∈ks):putK (kzA ks xs) (.inr k) v=(kzA ks xs).map (fun kv=>if kv.1=(.inr k:Key) then (kv.1,v) else kv):=by
 unfold putK;rw[if_pos];have:=uU (z:=k) hl;rw[decide_eq_true hm]at this;unfold vX at this;rw[xj,List.find?_isSome]at this;exact ye.mpr this
section
variable {X:Cx}
theorem iA:OpR X (qt .Add) (fun x y H Q=>∃l b xs zs,x=.ref l/\y=.ref b/\SqL X.K H l xs/\SqL X.K H b zs/\xs.length+zs.length<=χ/\∀p,p≠ja->H p=none->Q (.ref p) (upd H p (.lst (xs++zs)))):=by
 intro pins s σ H x y v u Q I rx ry h;obtain⟨l,b,xs,zs,rfl,rfl,hH,hB,hz,q⟩:=h;cases rx;cases ry;obtain⟨its,r,⟨o,n,e,hc,hdn,hd⟩,_⟩:=I.list hH;obtain⟨its2,r2,⟨o2,n2,e2,hc2,hdn2,hd2⟩,_⟩:=I.list hB;obtain⟨c,d,dt,sl⟩:=o;obtain⟨c2,d2,dt2,sl2⟩:=o2;cases hc;cases hdn;cases hd;cases hc2;cases hdn2;cases hd2;have l1:=r.length;have l2:=r2.length;refine concat_meets ⟨_,e,rfl⟩ ⟨_,e2,rfl⟩ PySem.noFill_list_add PySem.seq_list_add F.slot_list_add F.entry_list_add (F.args_list_add_2 _ _) (uF l its.toArray n b its2.toArray n2 sl sl2 (by rw[Ξ,Ξ];omega)) ⟨e,e2,?_⟩;have ea:its.toArray++its2.toArray=(its++its2).toArray:=by simp
 rw[ea];exact⟨.ref _,_,I.lnew (t':=s.toks) (r.append r2) (by rw[ξ];omega),rfl,q _ (kh (ii I.big)) I.fresh⟩
theorem aCr:vD X (.type "list") (fun xs H Q=>∃p ys,xs=[.ref p]/\SqT X.K H p ys/\∀l,l≠ja->H l=none->Q (.ref l) (upd H l (.lst ys))):=by
 intro pins s σ H xs us Q I r h;obtain⟨p,ys,rfl,hq,q⟩:=h;obtain⟨u,rfl,rx⟩:=vals1 r;cases rx;obtain⟨its,r',⟨o,ho,hc,n,hd⟩,hz⟩:=I.tuple hq;have hlen:=r'.length;exact call_list_seq p (.inr rfl) ho hc hd (fun h' c' kp e=>⟨.ref s.heap.objs.size,_,I.laid (t':=s.toks) kp (μ _) (show qO X.prog X.w _ h' _ (.lst ys) from⟨hz,its,c',r',e⟩),rfl,q _ (kh (ii I.big)) (I.hok.fresh (μ _))⟩) (by simp only[Ξ] <;> omega)
end
end L2
namespace K14
open PySem L2
theorem gM : 0<=χ:=by decide
theorem iF : 1<=χ:=by decide
theorem vS : 2<=χ:=by decide
theorem pC : 3<=χ:=by decide
theorem szL4 : 4<=χ:=by decide
theorem szL5 : 5<=χ:=by decide
def top (i : Nat) : Stmt := PySem.Challenge.pw_roomslaid_k14_blank_and_records.main.body.getD i (.Pass ⟨0,0,0,0⟩)
def inClass:Stmt->Nat->Stmt
 |.ClassDef _ _ _ body _ _ _ _ _ _ _,j=>body.getD j (.Pass ⟨0,0,0,0⟩)
 |s,_=>s
theorem qZ{c A B:Prop}[Decidable c](hc:c)(h:A):if c then A else B:=by rw[if_pos hc];exact h
theorem qP{c A B:Prop}[Decidable c](hc:¬ c)(h:B):if c then A else B:=by rw[if_neg hc];exact h
structure Blt (mg:Str->Option Value):Prop where
 range:mg "range" = none
 len:mg "len" = none
 isinstance:mg "isinstance" = none
 int:mg "int" = none
 bool:mg "bool" = none
 list:mg "list" = none
 all:mg "all" = none
 max:mg "max" = none
 min:mg "min" = none
 reversed:mg "reversed" = none
 tuple:mg "tuple" = none
 divmod:mg "divmod" = none
 str:mg "str" = none
 sum:mg "sum" = none
 zip:mg "zip" = none
 enumerate:mg "enumerate" = none
 dict:mg "dict" = none
 repr:mg "repr" = none
 sorted:mg "sorted" = none
structure Df (K:Δ) (mg:Str->Option Value) (x:Str) (f:Addr) (fd:tw) (ps:List Str):Prop where
 m:mg x=some (.ref f)
 k:keepIn K (.ref f)=true
 b:Binds K fd ps []
def St3 (H:Hp) (p:Addr):Prop:=∃a b c:Int,H p=some (.lst [.int a,.int b,.int c])
def Drawn (p:Addr) (H H':Hp):Prop:=St3 H' p/\∀b o,b≠p->H b=some o->H' b=some o
theorem Drawn.trans(a:Drawn p H H1)(b:Drawn p H1 H2):Drawn p H H2:=⟨b.1,fun c o n h=>b.2 c o n (a.2 c o n h)⟩
theorem Drawn.refl(h:St3 H p):Drawn p H H:=⟨h,fun _ _ _ q=>q⟩
theorem Drawn.new{H1:Hp}(a:Drawn p H H1)(hl:H1 l=none):Drawn p H (upd H1 l o):=by
 obtain⟨⟨x,y,z,e⟩,h⟩:=a;refine⟨⟨x,y,z,by rw[jS (jM e hl)];exact e⟩,fun b u n q=>?_⟩;have:=h b u n q;rw[jS (jM this hl)];exact this
theorem Drawn.same{H:Hp}(a:Drawn p H H')(hp:H p=none):jG H H':=fun b o h=>a.2 b o (jM h hp) h
theorem vP{H:Hp}(h:H p=none)(o:HO):jG H (upd H p o):=fun b u q=>by rw[jS (jM q h)];exact q
theorem aIi(ns:List Int){i:Int}(h0 : 0<=i)(h1:i<ns.length):∃v:Int,atI (ns.map V.int) i=some (.int v):=by
 have hk:i.toNat<ns.length:=by omega
 have e:i=((i.toNat:Nat):Int):=by omega
 have q:atI (ns.map V.int) ((i.toNat:Nat):Int)=some (.int ns[i.toNat]):=xP (by rw[gu,η hk] <;> rfl);rw[←e]at q;exact⟨_,q⟩
theorem small{n:Nat}(h:n<=1000):n<=χ:=jw (kM h)
def aKh (K:Δ):Sp:=fun vs H Q _=>∃(a:Addr) (ns:List Int) (k:Int),vs=[.ref a,.int k]/\SqL K H a (ns.map V.int)/\0<=k/\k<64/\∀v:Int,Q (.int v) H
def aFr (K:Δ):Sp:=fun vs H Q _=>∃(a:Addr) (ns:List Int),vs=[.ref a]/\SqL K H a (ns.map V.int)/\ns.length<=63/\∀H',Q (.bl true) H'
theorem jG.tup{K:Δ}{H H':Hp}{a:Addr}{xs:List V}(e:jG H H')(h:SqT K H a xs):SqT K H' a xs:=by
 rcases h with (h|⟨o,h⟩)|h
 ·exact .inl (.inl (e _ _ h))
 ·exact .inl (.inr ⟨o,e _ _ h⟩)
 ·exact .inr h
theorem Drawn.tup{K:Δ}{p:Addr}{H H':Hp}{a:Addr}{xs:List V}(hs:St3 H p)(e:Drawn p H H')(h:SqT K H a xs):SqT K H' a xs:=by
 obtain⟨x,y,z,hp⟩:=hs;rcases h with (h|⟨o,h⟩)|h
 ·exact .inl (.inl (e.2 _ _ (hJ h hp (by intro z;cases z)) h))
 ·exact .inl (.inr ⟨o,e.2 _ _ (hJ h hp (by intro z;cases z)) h⟩)
 ·exact .inr h
structure pQ (K:Δ) (mg:Str->Option Value) (x:Str) (C fI:Addr) (as:List Str):Prop where
 m:mg x=some (.ref C)
 cl:Cls K C
 ma:Mk K C fI
 na:∀a∈as,yX K C a
structure DfM (K:Δ) (C:Addr) (m:Str) (f:Addr) (fd:tw) (ps:List Str):Prop where
 me:Meth K C m f
 b:Binds K fd ps []
structure DfI (K:Δ) (fd:tw) (ps:List Str):Prop where
 b:Binds K fd ps []
structure TX (K:Δ) (mg:Str->Option Value) (x:Str) (C R fI:Addr) (as:List Str):Prop where
 m:mg x=some (.ref C)
 c:ExCl K C R fI
 x:XCls K C (.ref R::VB)
 n:∀a∈as,sf K (.ref C) a=some none
def Cal (P:io) (w:jl) (K:Δ) (mg:Str->Option Value) (base:kq) (CX:CXT) (k:Nat) (x:Str) (sp:Sp):Prop:=∃f fd ps,Df K mg x f fd ps/\kJ P w K mg base CX k f fd ps sp
def zC (P:io) (w:jl) (K:Δ) (mg:Str->Option Value) (base:kq) (CX:CXT) (k:Nat) (C:Addr) (x:Str) (sp:Sp):Prop:=∃f fd ps,DfM K C x f fd ps/\kJ P w K mg base CX k f fd ps sp
def aA (P:io) (w:jl) (K:Δ) (mg:Str->Option Value) (base:kq) (CX:CXT) (k:Nat) (f:Addr) (sp:Sp):Prop:=∃fd ps,DfI K fd ps/\kJ P w K mg base CX k f fd ps sp
section
variable {P:io}{w:jl}{K:Δ}{mg:Str->Option Value}{base:kq}{CX:CXT}{j k:Nat}{x:Str}{sp:Sp}{f C:Addr}{fd:tw}{ps:List Str}
variable {f:Addr}{fd:tw}
theorem Cal.of(D:Df K mg x f fd ps)(F:kJ P w K mg base CX k f fd ps sp):Cal P w K mg base CX k x sp:=⟨_,_,_,D,F⟩
theorem zC.of(D:DfM K C x f fd ps)(F:kJ P w K mg base CX k f fd ps sp):zC P w K mg base CX k C x sp:=⟨_,_,_,D,F⟩
theorem aA.of(D:DfI K fd ps)(F:kJ P w K mg base CX k f fd ps sp):aA P w K mg base CX k f sp:=⟨_,_,D,F⟩
theorem Cal.o(F:Cal P w K mg base CX j x sp)(h:j<=k:=by omega):Cal P w K mg base CX k x sp:=let ⟨_,_,_,D,G⟩:=F; ⟨_,_,_,D,G.mono h⟩
theorem zC.o(F:zC P w K mg base CX j C x sp)(h:j<=k:=by omega):zC P w K mg base CX k C x sp:=let ⟨_,_,_,D,G⟩:=F; ⟨_,_,_,D,G.mono h⟩
theorem aA.o(F:aA P w K mg base CX j f sp)(h:j<=k:=by omega):aA P w K mg base CX k f sp:=let ⟨_,_,D,G⟩:=F; ⟨_,_,D,G.mono h⟩
end
section
variable {X:Cx}{CX:CXT}{E:XK}{k:Nat}{x:Str}{sp:Sp}{C fI R:Addr}{as:List Str}{S:St->Prop}{e o:Expr}{es:List Expr}{t:TA}{ta:TE}{p pos:Pos}
theorem aQz(F:Cal X.prog X.w X.K X.mg X.base CX k x sp)(hr:xG k X.A)(hg:Gl X x)(hx:zR CX X E)(ha:PA X (e::es) t)(hdb:(x == ("__debug__" : Str))=false:=by decide)(he:ip (e::es) X.env=(false,eval e X.env)::ip es X.env:=by rfl)(hpl:(vy pos (ip es X.env)).any (·.1)=false:=by rfl):
  PE X (.Call (.Name x p) (e::es) [] pos) (aJy sp [] E t):=let ⟨_,_,_,D,G⟩:=F;aMl G hr hg D.m D.k D.b .nil hx ha hdb he hpl
theorem yI(he:PE X o ta)(c:Cls X.K C)(F:zC X.prog X.w X.K X.mg X.base CX k C m sp)(hr:xG k X.A)(hx:zR CX X E)
  (ht:eval (.Call (.Attribute o m apos) [] [] pos) X.env=(do
   let ov ←eval o X.env
   standAt apos.atName
   let (f,first) ←holding [ov] (getMethod ov m pl)
   callWith pos f first (vy pos (ip [] X.env)) (backToKw pos (keywordEach [] X.env))):=by rfl):
  PE X (.Call (.Attribute o m apos) [] [] pos) (aOn C m sp [] E ta aIe):=let ⟨_,_,_,D,G⟩:=F;aLk he c D.me G hr D.b .nil hx ht
theorem aR(T:pQ X.K X.mg x C fI as)(F:aA X.prog X.w X.K X.mg X.base CX k fI sp)(hr:xG (k+1) X.A)(hg:Gl X x)(hx:zR CX X E)
  (ha:PA X (e::es) t)(hdb:(x == ("__debug__" : Str))=false:=by decide)(he:ip (e::es) X.env=(false,eval e X.env)::ip es X.env:=by rfl)(hpl:(vy pos (ip es X.env)).any (·.1)=false:=by rfl):
  PE X (.Call (.Name x p) (e::es) [] pos) (aOq C sp [] E t):=let ⟨_,_,D,G⟩:=F;aOe T.ma G hr hg T.m D.b .nil hx ha hdb he hpl
end
section
variable {X:Cx}{k:Nat}{x:Str}{sp:Sp}{C fI:Addr}{as:List Str}{e o a b:Expr}{es:List Expr}{t:TA}{te ta tb:TE}{p p' pos:Pos}{r:R2}{op:CmpOp}{i:Nat}
theorem jF(F:Cal X.prog X.w X.K X.mg X.base CX0 k x sp)(hr:xG k X.A)(ha:PA X (e::es) t)(hg:Gl X x:=by rfl)(hdb:(x == ("__debug__" : Str))=false:=by decide)(he:ip (e::es) X.env=(false,eval e X.env)::ip es X.env:=by rfl)(hpl:(vy pos (ip es X.env)).any (·.1)=false:=by rfl):
  PE X (.Call (.Name x p) (e::es) [] pos) (aJy sp [] E0 t):=aQz F hr hg vG ha hdb he hpl
theorem jH(hr:IxR X r)(ha:PE X a ta)(hb:PE X b tb)(hs:uH b:=by exact fun _ _=>rfl):PE X (.Subscript a b pos) (tOp r ta tb):=aOy hr ha hb hs
theorem jW(ho:OpR X (kn op) r)(ha:PE X a ta)(hb:PE X b tb)(h:op≠.In:=by decide)(h2:op≠.NotIn:=by decide):PT X (.Compare a [op] [b] pos) (aJb (tOp r ta tb)):=nC ho ha hb (vV _ h h2)
theorem jZ(i:Nat)(hN:X.N.Nodup)(he:PE X e te)(hi:X.N[i]?=some x:=by rfl)(hx:Loc X.env.scope x:=by first|exact Or.inl rfl|exact Or.inr rfl)(hs:swapsWith e (some (.Name x p')) pos.line X.env=pure false:=by rfl)(hf:X.fn x=true\/X.env.scope.names.lookup x=some .local:=by first|exact .inl rfl|exact .inr rfl|assumption):
  PS X (.Assign [.Name x p'] e pos) (aGr te (yZ i)):=aCx hN hi hx he hs hf
theorem qV(i:Nat)(hN:X.N.Nodup)(hi:X.N[i]?=some x:=by rfl)(hx:Loc X.env.scope x:=by exact Or.inl rfl)(hf:X.fn x=true\/X.env.scope.names.lookup x=some .local:=by first|exact .inl rfl|exact .inr rfl|assumption):PG X (.Name x pos) (yZ i):=nG hN hi hx hf
theorem qD{ys:List Str}(hN:X.N=x::ys)(hx:Loc X.env.scope x:=by exact Or.inl rfl)(hd:(x::ys).Nodup:=by ac_rfl)(hf:X.fn x=true\/X.env.scope.names.lookup x=some .local:=by first|exact .inl rfl|exact .inr rfl|assumption):PG X (.Name x pos) (yZ 0):=nG (i:=0) (hN ▸ hd) (by rw[hN];rfl) hx hf
theorem yT{y:Str}{ys:List Str}(hN:X.N=y::x::ys)(hx:Loc X.env.scope x:=by exact Or.inl rfl)(hd:(y::x::ys).Nodup:=by ac_rfl)(hf:X.fn x=true\/X.env.scope.names.lookup x=some .local:=by first|exact .inl rfl|exact .inr rfl|assumption):PG X (.Name x pos) (yZ 1):=nG (i:=1) (hN ▸ hd) (by rw[hN];rfl) hx hf
theorem jU{c A B:Prop}[Decidable c](h:B)(hc:¬ c:=by decide):if c then A else B:=qP hc h
theorem qF{c A B:Prop}[Decidable c](h:A)(hc:c:=by decide):if c then A else B:=qZ hc h
theorem pQ.nd{K:Δ}{m:Str}(T:pQ K mg x C fI as)(h:m∈as:=by decide):yX K C m:=T.na _ h
end
def aLj:List Str:=["shape","num","row","pick","tag","room","things","part","tags","put","take","many","look","which","store","choose","copy","each","span","if","else","end","out"]
abbrev yL:Str:="abcdefghijklmnopqrstuvwxyz"
abbrev bK:Str:="0123456789"
structure Cst (K:Δ) (mg:Str->Option Value) (t1 t2 t3 t4 t5 t6 t7 t8 t9 t10 t11 t12 t13:Tok) (ts:Addr):Prop where
 SMALL_LETTERS:mg "SMALL_LETTERS" = some (.str "abcdefghijklmnopqrstuvwxyz" t1)
 FIGURES:mg "FIGURES" = some (.str "0123456789" t2)
 MOST_LETTERS:mg "MOST_LETTERS" = some (.int 6 t3)
 MOST_FIGURES:mg "MOST_FIGURES" = some (.int 10 t4)
 MOST_SHAPES:mg "MOST_SHAPES" = some (.int 8 t5)
 MOST_FIELDS:mg "MOST_FIELDS" = some (.int 6 t6)
 MOST_CELLS:mg "MOST_CELLS" = some (.int 64 t7)
 MOST_UNITS:mg "MOST_UNITS" = some (.int 40 t8)
 MOST_DEPTH:mg "MOST_DEPTH" = some (.int 4 t9)
 MOST_WIDTH:mg "MOST_WIDTH" = some (.int 4 t10)
 MOST_COUNT:mg "MOST_COUNT" = some (.int 6 t11)
 LEAST_PICKED:mg "LEAST_PICKED" = some (.int 2 t12)
 MOST_PICKED:mg "MOST_PICKED" = some (.int 4 t13)
 OWN_WORDS:mg "OWN_WORDS" = some (.ref ts)
 words:∀H,SqT K H ts (aLj.map V.str)
def tyA (K:Δ) (x:V) (H:Hp) (t:String):Prop:=tyN K x H t\/(t = "dict"/\∃p kvs,x=.ref p/\H p=some (.dK kvs))
theorem jG.tyA{K:Δ}(g:jG H H')(h:tyA K x H t):tyA K x H' t:=by
 rcases h with h|⟨e,p,kvs,ex,h⟩
 ·left;cases x with
  |ref p =>
   rcases h with⟨e,xs,h⟩|⟨e,xs,h⟩
   ·exact .inl ⟨e,xs,g.seq h⟩
   ·exact .inr ⟨e,xs,jG.tup g h⟩
  |_=>exact h
 ·exact .inr ⟨e,p,kvs,ex,g _ _ h⟩
def within (x:Str) (most:Int):Bool:=decide (1<=(x.length:Int))&&decide ((x.length:Int)<=most)
def aAm (x signs:Str):Bool:=x.cps.toList.all fun c=>decide (c∈signs.cps.toList)
def qC (x:Str):Bool:=within x 6&&aAm x yL&&!decide (x∈aLj)
def aAe (x:Str):Bool:=decide (x.cps.toList[0]?=some 48)&&decide (1<(x.length:Int))
def wE (x:Str):Option Int:=if (within x 10&&aAm x bK&&!aAe x)=true then some ((PySem.NumText.digitsVal x.cps.toList:Nat):Int) else none
def optV:Option Int->V
 |none=>.non
 |some n=>.int n
def bP (o:Option Int) (lo hi:Int):Option Int:=match o with
 |none=>none
 |some n=>if lo<=n/\n<=hi then some n else none
def oO (K:Δ):Sp:=fun vs H Q _=>∃(x:V) (signs:Str) (most:Int),vs=[x,.str signs,.int most] ∧
 ((∃z:Str,x=.str z/\z.length<=1000/\∀H',jG H H'->Q (.bl (within z most&&aAm z signs)) H')\/(∃t,tyA K x H t/\t ≠ "str"/\Q (.bl false) H))
inductive oK (K:Δ) (vs:List V) (H:Hp) (Q:VK):Prop|mk:∀x:V,vs=[x]->(((∃z:Str,x=.str z/\z.length<=1000/\∀H',jG H H'->Q (.bl (qC z)) H')\/(∃t,tyA K x H t/\t ≠ "str"/\∀H',jG H H'->Q (.bl false) H')))->oK K vs H Q
def bJ (K:Δ):Sp:=fun vs H Q _=>oK K vs H Q
inductive gQ (K:Δ) (vs:List V) (H:Hp) (Q:VK):Prop|mk:∀(x:V) (lo hi:Int),vs=[x,.int lo,.int hi]->(((∃z:Str,x=.str z/\z.length<=1000/\∀H',jG H H'->Q (optV (bP (wE z) lo hi)) H')\/(∃t,tyA K x H t/\t ≠ "str"/\∀H',jG H H'->Q .non H')))->gQ K vs H Q
def fO (K:Δ):Sp:=fun vs H Q _=>gQ K vs H Q
theorem iJ(x:Str)(ys:List Str):inV (.str x) (ys.map V.str)=decide (x∈ys):=by
 rw[qr];simp only[inV,List.any_map,ye,Function.comp,decide_eq_true_eq,eqV,beq_iff_eq];constructor
 ·rintro ⟨y,hy,rfl⟩;exact hy
 ·intro h;exact⟨x,h,rfl⟩
theorem eA(ys:List Str):(ys.map V.str).all iH=true:=by
 rw[ia];intro x hx;obtain⟨n,_,rfl⟩:=ib.mp hx;rfl
theorem uX:yL.cps.toList=ud 97 26:=by ac_rfl
theorem uM:bK.cps.toList=ud 48 10:=by ac_rfl
theorem aF(c:Nat):c∈yL.cps.toList ↔ 97<=c/\c<=122:=by
 rw[uX,List.mem_range'_1];omega
theorem wV(c:Nat):c∈bK.cps.toList ↔ 48<=c/\c<=57:=by
 rw[uM,List.mem_range'_1];omega
theorem aKr(f:Nat->Bool)(l:List Nat)(i:Nat)(h:l[i]?=some c):((l.take (i+1)).map f)=(l.take i).map f++[f c]:=by
 rw[jk,h,τ] <;> rfl
theorem all_map(f:Nat->Bool)(l:List Nat):(l.map f).all id=l.all f:=by
 rw[List.all_map];rfl
theorem isa1(h:isa t "int" = true):(!isa t "bool")=(t == "int"):=by
 unfold isa at *;simp at h;rcases h with rfl|rfl <;> decide
theorem isa2(h:¬ isa t "int" = true):false=(t == "int"):=by
 by_cases e:t = "int"
 ·subst e;exact absurd (by decide) h
 ·simp[e]
theorem isa3{t:String}(h:t ≠ "str"):isa t "str" = false:=by
 unfold isa;simp[h]
theorem is_0{c:Nat}: decide (V.str ⟨#[c]⟩=V.str (ζ "0"))=decide (c=48):=by
 have e:(ζ "0")=⟨#[48]⟩:=by ac_rfl
 rw[e,qr,decide_eq_true_eq,decide_eq_true_eq];constructor
 ·intro h;injection h with h;injection h with h;simpa using h
 ·rintro rfl;rfl
theorem jG.st3(g:jG H H')(h:St3 H p):St3 H' p:=by
 obtain⟨x,y,z,e⟩:=h;exact⟨x,y,z,g _ _ e⟩
theorem Drawn.keep(d:Drawn p H H1)(g:jG H1 H2):Drawn p H H2:=⟨jG.st3 g d.1,fun b o n e=>g _ _ (d.2 b o n e)⟩
theorem len_list(z:Str):z.cps.toList.length=z.length:=jb
theorem eB(p:Str):Str.empty++p=p:=Str.ext' (by rw[og];simp[Str.empty])
theorem aIf{a:Nat}(h:a<=5000):a<=χ:=by rw[ic];omega
def pE:Sp:=fun vs H Q _=>∃(p:Str) (x:V) (y:Str),vs=[.str p,x]/\aBs x=some y/\p.length<=1000/\y.length<=1000/\Q (.str (pj p y)) H
inductive aBq (vs:List V) (H:Hp) (Q:VK):Prop|mk:∀(p:Addr) (m:Int),vs=[.ref p,.int m]->0<m->m<1099511627776->St3 H p->(∀(v:Nat) (H':Hp),(v:Int)<m->Drawn p H H'->Q (.int v) H')->aBq vs H Q
def cI:Sp:=fun vs H Q _=>aBq vs H Q
def aOz:Sp:=fun vs H Q _=>∃c:Int,vs=[.int c]/\∀(p:Addr) (H':Hp),H p=none->Drawn p H H'->Q (.ref p) H'
structure Wds (K:Δ) (H:Hp) (a:Addr) (ws:List Str):Prop where
 l:SqL K H a (ws.map V.str)
 s:∀w∈ws,w.length<=1000
 n:ws.length<=1000
theorem Wds.same{K:Δ}(h:Wds K H a ws)(g:jG H H'):Wds K H' a ws:=⟨g.seq h.l,h.s,h.n⟩
def aAn:List Str->Bool
 |[x,y]=>decide (x=ζ "shape")&&qC y
 |_=>false
def aOm (K:Δ):Sp:=fun vs H Q _=>∃(a:Addr) (ws:List Str),vs=[.ref a]/\Wds K H a ws/\∀H',jG H H'->Q (.bl (aAn ws)) H'
inductive aJr (C:Addr) (n:Str) (vs:List V) (H:Hp) (Q:VK):Prop|mk:∀(a dx:Addr) (v:V) (H1:Hp),vs=[.ref a,v]->H a=some (.ins C dx [])->jG H1 H->H1 a=none->(∀H',jG H1 H'->H' a=some (.ins C dx [(n,v)])->Q .non H')->aJr C n vs H Q
def aDg (C:Addr) (n:Str):Sp:=fun vs H Q _=>aJr C n vs H Q
def spI2 (C:Addr) (n m:Str):Sp:=fun vs H Q _=>∃(a dx:Addr) (v u:V) (H1:Hp),vs=[.ref a,v,u]/\H a=some (.ins C dx [])/\jG H1 H/\H1 a=none/\∀H',jG H1 H'->H' a=some (.ins C dx [(n,v),(m,u)])->Q .non H'
def spIT (K:Δ) (C:Addr) (n:Str):Sp:=fun vs H Q _=>∃(a dx l:Addr) (ys:List V) (H1:Hp),vs=[.ref a,.ref l]/\H a=some (.ins C dx [])/\jG H1 H/\H1 a=none/\SqL K H1 l ys/\∀t H',jG H1 H'->H' a=some (.ins C dx [(n,.ref t)])->SqT K H' t ys->Q .non H'
def aJc (c:Cl5) (K:Δ):Sp:=fun vs H Q _=>∃(a dx fl:Addr) (nm:Str) (ps:List Addr) (fs:List (Str×Kd)) (sa:List Addr) (H1:Hp),vs=[.ref a,.str nm,.ref fl]/\H a=some (.ins c.shape dx [])/\jG H1 H/\H1 a=none/\(SqL K H1 fl (ps.map V.ref)\/SqT K H1 fl (ps.map V.ref))/\FO c K H1 sa ps fs/\fs.length<=100 ∧
 ∀t ps' H',jG H1 H'->H' a=some (.ins c.shape dx [("name",.str nm),("fields",.ref t)])->SqT K H' t (ps'.map V.ref)->FO c K H' sa ps' fs->Q .non H'
def spGr (c:Cl5) (K:Δ) (r:Nat):Sp:=fun vs H Q _=>∃(a:Addr) (is:List Nat) (sa:List Addr) (S:List Shp),vs=[.ref a]/\(Kd.pick is).Rk r/\(Kd.pick is).Fit S.length/\KO c K H sa a (.pick is)/\SW c K H sa S/\Good S/\∀H',jG H H'->Q (.int ((vZ (is.map fun i=>(tabs S).sz.getD i 0):Nat):Int)) H'
def aOv (c:Cl5) (K:Δ) (r:Nat):Sp:=fun vs H Q _=>∃(a:Addr) (i:Nat) (sa:List Addr) (S:List Shp),vs=[.ref a]/\sa[i]?=some a/\2*i+2<=r/\8*r<=200/\SW c K H sa S/\Good S/\∀l H',jG H H'->H l=none->UL K H' l (un (.nest i) S Str.empty)->Q (.ref l) H'
theorem FO.insD{K:Δ}{H:Hp}{x:V}(h:FO c K H sa ps fs)(ha:H a=some (.ins C dx [("name",x)])):FO c K (upd H a o) sa ps fs:=by
 have n:∀{b C' dx' fs'},H b=some (.ins C' dx' fs')->fs'.head?.map (·.1)≠some ("name" : Str)->upd H a o b=some (.ins C' dx' fs'):=fun hb z=>by
  rw[jS (fun e=>z (by rw[e,ha]at hb;cases hb;rfl))];exact hb
 have t:∀{b xs},SqT K H b xs->SqT K (upd H a o) b xs:=fun h=>by
  rcases h with (h|⟨o',h⟩)|h
  ·exact .inl (.inl (by rw[jS (hJ h ha (by intro z;cases z))];exact h))
  ·exact .inl (.inr ⟨o',by rw[jS (hJ h ha (by intro z;cases z))];exact h⟩)
  ·exact .inr h
 have kk:∀{b kd},KO c K H sa b kd->KO c K (upd H a o) sa b kd:=fun h=>by
  induction h with
  |num h=>exact .num (n h (by show some (ζ "width")≠some (ζ "name");decide))
  |nest e h=>exact .nest e (n h (by show some (ζ "shape")≠some (ζ "name");decide))
  |many h _ ih=>exact .many (n h (by show some (ζ "count")≠some (ζ "name");decide)) ih
  |pick h h2 l e=>exact .pick (n h (by show some (ζ "shapes")≠some (ζ "name");decide)) (t h2) l e
 induction h with
 |nil=>exact .nil
 |cons h1 h2 _ ih=>exact .cons (t h1) (kk h2) ih
def NOk (nm:Nat->Str) (n:Nat):Prop:=∀i,i<n->qC (nm i)=true
theorem vJ(h:qC x=true): 1<=x.length/\x.length<=6:=by
 unfold qC within at h;simp only[jt,decide_eq_true_eq]at h;omega
theorem cN{y:Str}(h:qC x=true)(hy:y∈aLj):x≠y:=by
 rintro rfl;unfold qC at h;simp only[jt,Bool.not_eq_true',decide_eq_false_iff_not]at h;exact h.2 hy
theorem dig{w:Nat}(h:w<=9):wE (ζ (toString (w:Int)))=some (w:Int)/\(ζ (toString (w:Int))).length=1/\qC (ζ (toString (w:Int)))=false/\PySem.intText? (ζ (toString (w:Int)))=some (w:Int):=by
 have:∀m:Fin 10,wE (ζ (toString ((m.val:Nat):Int)))=some ((m.val:Nat):Int)/\(ζ (toString ((m.val:Nat):Int))).length=1/\qC (ζ (toString ((m.val:Nat):Int)))=false/\PySem.intText? (ζ (toString ((m.val:Nat):Int)))=some ((m.val:Nat):Int):=by ac_rfl
 exact this ⟨w,by omega⟩
theorem nK:qC (ζ "num")=false/\qC (ζ "row")=false/\qC (ζ "pick")=false:=by ac_rfl
def Kd.named (nm:Nat->Str):Kd->List Str
 |.num _=>[]
 |.nest i=>[nm i]
 |.many _ k=>Kd.named nm k
 |.pick is=>is.map nm
theorem wB(hn:NOk nm n):∀{k:Kd},k.Fit n->(k.words nm).filter qC=Kd.named nm k:=by
 have hnum:∀w,w<=9->((Kd.num w).words nm).filter qC=[]:=fun w hw=>by
  show[ζ "num",ζ (toString (w:Int))].filter qC=[];rw[oq (by rw[nK.1];decide),oq (by rw[(dig hw).2.2.1];decide)];rfl
 have hnest:∀i,i<n->((Kd.nest i).words nm).filter qC=[nm i]:=fun i hi=>by
  show[nm i].filter qC=_;rw[List.filter_cons_of_pos (hn i hi)];rfl
 intro k hk;cases k with
 |num w=>exact hnum w (by have:=hk.2;omega)
 |nest i=>exact hnest i hk
 |many m k =>
  show(ζ "row" :: ζ (toString (m:Int))::k.words nm).filter qC=Kd.named nm k;rw[oq (by rw[nK.2.1];decide),oq (by rw[(dig (by have:=hk.2.1;omega)).2.2.1];decide)];rcases hk.2.2 with⟨w,rfl,hw⟩|⟨i,rfl,hi⟩
  ·exact hnum w (by omega)
  ·exact hnest i hi
 |pick is =>
  show(ζ "pick" :: is.map nm).filter qC=is.map nm;rw[oq (by rw[nK.2.2];decide),List.filter_eq_self.mpr];intro x hx;obtain⟨i,hi,rfl⟩:=ib.mp hx;exact hn i (hk.2.2.2 i hi)
theorem eE{nm:Nat->Str}{n:Nat}(hn:NOk nm n):∀{k:Kd},k.Fit n->(∀w∈k.words nm,w.length<=6)/\(k.words nm).length<=5:=by
 have hnum:∀w,w<=9->∀x∈(Kd.num w).words nm,x.length<=6:=fun w hw x hx=>by
  simp only[Kd.words,υ,il,or_false]at hx;rcases hx with rfl|rfl
  ·decide
  ·rw[(dig hw).2.1];decide
 have hnest:∀i,i<n->∀x∈(Kd.nest i).words nm,x.length<=6:=fun i hi x hx=>by
  rw[Φ.mp (show x∈[nm i] from hx)];exact(vJ (hn i hi)).2
 intro k hk;cases k with
 |num w=>exact⟨hnum w (by have:=hk.2;omega),by show 2<=5;decide⟩
 |nest i=>exact⟨hnest i hk,by show 1<=5;decide⟩
 |many m k =>
  have:(∀x∈k.words nm,x.length<=6)/\(k.words nm).length<=2:=by
   rcases hk.2.2 with⟨w,rfl,hw⟩|⟨i,rfl,hi⟩
   ·exact⟨hnum w (by omega),by show 2<=2;decide⟩
   ·exact⟨hnest i hi,by show 1<=2;decide⟩
  refine⟨fun x hx=>?_,by show(k.words nm).length+1+1<=5;omega⟩;simp only[Kd.words,υ]at hx;rcases hx with rfl|rfl|hx
  ·decide
  ·rw[(dig (by have:=hk.2.1;omega)).2.1];decide
  ·exact this.1 x hx
 |pick is =>
  refine⟨fun x hx=>?_,by show(is.map nm).length+1<=5;rw[δ];have:=hk.2.1;omega⟩;simp only[Kd.words,υ,ib]at hx;rcases hx with rfl|⟨i,hi,rfl⟩
  ·decide
  ·exact(vJ (hn i (hk.2.2.2 i hi))).2
def spSg (K:Δ):Sp:=fun vs H Q _=>∃(a:Addr) (ws:List Str),vs=[.ref a]/\SqL K H a (ws.map V.str)/\((∃w:Nat,1<=w/\w<=4/\ws=[ζ "num",ζ (toString (w:Int))])\/∃x,qC x=true/\ws=[x])/\∀H',jG H H'->Q (.bl true) H'
def spKd (K:Δ):Sp:=fun vs H Q _=>∃(a:Addr) (nm:Nat->Str) (n:Nat) (kd:Kd),vs=[.ref a]/\SqL K H a ((kd.words nm).map V.str)/\kd.Fit n/\NOk nm n/\∀H',jG H H'->Q (.bl true) H'
def spFl (K:Δ):Sp:=fun vs H Q _=>∃(a:Addr) (nm:Nat->Str) (n:Nat) (kd:Kd) (f:Str),vs=[.ref a]/\SqL K H a ((f::kd.words nm).map V.str)/\qC f=true/\kd.Fit n/\NOk nm n/\∀H',jG H H'->Q (.bl true) H'
def aGc (K:Δ):Sp:=fun vs H Q _=>∃(a:Addr) (nm:Nat->Str) (n:Nat) (kd:Kd) (f:Str),vs=[.ref a]/\SqL K H a ((f::kd.words nm).map V.str)/\kd.Fit n/\NOk nm n/\∀l H',jG H H'->H l=none->H' l=some (.lst ((Kd.named nm kd).map V.str))->Q (.ref l) H'
theorem rY{f:Str->Bool}{l:List Str}{i:Nat}(h:l[i]?=some a):(l.take (i+1)).filter f=(l.take i).filter f++(if f a=true then [a] else []):=by
 rw[jk,h,List.filter_append]
 congr 1
 show[a].filter f=_
 by_cases z:f a=true
 ·rw[if_pos z,List.filter_cons_of_pos z];rfl
 ·rw[if_neg z,oq z];rfl
theorem yM{ns:List Str}{i:Nat}(h:(ns.map V.str)[i]?=some x):∃c,ns[i]?=some c/\x=.str c:=by
 rw[gu]at h;cases e:ns[i]? with
 |none=>rw[e]at h;cases h
 |some c=>rw[e]at h;cases h;exact⟨c,rfl,rfl⟩
def spLJ:Sp:=fun vs H Q _=>∃(p y:Str),vs=[.str p,.str y]/\p.length<=1000/\y.length<=1000/\1<=y.length/\Q (.str (pj p y)) H
structure Wel (S:List Shp):Prop where
 good:Good S
 nm:∀s∈S,qC s.1=true
 fnm:∀s∈S,∀f∈s.2,qC f.1=true
 nd:(S.map (·.1)).Nodup
 fnd:∀s∈S,(s.2.map (·.1)).Nodup
 len:S.length<=4
 bd:∀(i:Nat) (s:Shp),S[i]?=some s->(tabs S).sz.getD i 0<=64/\(un (.nest i) S Str.empty).length<=40/\(tabs S).dp.getD i 0<=4/\s.2.length<=6
theorem bL{α : Type}{S:List α}{x y : α}{i:Nat}(h:(S++[x])[i]?=some y):S[i]?=some y\/(i=S.length/\y=x):=by
 by_cases hi:i<S.length
 ·rw[ig hi]at h;exact .inl h
 ·rw[gr (by omega)]at h;have:i-S.length<1:=(θ.mp h).1;have e:i=S.length:=by omega
  subst e;rw[my]at h;cases h;exact .inr ⟨rfl,rfl⟩
theorem Good.snoc{s:Shp}(h:Good S1)(h1:s.2≠[])(h2:s.2.length<=6)(h3:∀f∈s.2,f.2.Fit S1.length/\1<=f.1.length/\f.1.length<=6)(h4:(s.2.map fun f=>f.2.size (tabs S1).sz).sum<=1000):Good (S1++[s]):=by
 refine⟨fun i t e=>?_,fun i t e=>?_,fun i t e=>?_,fun i=>?_⟩
 ·rcases bL e with e|⟨_,rfl⟩
  ·exact h.ne i t e
  ·exact h1
 ·rcases bL e with e|⟨_,rfl⟩
  ·exact h.few i t e
  ·exact h2
 ·rcases bL e with e|⟨rfl,rfl⟩
  ·exact h.fit i t e
  ·exact h3
 ·by_cases hi:i<S1.length
  ·rw[(nB hi).1];exact h.sz i
  ·by_cases e:i=S1.length
   ·subst e;rw[(cP S1 s []).1];exact h4
   ·have hl:=(bA (S1++[s])).1;rw[ξ,lj]at hl;rw[Θ,se (by omega)];exact gw _
theorem Good.pre{S1 S2:List Shp}(h:Good (S1++S2)):Good S1:=by
 refine⟨fun i t e=>h.ne i t ?_,fun i t e=>h.few i t ?_,fun i t e=>h.fit i t ?_,fun i=>?_⟩
 ·rw[ig (θ.mp e).1];exact e
 ·rw[ig (θ.mp e).1];exact e
 ·rw[ig (θ.mp e).1];exact e
 ·by_cases hi:i<S1.length
  ·rw[←(nB (R:=S2) hi).1];exact h.sz i
  ·have hl:=(bA S1).1;rw[Θ,se (by omega)];exact gw _
def aAb (S:List Shp) (i:Nat):Prop:=(tabs S).sz.getD i 0<=64/\(un (.nest i) S Str.empty).length<=40/\(tabs S).dp.getD i 0<=4
theorem Wel.pre{S S1 S2:List Shp}{s:Shp}{f1 f2:List (Str×Kd)}(h:Wel S)(e:S=S1++s::S2)(ef:s.2=f1++f2)(hne:f1≠[]):Good (S1++[(s.1,f1)])/\aAb (S1++[(s.1,f1)]) S1.length/\f1.length<=6:=by
 subst e;have hi:(S1++s::S2)[S1.length]?=some s:=by rw[gr (μ _),my];rfl
 obtain⟨b1,b2,b3,b4⟩:=h.bd _ _ hi;obtain⟨t1,t2,t3⟩:=cP S1 s S2;obtain⟨u1,u2,u3⟩:=cP S1 (s.1,f1) [];rw[ef,ξ]at b4;have z1:(f1.map fun f=>f.2.size (tabs S1).sz).sum<=64:=by
  rw[t1,ef,τ,List.sum_append]at b1;omega
 have hfit:=h.good.fit _ _ hi;refine⟨Good.snoc (Good.pre h.good) hne (by show f1.length<=6;omega) (fun f hf=>hfit f (by rw[ef];exact ke _ hf)) (by show(f1.map _).sum<=1000;omega),⟨by rw[u1];exact z1,?_,?_⟩,by omega⟩
 ·have e1:un (.nest S1.length) (S1++[(s.1,f1)]) Str.empty=_:=u3 Str.empty;have e2:un (.nest S1.length) (S1++s::S2) Str.empty=_:=t3 Str.empty;rw[e2,ef,pe,ξ]at b2;rw[e1];show(f1.flatMap _).length<=40;omega
 ·rw[u2];rw[t2,ef,τ]at b3;have:vZ (f1.map fun f=>f.2.depth (tabs S1).dp)<=vZ ((f1.map fun f=>f.2.depth (tabs S1).dp)++(f2.map fun f=>f.2.depth (tabs S1).dp)):=tT fun x hx=>gZ (ke _ hx);show 1+vZ (f1.map fun f=>f.2.depth (tabs S1).dp)<=4;omega
theorem vW{S:List Shp}{i:Nat}(h:S[i]?=some s):kS S i=s.1:=by
 unfold kS;rw[Θ,h];rfl
theorem aKv{S1 S2:List Shp}{i:Nat}(h:i<S1.length):kS (S1++S2) i=kS S1 i:=by
 have e:S1[i]?=some S1[i]:=η h;rw[vW e,vW (by rw[ig h];exact e)]
theorem mD{nm nm':Nat->Str}{n:Nat}(h:∀i,i<n->nm i=nm' i):∀{k:Kd},k.Below n->k.words nm=k.words nm'
 |.num _,_=>rfl
 |.nest i,hk=>by show[nm i]=[nm' i];rw[h i hk]
 |.many m k,hk=>by show _::_::k.words nm=_::_::k.words nm';rw[mD h (k:=k) hk]
 |.pick is,hk=>by
  show _::is.map nm=_::is.map nm';rw[wb fun i hi=>h i (hk i hi)]
theorem aDh{S:List Shp}(h:∀s∈S,qC s.1=true):NOk (kS S) S.length:=fun i hi=>by
 have e:S[i]?=some S[i]:=η hi;rw[vW e];exact h _ (ju hi)
theorem aIs{S:List Shp}(h:(S.map (·.1)).Nodup){i j:Nat}(hi:i<S.length)(hj:j<S.length)(e:kS S i=kS S j):i=j:=by
 have ei:S[i]?=some S[i]:=η hi;have ej:S[j]?=some S[j]:=η hj;rw[vW ei,vW ej]at e;have hp:=pq.mp h;rcases Nat.lt_trichotomy i j with hl|hl|hl
 ·exact absurd (by rw[yg,yg];exact e) (hp i j (by rw[δ];exact hi) (by rw[δ];exact hj) hl)
 ·exact hl
 ·exact absurd (by rw[yg,yg];exact e.symm) (hp j i (by rw[δ];exact hj) (by rw[δ];exact hi) hl)
theorem aBw{S:List Shp}(h:(S.map (·.1)).Nodup):∀{k:Kd},k.Fit S.length->(Kd.named (kS S) k).Nodup/\(Kd.named (kS S) k).length<=4/\∀x∈Kd.named (kS S) k,∃i,i<S.length/\x=kS S i:=by
 have hs:∀{k:Kd},(∃w,k=.num w/\1<=w/\w<=4)\/(∃i,k=.nest i/\i<S.length)->(Kd.named (kS S) k).Nodup/\(Kd.named (kS S) k).length<=4/\∀x∈Kd.named (kS S) k,∃i,i<S.length/\x=kS S i:=by
  rintro k (⟨w,rfl,_⟩|⟨i,rfl,hi⟩)
  ·exact⟨xi,gw _,fun x hx=>by cases hx⟩
  ·exact⟨uc _ _,(by show 1<=4;decide),fun x hx=>⟨i,hi,Φ.mp hx⟩⟩
 intro k hk;cases k with
 |num w=>exact hs (.inl ⟨w,rfl,hk⟩)
 |nest i=>exact hs (.inr ⟨i,rfl,hk⟩)
 |many m k=>exact hs (k:=k) hk.2.2
 |pick is =>
  refine⟨?_,by show(is.map _).length<=4;rw[δ];exact hk.2.1,fun x hx=>?_⟩
  ·show(is.map (kS S)).Pairwise (·≠·);rw[va];exact hk.2.2.1.imp_of_mem fun ha hb ne e=>ne (aIs h (hk.2.2.2 _ ha) (hk.2.2.2 _ hb) e)
  ·obtain⟨i,hi,rfl⟩:=ib.mp hx;exact⟨i,hk.2.2.2 i hi,rfl⟩
theorem aMh{ws:List Str}(h:qC n=true):aAn (n::ws)=false:=by
 match ws with
 |[]=>rfl
 |[y] =>
  show(decide (n=ζ "shape")&&qC y)=false;rw[decide_eq_false (cN h (by decide)),rm]
 |_::_::_=>rfl
def aOf (c:Cl5) (K:Δ):Sp:=fun vs H Q _=>∃(tl:Addr) (x:V) (nm:Str) (sa:List Addr) (T:List Shp),vs=[.ref tl,x,.str nm]/\H tl=some (.lst (sa.map V.ref))/\SW c K H sa T/\(∀s∈T,s.2≠[])/\nm∉T.map (·.1)/\T.length<8/\∀H',jG H H'->Q .non H'
def spWh (c:Cl5) (K:Δ):Sp:=fun vs H Q _=>∃(tl z:Addr) (sa:List Addr) (T:List Shp) (s:Shp),vs=[.ref tl]/\H tl=some (.lst ((sa++[z]).map V.ref))/\SW c K H (sa++[z]) (T++[s])/\(T.map (·.1)).Nodup/\T.length<=100/\∀d H',jG H H'->H d=none->H' d=some (.dK (dk T sa))->Q (.ref d) H'
def spNF (c:Cl5) (K:Δ):Sp:=fun vs H Q _=>∃(tl a z:Addr) (x:V) (sa:List Addr) (T:List Shp) (s:Shp) (fn:Str) (kd:Kd),vs=[.ref tl,x,.ref a]/\H tl=some (.lst ((sa++[z]).map V.ref))/\SW c K H (sa++[z]) (T++[s])/\SqL K H a ((fn::kd.words (kS T)).map V.str)/\qC fn=true/\fn∉s.2.map (·.1)/\s.2.length<=100/\kd.Fit T.length/\NOk (kS T) T.length/\(T.map (·.1)).Nodup/\T.length<=100/\∀H',jG H H'->Q .non H'
inductive aEu (c:Cl5) (K:Δ) (n:Nat) (vs:List V) (H:Hp) (Q:VK):Prop|mk:∀(a d:Addr) (kd:Kd) (sa:List Addr) (T:List Shp),vs=[.ref a,.ref d]->kd.lv<n->SqL K H a ((kd.words (kS T)).map V.str)->H d=some (.dK (dk T sa))->kd.Fit T.length->NOk (kS T) T.length->(T.map (·.1)).Nodup->sa.length=T.length->(∀k H',jG H H'->KO c K H' sa k kd->Q (.ref k) H')->aEu c K n vs H Q
def aFd (c:Cl5) (K:Δ) (n:Nat):Sp:=fun vs H Q _=>aEu c K n vs H Q
def spTM (c:Cl5) (K:Δ) (r:Nat):Sp:=fun vs H Q _=>∃(a:Addr) (i:Nat) (sa:List Addr) (S:List Shp),vs=[.ref a]/\sa[i]?=some a/\2*i+2<=r/\8*r<=200/\SW c K H sa S/\Good S/\aAb S i/\∀H',jG H H'->Q (.bl false) H'
def spWF (c:Cl5) (K:Δ) (r:Nat):Sp:=fun vs H Q _=>∃(tl a z:Addr) (x:V) (sa:List Addr) (T:List Shp) (s:Shp) (fn:Str) (kd:Kd),vs=[.ref tl,x,.ref a]/\H tl=some (.lst ((sa++[z]).map V.ref))/\SW c K H (sa++[z]) (T++[s])/\SqL K H a ((fn::kd.words (kS T)).map V.str)/\kd.Fit T.length/\NOk (kS T) T.length/\(T.map (·.1)).Nodup/\T.length<=100/\2*T.length+2<=r/\8*r<=200/\s.2.length<=50/\Good (T++[(s.1,s.2++[(fn,kd)])])/\aAb (T++[(s.1,s.2++[(fn,kd)])]) T.length ∧
 ∀y H',jG H H'->SO c K H' sa y (s.1,s.2++[(fn,kd)])->Q (.ref y) H'
def txt (S:List Shp):Str:=je nlS ((nF S).map (je spS))
def spRd (c:Cl5) (CS:Addr) (K:Δ) (r:Nat):Sp:=fun vs H Q _=>∃S:List Shp,vs=[.str (txt S)]/\Wel S/\S≠[]/\12<=r/\8*r<=200/\∀(a dx t:Addr) (sa:List Addr) H',jG H H'->H' a=some (.ins CS dx [("shapes",.ref t)])->SqT K H' t (sa.map V.ref)->SW c K H' sa S->Q (.ref a) H'
theorem oT(h:qC x=true):Pln x:=by
 unfold qC at h;simp only[jt]at h;have ha:x.cps.toList.all (fun c=>decide (c∈yL.cps.toList))=true:=h.1.2;have hc:∀c∈x.cps.toList,97<=c/\c<=122:=fun c hc=>(aF c).mp (of_decide_eq_true (ia.mp ha c hc));exact⟨fun z=>by have:=hc _ z;omega,fun z=>by have:=hc _ z;omega⟩
theorem aEx(hW:Wel S):∀it∈vB S,(∀w∈it.line (kS S),Pln w/\w.length<=6)/\(it.line (kS S)).length<=6/\it.line (kS S)≠[]:=by
 intro it hit;obtain⟨s,hs,hit⟩:=List.mem_flatMap.mp hit;have hn:=aDh hW.nm;unfold iI at hit;rcases υ.mp hit with rfl|hit
 ·refine⟨fun w hw=>?_,(by show 2<=6;decide),(by simp[Itm.line])⟩;simp only[Itm.line,υ,il,or_false]at hw;rcases hw with rfl|rfl
  ·exact⟨by unfold Pln;ac_rfl,by decide⟩
  ·exact⟨oT (hW.nm s hs),(vJ (hW.nm s hs)).2⟩
 ·obtain⟨f,hf,rfl⟩:=ib.mp hit;obtain⟨i,hi⟩:=jz.mp hs;have hfit:f.2.Fit S.length:=(hW.good.fit i s hi f hf).1.mono (jw (θ.mp hi).1);have hnm:=hW.fnm s hs f hf;obtain⟨w6,w5⟩:=eE hn hfit;refine⟨fun w hw=>?_,(by show(f.2.words (kS S)).length+1<=6;omega),(by simp[Itm.line])⟩;rcases υ.mp (show w∈f.1::f.2.words (kS S) from hw) with rfl|hw
  ·exact⟨oT hnm,(vJ hnm).2⟩
  ·exact⟨hfit.plain (fun j hj=>oT (hn j hj)) w hw,w6 w hw⟩
theorem aHx{S:List Shp}(hW:Wel S)(hne:S≠[]):(vB S).length<=40/\(∀it∈vB S,(je spS (it.line (kS S))).length<=100/\pz (je spS (it.line (kS S))) spS=it.line (kS S))/\(txt S).length<=5000/\pz (txt S) nlS=(vB S).map fun it=>je spS (it.line (kS S)):=by
 have hl:=aEx hW;have h30:(vB S).length<=40:=by
  unfold vB;rw[List.length_flatMap];have h1:(S.map fun s=>(iI s).length).sum<=S.length*7:=lE fun s hs=>by
   obtain⟨i,hi⟩:=jz.mp hs;have:=(hW.bd i s hi).2.2.2;unfold iI;rw[gj,δ];omega
  have:=hW.len;omega
 have hrow:∀it∈vB S,(je spS (it.line (kS S))).length<=100:=fun it hit=>by
  obtain⟨h1,h2,_⟩:=hl it hit;have h3:(je spS (it.line (kS S))).length<=_:=nR (c:=32) (m:=6) fun w hw=>(h1 w hw).2;omega
 have e:(nF S).map (je spS)=(vB S).map fun it=>je spS (it.line (kS S)):=by rw[cL,jf];rfl
 refine⟨h30,fun it hit=>⟨hrow it hit,aDv (hl it hit).2.2 fun w hw=>((hl it hit).1 w hw).1⟩,?_,?_⟩
 ·unfold txt;rw[e];have h3:(je nlS ((vB S).map fun it=>je spS (it.line (kS S)))).length<=_:=nR (c:=10) (m:=100) (ws:=(vB S).map fun it=>je spS (it.line (kS S))) fun w hw=>by
   obtain⟨it,hit,rfl⟩:=ib.mp hw;exact hrow it hit
  rw[δ]at h3;omega
 ·unfold txt;rw[aCd,e]
  ·rw[cL];intro z;have h0:=wA hne;rw[List.map_eq_nil_iff]at z;rw[z]at h0;exact absurd h0 (by decide)
  ·intro l hl' w hw;rw[cL]at hl';obtain⟨it,hit,rfl⟩:=ib.mp hl';exact((hl it hit).1 w hw).1
theorem aFi{sa:List Addr}{T:List Shp}{s:Shp}(h:sa.length=(T++[s]).length):∃sa0 z,sa=sa0++[z]:=by
 rcases xw sa with rfl|⟨sa0,z,rfl⟩
 ·rw[ξ]at h;exact absurd h (by simp)
 ·exact⟨sa0,z,xx ..⟩
def aJp (K:Δ) (r:Nat):Sp:=fun vs H Q _=>∃(sl:Addr) (S:List Shp) (n:Nat),vs=[.ref sl]/\S.length=n+1/\LX K H sl S/\Good S/\2*n+2<=r/\8*r<=200/\∀(b:Bool) H',jG H H'->(b=true->aAb S n)->Q (.bl b) H'
def aOg (K:Δ):Sp:=fun vs H Q _=>∃(p:Addr) (n:Nat) (xs:List Addr),vs=[.ref p,.int n]/\n<=8/\St3 H p/\p∈xs/\Al xs H/\∀a kd H',Drawn p H H'->kd.Fit n->LK K (offs xs H') a kd->Q (.ref a) H'
theorem Al.drawn(h:Al xs H)(d:Drawn p H H'):Al xs H':=fun b hb=>by
 by_cases e:b=p
 ·obtain⟨x,y,z,q⟩:=d.1;exact⟨_,by rw[e];exact q⟩
 ·obtain⟨o,ho⟩:=h b hb;exact⟨o,d.2 b o e ho⟩
theorem Drawn.offs{xs:List Addr}(d:Drawn p H H')(hp:p∈xs):jG (offs xs H) (offs xs H'):=xW fun b o n q=>d.2 b o (fun z=>n (by rw[z];exact hp)) q
theorem aGt{a n m:Nat}(h:m<=n):((ir m).map fun k=>(a+k) % n).Nodup:=by
 show yk (·≠·) _;rw[va];refine List.pairwise_lt_range.imp_of_mem fun {i j} hi hj hlt e=>?_;have hj':=vb.mp hj;have h1:=Nat.sub_mod_eq_zero_of_mod_eq e.symm;rw[show a+j-(a+i)=j-i by omega,Nat.mod_eq_of_lt (by omega)]at h1;omega
def spKT (K:Δ) (n:Nat):Sp:=fun vs H Q _=>∃(a sl:Addr) (kd:Kd) (S:List Shp),vs=[.ref a,.ref sl]/\kd.lv<n/\kd.Fit S.length/\NOk (kS S) S.length/\LK K H a kd/\LX K H sl S/\∀H',jG H H'->Q (.str (je spS (kd.words (kS S)))) H'
def spTx (K:Δ):Sp:=fun vs H Q _=>∃(sl:Addr) (S:List Shp),vs=[.ref sl]/\LX K H sl S/\Wel S/\S≠[]/\∀H',jG H H'->Q (.str (txt S)) H'
def pR (S:List Shp) (it:Itm):Str:=je spS (it.line (kS S))
theorem aIa(S:List Shp):txt S=je nlS ((vB S).map (pR S)):=by
 unfold txt;rw[cL,jf];rfl
def w0L:List Str:=["num","row","pick","tag","room","part","tags","put","look","shape","end","out"]
def nm0 (a:Nat):List Str:=(ir 12).map fun k=>(w0L.getD ((a+k) % 12) Str.empty)++ζ "q"
def NmOk (ns:List Str):Prop:=ns.length=12/\ns.Nodup/\∀x∈ns,qC x=true
theorem aQc{a:Nat}(h:a<12):NmOk (nm0 a):=by
 have:∀a:Fin 12,(nm0 a.val).length=12/\(nm0 a.val).Nodup/\∀x∈nm0 a.val,qC x=true:=by ac_rfl
 exact this ⟨a,h⟩
def c1L:Str:=ζ "bfgjkqvxyzwh"
def c1 (a k:Nat):Nat:=c1L.cps.toList.getD ((a+k) % 12) 0
def nm1 (tl:Str) (a:Nat):List Str:=(ir 12).map fun k=>(⟨#[c1 a k]⟩ : Str)++tl++ζ "x"
theorem nJ(tl:Str)(c:Nat):((⟨#[c]⟩ : Str)++tl++ζ "x").cps.toList=c::tl.cps.toList++[120]:=by
 rw[og,og,nc,nc];rfl
theorem aQb{tl:Str}{a:Nat}(h:a<12)(h4:tl.length<=4)(hl:∀c∈tl.cps.toList,97<=c/\c<=122):NmOk (nm1 tl a):=by
 have hc:∀a:Fin 12,((ir 12).map fun k=>c1 a.val k).Nodup/\∀k,k<12->97<=c1 a.val k/\c1 a.val k<=122:=by ac_rfl
 obtain⟨h1,h2⟩:=hc ⟨a,h⟩;have ho:∀w∈aLj,w.cps.toList.getLast?≠some 120:=by ac_rfl
 refine⟨by unfold nm1;rw[δ,jo],?_,fun x hx=>?_⟩
 ·unfold nm1;show yk (·≠·) _;rw[va];have h1':yk (·≠·) ((ir 12).map fun k=>c1 a k):=h1;rw[va]at h1';refine h1'.imp fun ne e=>ne ?_;have:=congrArg (fun s:Str=>s.cps.toList) e;simp only[nJ]at this;exact(tf this).1
 ·obtain⟨k,hk,rfl⟩:=ib.mp hx;have hk':=vb.mp hk;have hlen:((⟨#[c1 a k]⟩ : Str)++tl++ζ "x").length=tl.length+2:=by
   rw[ki,ki];show 1+tl.length+1=_;omega
  unfold qC within aAm;simp only[jt,decide_eq_true_eq,Bool.not_eq_true',decide_eq_false_iff_not,ia];refine⟨⟨⟨by rw[hlen];omega,by rw[hlen];omega⟩,fun c hc=>?_⟩,fun z=>?_⟩
  ·rw[nJ]at hc;rw[aF];simp only[iz,υ,il,or_false]at hc;rcases hc with (rfl|hc)|rfl
   ·exact h2 k hk'
   ·exact hl c hc
   ·exact⟨by decide,by decide⟩
  ·refine ho _ z ?_;rw[nJ,List.getLast?_append];rfl
def nm2 (a:Nat):List Str:=((ir 6).map fun k=>Txt.slice (ζ "zyxwvu") none (some (1+(((a+k) % 6:Nat):Int))))++(["yz","yyyyyy","y","yx","numz","tagszz"]:List Str)
theorem aPq{a:Nat}(h:a<12):NmOk (nm2 a):=by
 have:∀a:Fin 12,(nm2 a.val).length=12/\(nm2 a.val).Nodup/\∀x∈nm2 a.val,qC x=true:=by ac_rfl
 exact this ⟨a,h⟩
theorem wO:∀cs:List Nat,(je (ζ "") (cs.map fun c=>(⟨#[c]⟩ : Str))).cps.toList=cs
 |[]=>rfl
 |[c]=>rfl
 |c::d::cs=>by
  have ih:=wO (d::cs);rw[jp,lM (by simp),og,og,nc,nc,ih];rfl
theorem Drawn.free{H H1:Hp}(d:Drawn p H H1)(h:H1 l=none):H l=none:=by
 cases e:H l with
 |none=>rfl
 |some o =>
  by_cases z:l=p
  ·obtain⟨x,y,w,q⟩:=d.1;rw[z,q]at h;cases h
  ·rw[d.2 l o z e]at h;cases h
def bdN:List Str:=[ζ "a",ζ "more"]
def NmC (ns:List Str):Prop:=∀x∈ns,x∉bdN
def Cln (S:List Shp):Prop:=∀s∈S,s.1∉bdN/\∀f∈s.2,f.1∉bdN
theorem Cln.snoc{s:Shp}(h:Cln S)(h1:s.1∉bdN)(h2:∀f∈s.2,f.1∉bdN):Cln (S++[s]):=fun t ht=>by
 rcases iz.mp ht with ht|ht
 ·exact h t ht
 ·rw[Φ.mp ht];exact⟨h1,h2⟩
theorem nm0_c{a:Nat}(h:a<12):NmC (nm0 a):=by
 have:∀a:Fin 12,∀x∈nm0 a.val,x∉bdN:=by ac_rfl
 exact this ⟨a,h⟩
theorem nm2_c{a:Nat}(h:a<12):NmC (nm2 a):=by
 have:∀a:Fin 12,∀x∈nm2 a.val,x∉bdN:=by ac_rfl
 exact this ⟨a,h⟩
theorem nm1_c : NmC (nm1 tl a):=fun x hx hb=>by
 have ho:∀w∈bdN,w.cps.toList.getLast?≠some 120:=by ac_rfl
 obtain⟨k,_,rfl⟩:=ib.mp hx;refine ho _ hb ?_;rw[nJ];exact List.getLast?_concat ..
def aOo (K:Δ):Sp:=fun vs H Q _=>∃p:Addr,vs=[.ref p]/\St3 H p/\∀l ns H',Drawn p H H'->H l=none->H' l=some (.lst (ns.map V.str))->NmOk ns->NmC ns->Q (.ref l) H'
theorem modc{a j n:Nat}: (((a:Nat):Int)+((0:Int)+(j:Nat))) % ((n:Nat):Int)=(((a+j) % n:Nat):Int):=by
 rw[sy,←uq]
 first|exact(Int.natCast_emod _ _).symm|exact(Int.ofNat_emod _ _).symm|rfl
theorem Wel.nil:Wel []:=⟨⟨fun i s h=>by simp at h,fun i s h=>by simp at h,fun i s h=>by simp at h,fun i=>by show(([]:List Nat).getD i 0)<=1000;simp⟩,fun s h=>by simp at h,fun s h=>by simp at h,xi,fun s h=>by simp at h,gw _,fun i s h=>by simp at h⟩
theorem Wel.sz64(h:Wel S)(i:Nat):(tabs S).sz.getD i 0<=64:=by
 by_cases hi:i<S.length
 ·exact(h.bd i _ (η hi)).1
 ·rw[Θ,se (by rw[(bA S).1];omega)];exact gw _
theorem Wel.snoc{S:List Shp}{nm:Str}{fs:List (Str×Kd)}(h:Wel S)(h1:qC nm=true)(h2:nm∉S.map (·.1))(h3:S.length<=3)(h4:fs≠[])(h5:fs.length<=6)(h6:∀f∈fs,f.2.Fit S.length/\qC f.1=true)(h7:(fs.map (·.1)).Nodup)(h8:aAb (S++[(nm,fs)]) S.length):Wel (S++[(nm,fs)]):=by
 have hz:=h8.1;rw[(cP S (nm,fs) []).1]at hz;refine⟨Good.snoc h.good h4 (by show fs.length<=6;omega) (fun f hf=>⟨(h6 f hf).1,vJ (h6 f hf).2⟩) (by show(fs.map _).sum<=1000;exact Ψ hz (by decide)),fun s hs=>?_,fun s hs=>?_,?_,fun s hs=>?_,by rw[ξ,lj];omega,fun i s e=>?_⟩
 ·rcases iz.mp hs with hs|hs
  ·exact h.nm s hs
  ·rw[Φ.mp hs];exact h1
 ·rcases iz.mp hs with hs|hs
  ·exact h.fnm s hs
  ·rw[Φ.mp hs];exact fun f hf=>(h6 f hf).2
 ·rw[τ,xq];refine⟨h.nd,uc _ _,fun a ha b hb e=>h2 ?_⟩;rw[←show b=nm from Φ.mp hb,←e];exact ha
 ·rcases iz.mp hs with hs|hs
  ·exact h.fnd s hs
  ·rw[Φ.mp hs];exact h7
 ·rcases bL e with e|⟨rfl,rfl⟩
  ·have hi:i<S.length:=(θ.mp e).1;obtain⟨t1,t2,t3⟩:=nB (R:=[(nm,fs)]) hi;obtain⟨b1,b2,b3,b4⟩:=h.bd i s e;refine⟨by rw[t1];exact b1,?_,by rw[t2];exact b3,b4⟩;have e1:un (.nest i) (S++[(nm,fs)]) Str.empty=un (.nest i) S Str.empty:=by
    show((tabs (S++[(nm,fs)])).ut.getD i fun _=>[]) Str.empty=((tabs S).ut.getD i fun _=>[]) Str.empty;rw[t3]
   rw[e1];exact b2
  ·exact⟨h8.1,h8.2.1,h8.2.2,h5⟩
theorem aHk{nm:Str}{fs:List (Str×Kd)}{f:Str×Kd}(h:Wel S)(hs:fs≠[]->aAb (S++[(nm,fs)]) S.length)(h5:fs.length<=5)(h6:∀f∈fs,f.2.Fit S.length/\qC f.1=true)(hf:f.2.Fit S.length)(hn:qC f.1=true):Good (S++[(nm,fs++[f])]):=by
 refine Good.snoc h.good (by simp) (by show(fs++[f]).length<=6;rw[ξ,lj];omega) (fun g hg=>?_) ?_
 ·rcases iz.mp hg with hg|hg
  ·exact⟨(h6 g hg).1,vJ (h6 g hg).2⟩
  ·rw[Φ.mp hg];exact⟨hf,vJ hn⟩
 ·show((fs++[f]).map fun f=>f.2.size (tabs S).sz).sum<=1000;rw[τ,List.sum_append];have h1:(fs.map fun f=>f.2.size (tabs S).sz).sum<=64:=by
   by_cases e:fs=[]
   ·rw[e];exact gw _
   ·have hz:=(hs e).1;rw[(cP S (nm,fs) []).1]at hz;exact hz
  have h2:=Kd.size_bd (h.sz64) (by decide) hf;show _+(f.2.size (tabs S).sz+0)<=1000;omega
theorem aLo{S:List Shp}{nm x:Str}{w:Nat}(hw:w<=4):aAb (S++[(nm,[(x,Kd.num w)])]) S.length:=by
 obtain⟨t1,t2,t3⟩:=cP S (nm,[(x,Kd.num w)]) [];refine⟨?_,?_,?_⟩
 ·rw[t1];show w+0<=64;omega
 ·have e1:un (.nest S.length) (S++[(nm,[(x,Kd.num w)])]) Str.empty=_:=t3 Str.empty;rw[e1];show 1<=40;decide
 ·rw[t2];show 1+max 0 0<=4;decide
def spSh (K:Δ) (r:Nat):Sp:=fun vs H Q _=>∃p:Addr,vs=[.ref p,.int 4]/\St3 H p/\12<=r/\8*r<=200/\∀l S H',Drawn p H H'->H l=none->LX K (offs [p] H') l S->Wel S->S≠[]->Cln S->Q (.ref l) H'
theorem aFf{H:Hp}(h:St3 H p)(ha:H a=none):a≠p:=fun z=>by
 obtain⟨x,y,w,q⟩:=h;rw[z,q]at ha;cases ha
theorem fB{H:Hp}(h:St3 H p):∃o,H p=some o:=by
 obtain⟨x,y,w,q⟩:=h;exact⟨_,q⟩
def isK (c:Cl5):Kd->Addr
 |.num _=>c.num
 |.nest _=>c.nest
 |.many _ _=>c.many
 |.pick _=>c.pick
def samK:Kd->Kd->Bool
 |.num _,.num _=>true
 |.nest _,.nest _=>true
 |.many _ _,.many _ _=>true
 |.pick _,.pick _=>true
 |_,_=>false
structure KdS (K:Δ) (c:Cl5):Prop where
 ins:∀k:Kd,InsC K (isK c k)
 kit:∀k k':Kd,jy K (.ref (isK c k)) (.ref (isK c k'))=some (samK k k')
theorem KdS.ty{K:Δ}(T:KdS K c)(h:KO c K H sa a k):fU K H (.ref a) (.ref (isK c k)):=by
 cases h with
 |num h=>exact(T.ins (.num 0)).ty h
 |nest _ h=>exact(T.ins (.nest 0)).ty h
 |many h _=>exact(T.ins (.many 0 (.num 0))).ty h
 |pick h _ _ _=>exact(T.ins (.pick [])).ty h
def stV:Kd->Nat->Str->V
 |.many _ _,j,_=>.int j
 |_,_,y=>.str y
def PP (c:Cl5) (K:Δ) (H:Hp) (sa:List Addr) (l:Addr) (kd:Kd) (S:List Shp):Prop:=∃ts:List Addr,H l=some (.lst (ts.map V.ref))/\ts.length=(kd.parts S).length/\∀(j:Nat) (t:Addr),ts[j]?=some t->∃(y:Str) (kd':Kd) (k:Addr),(kd.parts S)[j]?=some (y,kd')/\SqT K H t [stV kd j y,.ref k]/\KO c K H sa k kd'
def spP2 (c:Cl5) (K:Δ) (F:Kd->Bool):Sp:=fun vs H Q _=>∃(a:Addr) (kd:Kd) (sa:List Addr) (S:List Shp),vs=[.ref a]/\F kd=true/\kd.Fit S.length/\KO c K H sa a kd/\SW c K H sa S/\Good S/\∀l H',jG H H'->H l=none->PP c K H' sa l kd S->Q (.ref l) H'
def aKo (c:Cl5) (K:Δ):Addr->Sp->Prop:=fun C sp=>(C=c.nest/\sp=spP2 c K Kd.isNest)\/(C=c.many/\sp=spP2 c K Kd.isMany)
theorem aDe{K:Δ}{H:Hp}{kd:Kd}{S:List Shp}{Q:VK}{E:XK}(hm:Nolk m)(hs:kd.Pd)(hf:kd.Fit S.length)(ho:KO c K H sa a kd)(hw:SW c K H sa S)(hg:Good S)
  (q:∀l H',jG H H'->H l=none->PP c K H' sa l kd S->Q (.ref l) H'):∃a' C dx fs sp,V.ref a=.ref a'/\H a'=some (.ins C dx fs)/\fs.lookup m=none/\aKo c K C sp/\sp [.ref a] H Q E:=by
 cases id ho with
 |num h=>rcases hs with⟨_,z⟩|⟨_,_,z⟩ <;> cases z
 |nest e h=>exact⟨_,_,_,_,_,rfl,h,(hm _ .non).2.1,.inl ⟨rfl,rfl⟩,a,_,sa,S,rfl,rfl,hf,ho,hw,hg,q⟩
 |many h _=>exact⟨_,_,_,_,_,rfl,h,(hm _ _).2.2.1,.inr ⟨rfl,rfl⟩,a,_,sa,S,rfl,rfl,hf,ho,hw,hg,q⟩
 |pick h _ _ _=>rcases hs with⟨_,z⟩|⟨_,_,z⟩ <;> cases z
theorem aPn{S:List Shp}{kd kd':Kd}{j:Nat}{y:Str}(hf:kd.Fit S.length)(h:(kd.parts S)[j]?=some (y,kd')):aBs (stV kd j y)=some y:=by
 cases kd with
 |many n k =>
  have h':((ir n).map fun j=>(ζ (toString j),k))[j]?=some (y,kd'):=h;rw[gu]at h';cases e:(ir n)[j]? with
  |none=>rw[e]at h';cases h'
  |some i =>
   rw[e]at h';obtain⟨hj,rfl⟩:=θ.mp e;rw[List.getElem_range]at h';cases h';have:=hf.2.1;rw[jo]at hj;exact if_pos (by show(j:Nat)<2 ^ 100;exact Γ (Γ hj this) (by decide))
 |num _=>rfl
 |nest _=>rfl
 |pick _=>rfl
def spBd:Sp:=fun vs H Q _=>∃w:Nat,vs=[.int w]/\w<=4/\Q (.int ((256 ^ w:Nat):Int)) H
def aIy:Kd->Bool:=fun _=>true
abbrev kz (ks:List Str) (xs:List V):List (Key×V):=iw (fun k v=>((.inr k:Key),v)) ks xs
theorem iD:∀{ks:List Str}{xs:List V},ks.length=xs.length->(kz ks xs).map (·.1)=ks.map wk
 |[],[],_=>rfl
 |k::ks,x::xs,e=>congrArg ((.inr k:Key) :: ·) (iD (ks:=ks) (xs:=xs) (jr e))
theorem vY{ks:List Str}{xs:List V}(e:ks.length=xs.length):(kz ks xs).length=ks.length:=by
 rw[←δ (·.1),iD e,δ]
theorem aPc{ks:List Str}{xs:List V}{j:Nat}(nd:ks.Nodup)(e:ks.length=xs.length)(hk:ks[j]?=some k)(hx:xs[j]?=some v):vX (kz ks xs) (.inr k)=some v:=by
 unfold vX;rw[sW (by rw[iD e];show yk (·≠·) _;rw[va];exact yk.imp (fun n z=>n (qf z)) nd) hk hx];rfl
theorem uA:∀(fs:List (Str×Kd)) (ds:List ν),aZ fs ds=iw (fun k d=>(PyData.str k,d)) (fs.map (·.1)) ds
 |[],_=>rfl
 |_::_,[]=>rfl
 |f::fs,d::ds=>congrArg (_ :: ·) (uA fs ds)
theorem lP{K:Δ}{H:Hp}(h:Dt z K H x (.dict (aZ fs ds)))(e:fs.length=ds.length):∃a xs,x=.ref a/\H a=some (.dK (kz (fs.map (·.1)) xs))/\fs.length=xs.length/\Dts z K H xs ds:=by
 generalize hd:ue (aZ fs ds)=d at h;cases h with
 |non=>cases hd
 |bl=>cases hd
 |int=>cases hd
 |str=>cases hd
 |lst=>cases hd
 |tup=>cases hd
 | @dct a ks xs ds' h1 h2 h3 =>
  injection hd with hd;rw[uA]at hd;obtain⟨e1,e2⟩:=nD (by rw[δ];exact e) (h2.trans h3.length) hd;subst e1 e2;exact⟨a,xs,rfl,h1,by rw[δ]at h2;exact h2,h3⟩
theorem aRb{K:Δ}{H:Hp}{fs:List (Str×Kd)}{xs:List V}(h:H a=some (.dK (kz (fs.map (·.1)) xs)))(e:fs.length=xs.length)(t:Dts z K H xs ds):Dt z K H (.ref a) (.dict (aZ fs ds)):=by
 rw[uA];exact .dct h (by rw[δ];exact e) t
theorem wM{α : Type}{f : α->Bool}{l:List α}(h:∀x∈l,f x=true):((l.map f).all id)=true:=by
 rw[ia];intro b hb;obtain⟨x,hx,rfl⟩:=ib.mp hb;exact h x hx
theorem Wel.nms(h:Wel S):NmS S:=by
 have nb:∀{x:Str},qC x=true->x.length<=6/\Sml x:=fun {x} hx=>by
  refine⟨(vJ hx).2,?_⟩;unfold qC at hx;simp only[jt]at hx;have ha:x.cps.toList.all (fun c=>decide (c∈yL.cps.toList))=true:=hx.1.2;refine ia.mpr fun c hc=>decide_eq_true ?_;have:=(aF c).mp (of_decide_eq_true (ia.mp ha c hc));have e:(16:Nat) ^ 8=4294967296:=by decide
  omega
 refine⟨fun i hi=>?_,fun s hs f hf=>(nb (h.fnm s hs f hf)).2⟩;have e:S[i]?=some S[i]:=η hi;rw[vW e];exact nb (h.nm _ (ju hi))
theorem Wel.pnd(h:Wel S){k:Kd}(hf:k.Fit S.length):∀i,k=.nest i->((k.parts S).map (·.1)).Nodup:=fun i e=>by
 subst e;have hs:S[i]?=some S[i]:=η (show i<S.length from hf);rw[qY hs];exact h.fnd _ (ju _)
theorem Kd.three(k:Kd):k.Pd\/(∃w,k=.num w)\/∃is,k=.pick is:=by
 cases k with
 |num w=>exact .inr (.inl ⟨w,rfl⟩)
 |nest i=>exact .inl (.inl ⟨i,rfl⟩)
 |many n k=>exact .inl (.inr ⟨n,k,rfl⟩)
 |pick is=>exact .inr (.inr ⟨is,rfl⟩)
theorem Kd.Pd.sam{k:Kd}(h:k.Pd):samK k (.num 0)=false/\samK k (.pick [])=false:=by rcases h with⟨_,rfl⟩|⟨_,_,rfl⟩ <;> exact⟨rfl,rfl⟩
def Frs (H:Hp) (v:V):Prop:=∀b,v=.ref b->H b=none
theorem yN{k:Kd}(h:k.Pd)(r:k.Rk 0):False:=by
 rcases h with⟨i,rfl⟩|⟨n,q,rfl⟩
 ·exact kf _ r
 ·rcases r with⟨_,_,z⟩|⟨_,_,z⟩ <;> exact kf _ z
theorem aNo{ks:List Str}{xs:List V}{j:Nat}(e:ks.length=xs.length)(hk:ks[j]?=some k)(hx:xs[j]?=some v):kz (ks.take (j+1)) (xs.take (j+1))=kz (ks.take j) (xs.take j)++[((.inr k:Key),v)]:=by
 rw[jk,jk,hk,hx];exact List.zipWith_append (by rw[Ω,Ω,e])
theorem aRj{ks:List Str}{xs:List V}{j:Nat}(nd:ks.Nodup)(e:ks.length=xs.length)(hk:ks[j]?=some k)(hx:xs[j]?=some v):putK (kz (ks.take j) (xs.take j)) (.inr k) v=kz (ks.take (j+1)) (xs.take (j+1)):=by
 rw[aNo e hk hx];refine iQ fun y hy z=>?_;have h1:y.1∈(kz (ks.take j) (xs.take j)).map (·.1):=ib.mpr ⟨y,hy,rfl⟩;rw[iD (by rw[Ω,Ω,e]),z]at h1;obtain⟨w,hw,ew⟩:=ib.mp h1;cases ew;obtain⟨i,hi⟩:=jz.mp hw;have hij:i<j:=by have:=(θ.mp hi).1;rw[Ω]at this;omega
 rw[oe hij]at hi;obtain⟨a1,b1⟩:=θ.mp hi;obtain⟨a2,b2⟩:=θ.mp hk;exact absurd (b1.trans b2.symm) (pq.mp nd i j a1 a2 hij)
theorem DatAll.at'{K:Δ}: ∀{xs:List V}{ds:List ν}{i:Nat}{d:ν},DatAll K H xs ds->ds[i]?=some d->∃x,xs[i]?=some x/\Dat K H x d
 |_,_,_,_,.nil,e=>by simp at e
 |_,_,0,_,.cons h _,e=>by simp at e;subst e;exact⟨_,rfl,h⟩
 |_,_,i+1,d,.cons _ t,e=>by
  obtain⟨x,h1,h2⟩:=DatAll.at' (i:=i) (d:=d) t (by simpa using e);exact⟨x,by simpa using h1,h2⟩
theorem len3{os:St}(h:os.length=3):∃a b c,os=[a,b,c]:=by
 match os,h with
 |[a,b,c],_=>exact⟨a,b,c,rfl⟩
def aOh:Sp:=fun vs H Q _=>∃(p:Addr) (w:Nat),vs=[.ref p,.int w]/\1<=w/\w<=4/\St3 H p/\∀(v:Nat) (H':Hp),v<256 ^ w->Drawn p H H'->Q (.int v) H'
inductive aJm (K:Δ) (n:Nat) (vs:List V) (H:Hp) (Q:VK):Prop|mk:∀(p a sl:Addr) (kd:Kd) (S:List Shp) (r:Nat) (ys:List Addr),n=r+1->vs=[.ref p,.ref a,.ref sl]->St3 H p->p∈ys->Al ys H->kd.Rk r->kd.Fit S.length->LK K (offs ys H) a kd->LX K (offs ys H) sl S->Wel S->(∀v d H',Drawn p H H'->Dt true K (offs ys H') v d->Can S r kd d->Frs H v->Q v H')->aJm K n vs H Q
def spDr (K:Δ) (n:Nat):Sp:=fun vs H Q _=>aJm K n vs H Q
theorem LX.at'{K:Δ}(h:LX K H sl S){i:Nat}(hi:i<S.length):∃(as:List Addr) (s l:Addr) (ps:List Addr),SqL K H sl (as.map V.ref)/\as[i]?=some s/\SqT K H s [.str S[i].1,.ref l]/\SqL K H l (ps.map V.ref)/\LF K H ps S[i].2:=by
 obtain⟨as,h1,h2⟩:=h;have hl:=h2.len;obtain⟨s,hs⟩ : ∃s,as[i]?=some s:=⟨_,η (by omega)⟩;obtain⟨sh,e,l,ps,m1,m2,m3⟩:=h2.get hs;obtain⟨_,rfl⟩:=θ.mp e;exact⟨as,s,l,ps,h1,hs,m1,m2,m3⟩
theorem aCy{is:List Nat}{j:Nat}(h:is[j]?=some i):atI (is.map fun (i:Nat)=>V.int i) (j:Int)=some (.int i):=xP (by rw[gu,h];rfl)
theorem hV{f as ks p}{es:List Expr}: ip (.Call f as ks p::es) env=(false,eval (.Call f as ks p) env)::ip es env:=rfl
def aAw (l l0:Addr) (H H':Hp):Prop:=∀b o,b≠l->b≠l0->H b=some o->H' b=some o
theorem aAw.offs{l:Addr}{ys:List Addr}{H:Hp}(g1:jG H H1)(h0:H l0=none)(hl:l∈ys)(g:aAw l l0 H1 H'):jG (offs ys H) (offs (l0::ys) H'):=fun b o e=>by
 have hb:b∉ys:=fun z=>by unfold L2.offs at e;rw[if_pos z]at e;cases e
 have e':H b=some o:=jQ _ _ e;have n0:b≠l0:=jM e' h0;refine kN (fun z=>?_) (g b o (fun z=>hb (z ▸ hl)) n0 (g1 _ _ e'));rcases υ.mp z with z|z
 ·exact n0 z
 ·exact hb z
theorem aAw.back{H:Hp}(g1:jG H H1)(h0:H l0=none)(g:aAw l l0 H1 H'):But l H H':=fun b o n e=>g b o n (jM e h0) (g1 _ _ e)
theorem aFq{ys:List Addr}{l0:Addr}: jG (offs (l0::ys) H) (offs ys H):=oB fun b hb=>ρ _ hb
theorem aDa{ks:List Str}{zs:List V}{j:Nat}(nd:ks.Nodup)(hz:zs.length=j)(hk:ks[j]?=some k):putK (kz (ks.take j) zs) (.inr k) v=kz (ks.take (j+1)) (zs++[v]):=by
 obtain⟨a2,b2⟩:=θ.mp hk;have hl:(ks.take j).length=zs.length:=by rw[Ω,hz];omega
 have e:kz (ks.take (j+1)) (zs++[v])=kz (ks.take j) zs++[((.inr k:Key),v)]:=by
  rw[jk,hk];exact List.zipWith_append hl
 rw[e];refine iQ fun y hy z=>?_;have h1:y.1∈(kz (ks.take j) zs).map (·.1):=ib.mpr ⟨y,hy,rfl⟩;rw[iD hl,z]at h1;obtain⟨w,hw,ew⟩:=ib.mp h1;cases ew;obtain⟨i,hi⟩:=jz.mp hw;have hij:i<j:=by have:=(θ.mp hi).1;rw[Ω]at this;omega
 rw[oe hij]at hi;obtain⟨a1,b1⟩:=θ.mp hi;exact absurd (b1.trans b2.symm) (pq.mp nd i j a1 a2 hij)
theorem But.fresh{H:Hp}{o:HO}(g:But l H H')(h:H l=none):jG H H':=fun b o q=>g b o (jM q h) q
theorem aDf{K:Δ}(hs:St3 H p)(h:SqT K H t xs):SqT K (offs [p] H) t xs:=by
 obtain⟨a,b,c,hp⟩:=hs;rcases h with (h|⟨o,h⟩)|h
 ·exact .inl (.inl (kN (fun z=>by rw[Φ.mp z,hp]at h;cases h) h))
 ·exact .inl (.inr ⟨o,kN (fun z=>by rw[Φ.mp z,hp]at h;cases h) h⟩)
 ·exact .inr h
theorem aIt{K:Δ}{Q:VK}(hc:Can S r (.nest i) d)(h1:Dt false K H x d)(h2:Dt false K H y d)(hd:d.depth<=60)(q:Q (.bl false) H):rNeT K x y H Q:=by
 cases r with
 |zero=>exact hc.elim
 |succ r =>
  obtain⟨ds,rfl,cl⟩:=(cZ (.inl ⟨i,rfl⟩)).mp hc;have h1':Dt false K H x (.dict (aZ ((Kd.nest i).parts S) ds)):=h1;have h2':Dt false K H y (.dict (aZ ((Kd.nest i).parts S) ds)):=h2;have hd':qi (aZ ((Kd.nest i).parts S) ds)+1<=60:=hd;rw[uA,aFj (by rw[δ];exact cl.len)]at hd';obtain⟨a,xs,rfl,a1,a2,a3⟩:=lP h1' cl.len;obtain⟨b,ys,rfl,b1,b2,b3⟩:=lP h2' cl.len;exact .inl ⟨a,b,_,xs,ys,ds,rfl,rfl,a1,b1,(by rw[δ];exact a2),(by rw[δ];exact b2),a3,b3,by omega,q⟩
theorem aQr{K:Δ}{H:Hp}(hc:Can S r (.nest i) d)(h1:Dt false K H x d):∃a kvs,x=.ref a/\H a=some (.dK kvs):=by
 cases r with
 |zero=>exact hc.elim
 |succ r =>
  obtain⟨ds,rfl,cl⟩:=(cZ (.inl ⟨i,rfl⟩)).mp hc;have h1':Dt false K H x (.dict (aZ ((Kd.nest i).parts S) ds)):=h1;obtain⟨a,xs,rfl,a1,a2,a3⟩:=lP h1' cl.len;exact⟨a,_,rfl,a1⟩
structure It (d:ν) (w m:Nat):Prop where
 cl:d.canLay0=true
 hd:d.hasDict=false
 sn:Sn d w m
theorem It.le{w' m':Nat}(h:It d w m)(hw:w<=w')(hm:m<=m'):It d w' m':=⟨h.cl,h.hd,h.sn.le hw hm⟩
theorem It.str(h:Sml x):It (.str x) x.length 0:=⟨SeqAt.canLay_of_shaped h.ok,rfl,Sn.str h⟩
theorem It.int{i:Int}(h0 : -1<=i)(h:i<2 ^ 99):It (.int i) 101 0:=⟨rfl,rfl,Sn.int32 h0 h⟩
theorem It.bl(b:Bool):It (.bool b) 101 0:=by cases b <;> exact⟨rfl,rfl,rfl,rfl,by decide,by decide⟩
theorem It.non:It .none 101 0:=⟨rfl,rfl,rfl,rfl,by decide,by decide⟩
def Ne (K:Δ) (H:Hp) (x:V) (w m:Nat):Prop:=∃d,Dat K H x d/\It d w m
theorem Ne.same{K:Δ}(h:Ne K H x w m)(g:jG H H'):Ne K H' x w m:=by
 obtain⟨d,h1,h2⟩:=h;exact⟨d,h1.same g,h2⟩
section
theorem aLe{pos:Pos}(he:PEx X e te)(hg:PG X tg g)(hs:swapsWithSole [tg] e pos.line X.env=pure false:=by rfl)(hw:swappedStores [tg] e X.env=pure none:=by rfl)(h1:(vc [tg] X.env).map (·.2)=[assign tg X.env]:=by rfl):tM X (.Assign [tg] e pos) (aGr te g):=⟨uL he.h hg hs hw h1⟩
structure PIx (X:Cx) (tg iter:Expr) (wi:TI):Prop where
 h:PI X tg iter wi
theorem aBc(hl:PEx X l tl):PIx X tg l (aPd X.K tl):=⟨qL hl.h⟩
theorem iL{X:Cx}(hp:PassesOwn (ik X.prog X.w) X.A X.env X.xe)(hc:X.calm=true)(hi:PIx X tg iter wi)(hg:PG X tg g)(hb:PSx X body tb)
  (hs:∀x,xf iter X.env x=pure x:=by intro _;rfl):tM X (.For tg iter body [] pos) (tFor wi g tb):=⟨xQ hp hc hi.h hg hb.h hs⟩
theorem aHl(h1:PE X k1 a1)(h2:PE X v1 b1)(h3:PE X k2 a2)(h4:PE X v2 b2):PEx X (.Dict [some k1,some k2] [v1,v2] pos) (aOx [(a1,b1),(a2,b2)]):=⟨aLs (aCg h1 h2 (aCg h3 h4 aMv)) rfl rfl (fun z=>nomatch z) (by show 2<=15;decide)⟩
end
theorem Sml.slice(h:Sml x)(l u:Option Int):Sml (Txt.slice x l u):=by
 unfold Txt.slice
 split
 ·exact h
 ·refine ia.mpr fun c hc=>?_;have hc':c∈(oy.Str.strSliceIndices l u 1 x.length).filterMap (x.cps[·]?):=by simpa using hc
  obtain⟨j,_,hj⟩:=wo.mp hc';exact ia.mp h c (ι (i:=j) (by simpa using hj))
def spMn (CS:Addr) (K:Δ):Sp:=fun vs H Q _=>∃(o dx t:Addr) (sa:List Addr) (i:Nat) (s:Addr),vs=[.ref o]/\H o=some (.ins CS dx [("shapes",.ref t)])/\SqT K H t (sa.map V.ref)/\sa.length=i+1/\sa[i]?=some s/\Q (.ref s) H
theorem aNf{sa:List Addr}{i:Nat}(hl:sa.length=i+1)(hs:sa[i]?=some s):atI (sa.map V.ref) (-1)=some (.ref s):=by
 have e:ixN (sa.map V.ref).length (-1)=some i:=by
  unfold ixN;rw[δ,hl,if_neg (by decide),if_pos (by omega)]
  congr 1
  omega
 show(ixN (sa.map V.ref).length (-1)).bind _=_;rw[e];show(sa.map V.ref)[i]?=_;rw[gu,hs];rfl
theorem dt_kv{K:Δ}{H:Hp}(h:Dt z K H x (.dict (kvD ks es)))(e:ks.length=es.length):∃a xs,x=.ref a/\H a=some (.dK (kz ks xs))/\ks.length=xs.length/\Dts z K H xs es:=by
 generalize hd:ue (kvD ks es)=d at h;cases h with
 |non=>cases hd
 |bl=>cases hd
 |int=>cases hd
 |str=>cases hd
 |lst=>cases hd
 |tup=>cases hd
 | @dct a ks' xs ds' h1 h2 h3 =>
  injection hd with hd;obtain⟨e1,e2⟩:=nD e (h2.trans h3.length) hd;subst e1 e2;exact⟨a,xs,rfl,h1,h2,h3⟩
def aPb (c:Cl5) (K:Δ):Sp:=fun vs H Q _=>∃(a vl:Addr) (kd:Kd) (sa:List Addr) (S:List Shp) (xs:List V) (ds:List ν) (fs:List Addr),vs=[.ref a,.ref vl]/\kd.Pd/\kd.Fit S.length/\KO c K H sa a kd/\SW c K H sa S/\Wel S/\H vl=some (.lst xs)/\Trs true K H xs ds fs/\vl∉fs/\(kd.parts S).length=ds.length/\∀v b H',jG H H'->Tr true K H' v (gT kd (kd.parts S) ds) (b::fs)->(b=vl\/H b=none)->Q v H'
def blD (S:List Shp):Nat->Kd->ν
 |_,.num _=>.int (0:Nat)
 |0,_=>.none
 |n+1,.pick is=>.tuple [.int (0:Nat),blD S n (.nest (is.getD 0 0))]
 |n+1,.nest i=>gT (.nest i) ((Kd.nest i).parts S) (((Kd.nest i).parts S).map fun f=>blD S n f.2)
 |n+1,.many m k=>gT (.many m k) ((Kd.many m k).parts S) (((Kd.many m k).parts S).map fun f=>blD S n f.2)
theorem aFw{n:Nat}{k:Kd}(hk:k.Pd):blD S (n+1) k=gT k (k.parts S) ((k.parts S).map fun f=>blD S n f.2):=by
 rcases hk with⟨i,rfl⟩|⟨m,q,rfl⟩ <;> rfl
theorem aRd(hG:Good S):∀{n:Nat}{k:Kd},k.Fit S.length->k.Rk n->Can S n k (blD S n k):=by
 intro n
 induction n with
 |zero=>intro k hf hr;cases k with
  |num w=>exact⟨0,rfl,Nat.pow_pos (by decide)⟩
  |nest i=>exact(kf _ hr).elim
  |many m q=>exact(yN (.inr ⟨m,q,rfl⟩) hr).elim
  |pick is=>exact(kf _ (hr _ (ju (show 0<is.length by have:=hf.1;omega)))).elim
 |succ n ih =>
  have ls:∀fs:List (Str×Kd),(∀f∈fs,f.2.Fit S.length/\f.2.Rk n)->yC (Can S n) fs (fs.map fun f=>blD S n f.2):=by
   intro fs
   induction fs with
   |nil=>intro _;exact iu
   |cons f fs ihl=>intro h;exact⟨ih (h f (ψ ..)).1 (h f (ψ ..)).2,ihl fun g hg=>h g (ρ _ hg)⟩
  intro k hf hr;rcases Kd.three k with hp|⟨w,rfl⟩|⟨is,rfl⟩
  ·rw[aFw hp];refine(cZ hp).mpr ⟨_,rfl,ls _ fun f hf'=>?_⟩;obtain⟨z1,z2,_⟩:=Kd.parts_ok hG hf hr hf';exact⟨z2,z1⟩
  ·exact⟨0,rfl,Nat.pow_pos (by decide)⟩
  ·have h0 : 0<is.length:=by have:=hf.1;omega
   have hi:is[0]?=some is[0]:=η h0;have eg:is.getD 0 0=is[0]:=by rw[Θ,hi];rfl
   have hm:=ι hi;refine⟨0,is[0],_,hi,?_,ih (k:=.nest is[0]) (hf.2.2.2 _ hm) (show 2*is[0]+2<=n by have:=hr _ hm;omega)⟩;show vt [.int (0:Nat),blD S n (.nest (is.getD 0 0))]=_;rw[eg]
def aFn (c:Cl5) (K:Δ) (n:Nat):Sp:=fun vs H Q _=>∃(a:Addr) (kd:Kd) (sa:List Addr) (S:List Shp) (r:Nat),n=r+1/\vs=[.ref a]/\kd.Rk r/\kd.Fit S.length/\KO c K H sa a kd/\SW c K H sa S/\Wel S/\∀v fs H',jG H H'->New H fs->Tr true K H' v (blD S r kd) fs->Q v H'
inductive aFz (c:Cl5) (K:Δ) (n:Nat) (vs:List V) (H:Hp) (Q:VK):Prop|mk:∀(s:Addr) (i:Nat) (sa:List Addr) (S:List Shp) (r:Nat),n=r+1->vs=[.ref s]->sa[i]?=some s->2*i+2<=r->SW c K H sa S->Wel S->(∀v fs H',jG H H'->New H fs->Tr true K H' v (blD S r (.nest i)) fs->Q v H')->aFz c K n vs H Q
def aFv (c:Cl5) (K:Δ) (n:Nat):Sp:=fun vs H Q _=>aFz c K n vs H Q
theorem aNz{X:Cx}{P:io}{w:jl}{K:Δ}(hP:X.prog=P)(hw:X.w=w)(hK:X.K=K)(hu:X.A.units+1<pw):OpR X (kn .In) (rInQ P w K):=by
 subst hP hw hK;exact aRh hu
inductive aFa (P:io) (w:jl) (K:Δ) (vs:List V) (H:Hp) (Q:VK):Prop|mk:∀(x:V) (t:String),vs=[x]->tyQ P w K x H t->Q (.bl (t == "int")) H->aFa P w K vs H Q
def wK (P:io) (w:jl) (K:Δ):Sp:=fun vs H Q _=>aFa P w K vs H Q
def inB (lo hi:Int):ν->Bool
 |.int v=>decide (lo<=v)&&decide (v<=hi)
 |_=>false
def oC (m:Int):ν->Bool
 |.int v=>decide (0<=v/\v<m)
 |_=>false
theorem nN{m:Int}(d:ν):inB 0 (m-1) d=oC m d:=by
 cases d with
 |int v =>
  show(decide (0<=v)&&decide (v<=m-1))=decide (0<=v/\v<m);rw[←Bool.decide_and];exact decide_eq_decide.mpr ⟨fun h=>⟨h.1,by omega⟩,fun h=>⟨h.1,by omega⟩⟩
 |_=>rfl
def aLc (P:io) (w:jl) (K:Δ):Sp:=fun vs H Q _=>∃(x:V) (lo hi:Int) (d:ν),vs=[x,.int lo,.int hi]/\Dq false P w K H x d/\Q (.bl (inB lo hi d)) H
def aOp (P:io) (w:jl) (K:Δ):Sp:=fun vs H Q _=>∃(x:V) (n:Nat) (d:ν),vs=[x,.int n]/\n<=4/\Dq false P w K H x d/\Q (.bl (oC ((256 ^ n:Nat):Int) d)) H
def aOi (P:io) (w:jl) (c:Cl5) (K:Δ):Sp:=fun vs H Q _=>∃(a:Addr) (x:V) (is:List Nat) (sa:List Addr) (d:ν),vs=[.ref a,x]/\KO c K H sa a (.pick is)/\Dq false P w K H x d/\Q (.bl (oC (is.length:Int) d)) H
inductive aLg (P:io) (w:jl) (c:Cl5) (K:Δ) (r:Nat) (F:Kd->Bool) (vs:List V) (H:Hp) (Q:VK):Prop|mk:∀(a:Addr) (x:V) (kd:Kd) (sa:List Addr) (S:List Shp) (d:ν),vs=[.ref a,x]->F kd=true->kd.Rk r->kd.Fit S.length->KO c K H sa a kd->SW c K H sa S->Wel S->Dq false P w K H x d->(∀H',jG H H'->Q (.bl (xE S r kd d)) H')->aLg P w c K r F vs H Q
def mI (P:io) (w:jl) (c:Cl5) (K:Δ) (r:Nat) (F:Kd->Bool):Sp:=fun vs H Q _=>aLg P w c K r F vs H Q
def spRq (P:io) (w:jl) (c:Cl5) (K:Δ) (r:Nat):Sp:=fun vs H Q _=>∃(s:Addr) (x:V) (i:Nat) (sa:List Addr) (S:List Shp) (d:ν),vs=[.ref s,x]/\sa[i]?=some s/\2*i+2<=r/\SW c K H sa S/\Wel S/\Dq false P w K H x d/\∀H',jG H H'->Q (.bl (xE S r (.nest i) d)) H'
theorem aFg : xE S r (.num n) d=oC ((256 ^ n:Nat):Int) d:=by
 cases r <;> cases d <;> rfl
theorem aFh{r:Nat}{d:ν}(h:∀kvs,d≠.dict kvs):xE S (r+1) (.nest i) d=false:=by
 cases d with
 |dict kvs=>exact absurd rfl (h kvs)
 |_=>rfl
theorem aEt{r:Nat}{d:ν}(h:∀ds,d≠.list ds):xE S (r+1) (.many n k) d=false:=by
 cases d with
 |list ds=>exact absurd rfl (h ds)
 |_=>rfl
theorem aFs{r:Nat}{d:ν}(h:∀ds,d≠.tuple ds):xE S (r+1) (.pick is) d=false:=by
 cases d with
 |tuple ds=>exact absurd rfl (h ds)
 |_=>rfl
theorem lA(h:isa (tyD d) t=false)(ht:t = "dict" ∨ t = "list" ∨ t = "tuple"):(t = "dict"->∀kvs,d≠.dict kvs)/\(t = "list"->∀ds,d≠.list ds)/\(t = "tuple"->∀ds,d≠.tuple ds):=by
 refine⟨fun e kvs z=>?_,fun e ds z=>?_,fun e ds z=>?_⟩ <;> (subst e z;cases h)
theorem aAo{r:Nat}: xE S (r+1) (.nest i) (.dict kvs)=(decide (kvs.length=((Kd.nest i).parts S).length)&&((Kd.nest i).parts S).all (fun f=>(lkD kvs f.1).isSome)&&((Kd.nest i).parts S).all (fun f=>((lkD kvs f.1).map (xE S r f.2)).getD false)):=rfl
theorem pK{α : Type}{f : α->Bool}{l:List α}: (l.map f).all id=l.all f:=by rw[List.all_map];rfl
theorem DV.full{K:Δ}{os:List V}(D:DV z P w K H a u ks os kvs){fs:List (Str×Kd)}(hn:(fs.map (·.1)).Nodup)(hl:kvs.length=fs.length)(h:fs.all (fun f=>(lkD kvs f.1).isSome)=true):os=[]/\∀f∈fs,f.1∈ks:=by
 have hs:∀f∈fs,f.1∈ks:=fun f hf=>by
  have:=ia.mp h f hf;rw[D.lk]at this;exact of_decide_eq_true this
 refine⟨?_,hs⟩;have h1:(fs.map (·.1)).length<=ks.length:=by
  have:∀{a b:List Str},a.Nodup->(∀x∈a,x∈b)->a.length<=b.length:=by
   intro a
   induction a with
   |nil=>intro b _ _;exact gw _
   |cons x a ih =>
    intro b hn hs;have p:=List.perm_cons_erase (hs x (ψ ..));have:=ih (b:=b.erase x) (jh.mp hn).2 fun y hy=>by
     have ne:y≠x:=fun z=>(jh.mp hn).1 (by rw[←z];exact hy);exact(List.mem_erase_of_ne ne).mpr (hs y (ρ _ hy))
    have e:=p.length_eq;simp only[gj]at e ⊢;omega
  exact this hn fun x hx=>by obtain⟨f,hf,rfl⟩:=ib.mp hx;exact hs f hf
 rw[δ]at h1;have:=D.len;exact mv.mp (by omega)
theorem ty_int(h:(tyD d == "int")=true):∃v,d=.int v:=by
 cases d with
 |int v=>exact⟨v,rfl⟩
 |_=>revert h;simp[tyD]
theorem tR(h:(tyD d == "int")=false){lo:Int}: inB lo hi d=false:=by
 cases d with
 |int v=>revert h;simp[tyD]
 |_=>rfl
theorem aFt(h:isa (tyD d) "tuple" = true):∃ds,d=.tuple ds:=by
 cases d with
 |tuple ds=>exact⟨ds,rfl⟩
 |_=>revert h;simp[tyD,isa]
theorem aFy(h:isa (tyD d) "list" = true):∃ds,d=.list ds:=by
 cases d with
 |list ds=>exact⟨ds,rfl⟩
 |_=>revert h;simp[tyD,isa]
theorem aEv(h:isa (tyD d) "dict" = true):∃ds,d=.dict ds:=by
 cases d with
 |dict ds=>exact⟨ds,rfl⟩
 |_=>revert h;simp[tyD,isa]
theorem rR{r:Nat}{ds:List ν}(h:ds.length≠2):xE S (r+1) (.pick is) (.tuple ds)=false:=by
 match ds,h with
 |[],_=>rfl
 |[d],_=>cases d <;> rfl
 |[_,_],h=>exact absurd rfl h
 |d::_::_::_,_=>cases d <;> rfl
theorem mZ{r:Nat}{is:List Nat}{e:ν}(h:oC (is.length:Int) d=false):xE S (r+1) (.pick is) (.tuple [d,e])=false:=by
 cases d with
 |int v =>
  show(decide (0<=v/\v<(is.length:Int))&&_)=false;rw[show decide (0<=v/\v<(is.length:Int))=false from h];rfl
 |_=>rfl
theorem aNl{m:Nat}(h:oC (m:Int) d=true):∃j:Nat,d=.int j/\j<m:=by
 cases d with
 |int v =>
  have:=of_decide_eq_true (show decide (0<=v/\v<(m:Int))=true from h);obtain⟨j,rfl⟩:=xc this.1;exact⟨j,rfl,by omega⟩
 |_=>cases h
theorem wL{r j:Nat}{is:List Nat}{e:ν}(hi:is[j]?=some i):xE S (r+1) (.pick is) (.tuple [.int j,e])=xE S r (.nest i) e:=by
 have hj:=(θ.mp hi).1;show(decide (0<=(j:Int)/\(j:Int)<is.length)&&xE S r (.nest (is.getD (j:Int).toNat 0)) e)=_;rw[decide_eq_true ⟨by omega,by omega⟩,ql,Θ,hi];rfl
theorem Dqs.two{K:Δ}(h:Dqs z P w K H xs ds)(e:ds.length=2):∃x0 x1 d0 d1,xs=[x0,x1]/\ds=[d0,d1]/\Dq z P w K H x0 d0/\Dq z P w K H x1 d1:=by
 cases h with
 |nil=>cases e
 |cons h0 t=>cases t with
  |nil=>cases e
  |cons h1 t=>cases t with
   |nil=>exact⟨_,_,_,_,rfl,rfl,h0,h1⟩
   |cons h2 t=>simp at e
inductive aIj (P:io) (w:jl) (K:Δ) (n:Nat) (vs:List V) (H:Hp) (Q:VK):Prop|mk:∀(a sl:Addr) (x:V) (kd:Kd) (S:List Shp) (r:Nat) (d:ν),n=r+1->vs=[.ref a,.ref sl,x]->kd.Rk r->kd.Fit S.length->LK K H a kd->LX K H sl S->Wel S->Dq false P w K H x d->(∀H',jG H H'->Q (.bl (xE S r kd d)) H')->aIj P w K n vs H Q
def aJj (P:io) (w:jl) (K:Δ) (n:Nat):Sp:=fun vs H Q _=>aIj P w K n vs H Q
theorem sY(hW:Wel S){s:Shp}(hs:s∈S){f:Str×Kd}(hf:f∈s.2):Low f.1/\f.1.length<=6:=by
 have hx:=hW.fnm s hs f hf;refine⟨?_,(vJ hx).2⟩;unfold qC at hx;simp only[jt]at hx;have ha:f.1.cps.toList.all (fun c=>decide (c∈yL.cps.toList))=true:=hx.1.2;exact fun c hc=>(aF c).mp (of_decide_eq_true (ia.mp ha c hc))
def aCz (P:io) (w:jl) (c:Cl5) (K:Δ) (r:Nat):Sp:=fun vs H Q _=>∃(s:Addr) (x:V) (b:Bool) (i:Nat) (sa:List Addr) (S:List Shp) (d:ν),vs=[.ref s,x,.bl b]/\sa[i]?=some s/\2*i+2<=r/\SW c K H sa S/\Wel S/\Dq false P w K H x d/\b=xE S r (.nest i) d/\∀H',jG H H'->Q (.bl true) H'
inductive aJh (K:Δ) (n:Nat) (vs:List V) (H:Hp) (Q:VK):Prop|mk:∀(a sl:Addr) (kd:Kd) (S:List Shp) (r:Nat),n=r+1->vs=[.ref a,.ref sl]->kd.Rk r->kd.Fit S.length->LK K H a kd->LX K H sl S->Wel S->(∀v fs H',jG H H'->New H fs->Tr true K H' v (blD S r kd) fs->Q v H')->aJh K n vs H Q
def spLB (K:Δ) (n:Nat):Sp:=fun vs H Q _=>aJh K n vs H Q
theorem aAz{H:Hp}(g1:jG H H1)(hl:H l=none)(g:But l H1 H'):jG H H':=fun b o e=>g b o (jM e hl) (g1 b o e)
theorem aJs(hW:Wel S){kd:Kd}(hf:kd.Fit S.length)(hk:kd.Rk r)(h:Can S r kd d):d.depth<=r+1:=(aQe hW.good hW.nms hf hk h).dp
inductive aKq (K:Δ) (n:Nat) (vs:List V) (H:Hp) (Q:VK):Prop|mk:∀(x y:V) (d:ν) (kd:Kd) (S:List Shp) (r:Nat),n=r+1->vs=[x,y]->r<=50->kd.Rk r->kd.Fit S.length->Wel S->Can S r kd d->Dt false K H x d->Dt false K H y d->(∀H',jG H H'->Q (.bl true) H')->aKq K n vs H Q
def spSw (K:Δ) (n:Nat):Sp:=fun vs H Q _=>aKq K n vs H Q
inductive aEo (K:Δ) (n:Nat) (vs:List V) (H:Hp) (Q:VK):Prop|mk:∀(a b:Addr) (xs ys:List V) (ds:List ν) (fs:List (Str×Kd)) (S:List Shp) (r:Nat),n=r+1->vs=[.ref a,.ref b]->r<=50->((∀f∈fs,f.2.Rk r/\f.2.Fit S.length))->Wel S->yC (Can S r) fs ds->ds.length<=100->SqL K H a xs->SqL K H b ys->Dts false K H xs ds->Dts false K H ys ds->(∀H',jG H H'->Q (.bl true) H')->aEo K n vs H Q
def aIh (K:Δ) (n:Nat):Sp:=fun vs H Q _=>aEo K n vs H Q
theorem yC.getD{c:Kd->ν->Prop}: ∀{fs:List (Str×Kd)}{ds:List ν}{i:Nat}{d:ν},yC c fs ds->ds[i]?=some d->∃f∈fs,c f.2 d
 |[],[],_,_,_,e=>by simp at e
 |[],_::_,_,_,h,_=>h.elim
 |_::_,[],_,_,h,_=>h.elim
 |f::_,_::_,0,_,h,e=>by cases e;exact⟨f,ψ ..,h.1⟩
 |_::fs,_::_,i+1,d,h,e=>by
  obtain⟨f,hf,z⟩:=yC.getD (i:=i) (d:=d) h.2 e;exact⟨f,ρ _ hf,z⟩
theorem aHs{H:Hp}(ha:H a=some (.dK kvs))(hb:H b=some u):bB (upd H b (.frz o u)) a (kV k) (vX kvs k):=by
 by_cases e:a=b
 ·subst e;rw[ha]at hb;cases hb;exact .inl ⟨kvs,k,.inr ⟨o,jR⟩,rfl,rfl⟩
 ·exact bB.k (by rw[jS e];exact ha)
theorem aJa:∀{ks:List Str}{xs:List V},ks.length=xs.length->(kz ks xs).map (·.2)=xs
 |[],[],_=>rfl
 |_::ks,x::xs,e=>congrArg (x :: ·) (aJa (ks:=ks) (xs:=xs) (jr e))
theorem aPu : (Kd.num n).Rk r:=by cases r <;> trivial
inductive aJd (K:Δ) (n:Nat) (vs:List V) (H:Hp) (Q:VK):Prop|mk:∀(x:V) (d:ν) (kd:Kd) (S:List Shp) (r:Nat),n=r+1->vs=[x]->kd.Rk r->kd.Fit S.length->Wel S->Can S r kd d->Dt false K H x d->(∀v e fs H',jG H H'->New H fs->Tr true K H' v e fs->Rec S r kd d e->Q v H')->aJd K n vs H Q
def spTu (K:Δ) (n:Nat):Sp:=fun vs H Q _=>aJd K n vs H Q
theorem xJ.rev : ∀{fs:List (Str×Kd)}{ds es:List ν},xJ c fs ds es->xJ c fs.reverse ds.reverse es.reverse
 |[],[],[],_=>iu
 |f::fs,d::ds,e::es,h=>by
  rw[qm,qm,qm];exact(xJ.rev h.2).app ⟨h.1,iu⟩
 |[],[],_::_,h=>h.elim
 |[],_::_,_,h=>h.elim
 |_::_,[],_,h=>h.elim
 |_::_,_::_,[],h=>h.elim
theorem aMo:∀{ks:List Str}{es:List ν},ks.length=es.length->kvD ks.reverse es.reverse=(kvD ks es).reverse:=fun {ks es} h=>by
 unfold kvD;rw[List.reverse_zipWith h]
theorem aLx{fs:List (Str×Kd)}{ds:List ν}(h:xJ c fs.reverse ds.reverse es):xJ c fs ds es.reverse/\(kvD (fs.reverse.map (·.1)) es).Perm (aZ fs es.reverse):=by
 have h':=xJ.rev h;rw[yp,yp]at h';refine⟨h',?_⟩;have e:kvD (fs.reverse.map (·.1)) es=(kvD (fs.map (·.1)) es.reverse).reverse:=by
  rw[←aMo (by rw[δ];exact h'.len.2),yp,yh]
 rw[e,zX];exact List.reverse_perm _
theorem aEp:∀{ks:List Str}{xs:List V},ks.length=xs.length->(kz ks xs).map (fun kv=>kV kv.1)=ks.map V.str
 |[],[],_=>rfl
 |k::ks,_::xs,e=>congrArg (V.str k :: ·) (aEp (ks:=ks) (xs:=xs) (jr e))
def OkD (P:io) (w:jl) (K:Δ) (ys:List Addr) (H:Hp) (x:V) (W m:Nat):Prop:=∃d,Dq true P w K (offs ys H) x d/\Sn d W m
theorem OkD.same{K:Δ}(h:OkD P w K ys H x W m)(g:jG (offs ys H) (offs ys H')):OkD P w K ys H' x W m:=by
 obtain⟨d,h1,h2⟩:=h;exact⟨d,h1.same g,h2⟩
theorem OkD.le{K:Δ}{W' m':Nat}(h:OkD P w K ys H x W m)(a:W<=W')(b:m<=m'):OkD P w K ys H x W' m':=by
 obtain⟨d,h1,h2⟩:=h;exact⟨d,h1,h2.le a b⟩
def aOr (P:io) (w:jl) (K:Δ):Sp:=fun vs H Q _=>∃(p:Addr) (x:V) (d:ν) (kd:Kd) (S:List Shp) (r:Nat) (ys:List Addr) (W m:Nat),vs=[.ref p,x]/\St3 H p/\p∈ys/\Al ys H/\kd.Rk r/\kd.Fit S.length/\Wel S/\Can S r kd d/\Dq true P w K (offs ys H) x d/\Sn d W m/\∀v H',Drawn p H H'->OkD P w K ys H' v (2*W+300) (m+2)->Q v H'
structure Fif (P:io) (w:jl) (K:Δ) (ys:List Addr) (H:Hp) (ls:Addr):Prop where
 x:∃xs:List V,SqL K (offs ys H) ls xs/\xs.length=15/\∀v∈xs,OkD P w K ys H v 105 2
theorem Fif.same{K:Δ}(h:Fif P w K ys H ls)(g:jG (offs ys H) (offs ys H')):Fif P w K ys H' ls:=by
 obtain⟨xs,h1,h2,h3⟩:=h.x;exact⟨xs,g.seq h1,h2,fun v hv=>(h3 v hv).same g⟩
theorem aGg{K:Δ}{xs:List V}(h:∀v∈xs,OkD P w K ys H v W m){j:Nat}(hj:j<xs.length):∃v,atI xs (j:Int)=some v/\OkD P w K ys H v W m:=by
 have e:xs[j]?=some xs[j]:=η hj;exact⟨xs[j],xP e,h _ (ju hj)⟩
theorem aMu(p:Str):p++Str.empty=p:=Str.ext' (by rw[og];simp[Str.empty])
theorem Low.app(h:Low x)(g:Low y):Low (x++y):=fun c hc=>by
 rw[og,nc]at hc;rcases iz.mp hc with z|z
 ·exact h c z
 ·exact g c z
theorem zB(h:St3 H p)(g:But l H H')(n:p≠l):St3 H' p:=by
 obtain⟨a,b,c,e⟩:=h;exact⟨a,b,c,g p _ n e⟩
inductive aJi (P:io) (w:jl) (K:Δ) (n:Nat) (vs:List V) (H:Hp) (Q:VK):Prop|mk:∀(p:Addr) (x:V) (d:ν) (kd:Kd) (S:List Shp) (r:Nat) (ys:List Addr) (W m:Nat),n=r+1->vs=[.ref p,x]->St3 H p->p∈ys->Al ys H->kd.Rk r->kd.Fit S.length->Wel S->Can S r kd d->Dq true P w K (offs ys H) x d->Sn d W m->(∀v H',Drawn p H H'->OkD P w K ys H' v (2*W+300) (m+2)->Q v H')->aJi P w K n vs H Q
def spCg (P:io) (w:jl) (K:Δ) (n:Nat):Sp:=fun vs H Q _=>aJi P w K n vs H Q
theorem aQl{xs:List V}{j:Nat}(h:j<=xs.length):zW xs none (some (j:Int))=xs.take j:=by
 unfold zW;rw[HT.sIx_none,HT.sIx_nat,List.drop_zero,xl,Nat.min_eq_left h]
theorem aJx{xs:List V}{j:Nat}(h:j<=xs.length):zW xs (some (j:Int)) none=xs.drop j:=by
 unfold zW;rw[HT.sIx_none,HT.sIx_nat,Nat.min_eq_left h];exact mh (by rw[yd];exact μ _)
theorem aHy{K:Δ}(hW:Wel S):∀{n:Nat}{k:Kd}{d e:ν}{x:V},k.Fit S.length->k.Rk n->Rec S n k d e->Dt z K H x e->Dq z P w K H x e:=by
 have hS:FNd S:=fun s hs=>hW.fnd s hs;have num:∀{n:Nat}{d e:ν}{x:V},(∃v:Nat,d=.int v/\e=.int v/\v<256 ^ n)->Dt z K H x e->Dq z P w K H x e:=fun h hx=>by
  obtain⟨v,rfl,rfl,_⟩:=h;cases hx;exact .int _
 intro n
 induction n with
 |zero=>intro k d e x hf hr h hx;cases k with
  |num w=>exact num h hx
  |_=>exact h.elim
 |succ n ih =>
  have ls:∀{fs:List (Str×Kd)}{ds es:List ν}{xs:List V},(∀f∈fs,f.2.Fit S.length/\f.2.Rk n)->xJ (Rec S n) fs ds es->Dts z K H xs es->Dqs z P w K H xs es:=by
   intro fs
   induction fs with
   |nil=>intro ds es xs _ h t;cases ds with
    |nil=>cases es with
     |nil=>cases t;exact .nil
     |cons _ _=>exact h.elim
    |cons _ _=>exact h.elim
   |cons f fs ihl=>intro ds es xs hp h t;cases ds with
    |nil=>exact h.elim
    |cons d ds=>cases es with
     |nil=>exact h.elim
     |cons e es=>cases t with
      |cons t0 t1=>exact .cons (ih (hp f (ψ ..)).1 (hp f (ψ ..)).2 h.1 t0) (ihl (fun g hg=>hp g (ρ _ hg)) h.2 t1)
  intro k d e x hf hr h hx;cases k with
  |num w=>exact num h hx
  |pick is =>
   obtain⟨j,i,a,b,hi,rfl,rfl,h⟩:=h;have hm:=ι hi;cases hx with
   |tup h1 t=>cases t with
    |cons t0 t=>cases t with
     |cons t1 t=>cases t;cases t0;exact .tup h1 (.cons (.int _) (.cons (ih (k:=.nest i) (hf.2.2.2 i hm) (show 2*i+2<=n by have:=hr i hm;omega) h t1) .nil))
  |many m q =>
   obtain⟨ds,es,rfl,rfl,h⟩:=h;cases hx with
   |lst h1 h2 t=>exact .lst h1 h2 (ls (fun f hf'=>by obtain⟨z1,z2,_⟩:=Kd.parts_ok hW.good hf hr hf';exact⟨z2,z1⟩) h t)
  |nest i =>
   obtain⟨ds,es,ks,es',rfl,rfl,l,p,h⟩:=h;have hSi:S[i]?=some S[i]:=η (show i<S.length from hf);have hl:=h.len.2;have hp:ks.Perm (((Kd.nest i).parts S).map (·.1)):=by
    have:=p.map (·.1);rw[zX,xO l,xO (by rw[δ];exact hl)]at this;exact nO this
   have D:=drec (uG hS i) l p h;obtain⟨a,xs,rfl,h1,l2,t⟩:=dt_kv hx l;have few:=(xU hW.good (.inl ⟨i,rfl⟩) hf).2;have lok:∀y∈ks,Low y/\y.length<=6:=fun y hy=>by
    have:=hp.subset hy;rw[qY hSi]at this;obtain⟨f,hf',rfl⟩:=ib.mp this;exact sY hW (ι hSi) hf'
   have lk:ks.length<=6:=by rw[hp.length_eq,δ];exact few
   refine .dct h1 ⟨l2,by omega,hp.nodup_iff.mpr (uG hS i),fun y hy=>(lok y hy).1,fun y hy=>Ψ (lok y hy).2 (by decide)⟩ ?_;have each:∀(j:Nat) (e:ν) (x:V),es'[j]?=some e->xs[j]?=some x->Dq z P w K H x e:=fun j e x he hx=>by
    have hj:=(θ.mp he).1;have ek:ks[j]?=some (ks[j]'(by omega)):=η _;have hin:=aEr ek he;have hin':=p.subset hin;rw[zX]at hin';obtain⟨t',ht'⟩:=vh hin';unfold kvD at ht';rw[xu]at ht';cases h3:(((Kd.nest i).parts S).map (·.1))[t']? with
    |none=>rw[h3]at ht';cases ht'
    |some y =>
     cases h4:es[t']? with
     |none=>rw[h3,h4]at ht';cases ht'
     |some e4 =>
      rw[h3,h4]at ht';injection ht' with ht';injection ht' with _ ht';subst ht';have hpt:t'<((Kd.nest i).parts S).length:=by rw[hl];exact(θ.mp h4).1
      have ef:((Kd.nest i).parts S)[t']?=some (((Kd.nest i).parts S)[t']):=η hpt;obtain⟨d5,e5,_,q2,q3⟩:=h.get ef;rw[h4]at q2;cases q2;obtain⟨x',hx',hdx⟩:=t.get he;rw[hx]at hx';cases hx';obtain⟨z1,z2,_⟩:=Kd.parts_ok hW.good hf hr (ι ef);exact ih z2 z1 q3 hdx
   clear D h h1 hp p l2;have lx:=t.length;have:∀{xs:List V}{es:List ν},xs.length=es.length->(∀(j:Nat) (e:ν) (x:V),es[j]?=some e->xs[j]?=some x->Dq z P w K H x e)->Dqs z P w K H xs es:=by
    intro xs
    induction xs with
    |nil=>intro es e _;cases es with
     |nil=>exact .nil
     |cons _ _=>cases e
    |cons x xs ihx=>intro es e h;cases es with
     |nil=>cases e
     |cons e0 es=>exact .cons (h 0 e0 x rfl rfl) (ihx (jr e) fun j e x h1 h2=>h (j+1) e x h1 h2)
   exact this lx each
mutual
theorem aEb{K:Δ}(hs:St3 H p):∀{x:V}{d:ν}{fs:List Addr},Tr z K H x d fs->p∉fs->Dt false K (offs [p] H) x d
 |_,_,_,.int i,_=>.int i
 |_,_,_,.lst h t n,hp=>.lst (SqL.of (kN (fun z=>hp (by rw[←Φ.mp z];exact ψ ..)) h)) (fun z=>nomatch z) (uY hs t fun z=>hp (ρ _ z))
 |_,_,_,.tup h t,hp=>.tup (aDf hs h) (.cons (.int _) (.cons (aEb hs t hp) .nil))
 |_,_,_,.dct h l t n,hp=>.dct (kN (fun z=>hp (by rw[←Φ.mp z];exact ψ ..)) h) l (uY hs t fun z=>hp (ρ _ z))
theorem uY{K:Δ}(hs:St3 H p):∀{xs:List V}{ds:List ν}{fs:List Addr},Trs z K H xs ds fs->p∉fs->Dts false K (offs [p] H) xs ds
 |_,_,_,.nil,_=>.nil
 |_,_,_,.cons h t n,hp=>.cons (aEb hs h fun z=>hp (ke _ z)) (uY hs t fun z=>hp (gq _ z))
end
theorem New.st(h:New H fs)(hs:St3 H p):p∉fs:=fun z=>by
 obtain⟨o,ho⟩:=fB hs;rw[h p z]at ho;cases ho
def aJl (P:io) (w:jl) (c:Cl5) (K:Δ) (r:Nat):Sp:=fun vs H Q _=>∃(p s a sl:Addr) (i:Nat) (sa:List Addr) (S:List Shp),vs=[.ref p,.ref s,.ref sl,.ref a]/\St3 H p/\sa[i]?=some s/\2*i+2<=r/\r<=9/\(tabs S).sz.getD i 0<=64/\SW c K (offs [p] H) sa S/\Wel S/\LK K (offs [p] H) a (.nest i)/\LX K (offs [p] H) sl S/\∀H',Drawn p H H'->Q (.bl true) H'
theorem Sn.shw(h:Sn d n m)(hn:n<=80000)(hm:m<=60):d.showable=true/\d.depth<=60/\d.shown.length<=χ:=⟨h.sh,Ψ h.dp hm,h.len hn⟩
theorem aRi{K:Δ}(h:Tr z K H (.ref a) (.dict kvs) fs):a∈fs:=by
 generalize hd:ue kvs=d at h;cases h with
 |dct=>exact ψ ..
 |lst=>cases hd
 |tup=>cases hd
def nstD:Nat->ν
 |0=>.list []
 |n+1=>.list [nstD n]
theorem noMq{K:Δ}{F:Kd->Bool}(hF:∀k,F k=true->k.isNum=true->False):∀vs H Q E,mI P w c K 0 F vs H Q E->False:=fun vs H Q E h=>by obtain⟨a,x,kd,sa,S,d,_,h1,h2,h3,_⟩:=h;exact hF kd h1 (h2.zero h3)
end K14
namespace L2
open PySem PySem.Spec PyProof.Rows
theorem xK{K:Δ}: (aDt CX P w K mg base N qual scope f cd A outer s H E).K=K:=rfl
theorem xN{X:Cx}: X.nox.K=X.K:=rfl
theorem aMx{t2:TS}(h:let r2:=t2;vF t1 r2 D σ H):vF t1 t2 D σ H:=h
theorem aLy{t3:TS}(h:let r3:=t3;let r2:=vF t2 r3;vF t1 r2 D σ H):vF t1 (vF t2 t3) D σ H:=h
theorem aMd{t4:TS}(h:let r4:=t4;let r3:=vF t3 r4;let r2:=vF t2 r3;vF t1 r2 D σ H):vF t1 (vF t2 (vF t3 t4)) D σ H:=h
theorem aOd{t5:TS}(h:let r5:=t5;let r4:=vF t4 r5;let r3:=vF t3 r4;let r2:=vF t2 r3;vF t1 r2 D σ H):vF t1 (vF t2 (vF t3 (vF t4 t5))) D σ H:=h
theorem aMk{t6:TS}(h:let r6:=t6;let r5:=vF t5 r6;let r4:=vF t4 r5;let r3:=vF t3 r4;let r2:=vF t2 r3;vF t1 r2 D σ H):vF t1 (vF t2 (vF t3 (vF t4 (vF t5 t6)))) D σ H:=h
theorem aNx{t7:TS}(h:let r7:=t7;let r6:=vF t6 r7;let r5:=vF t5 r6;let r4:=vF t4 r5;let r3:=vF t3 r4;let r2:=vF t2 r3;vF t1 r2 D σ H):vF t1 (vF t2 (vF t3 (vF t4 (vF t5 (vF t6 t7))))) D σ H:=h
end L2
local macro_rules | `(tactic| refine⟨_,($t),?_⟩) => `(tactic| (refine⟨_,$t,?_⟩; (try dsimp only[L2.xK,L2.xN]);first | (refine L2.aNx ?_;intros) | (refine L2.aMk ?_;intros) | (refine L2.aOd ?_;intros) | (refine L2.aMd ?_;intros) | (refine L2.aLy ?_;intros) | (refine L2.aMx ?_;intros)| skip))
namespace K14
open PySem L2 PyProof.Rows
local macro_rules | `(tactic| clear 1 $p:ident $H:ident $g:ident $k:ident $h:ident) => `(tactic| (generalize zq9 : upd _ $p _ = $H;obtain ⟨$g, $k⟩ := qB zq9 $h))
local macro_rules | `(tactic| clear 0 $p:ident $H:ident $g:ident $k:ident) => `(tactic| (generalize zq9 : upd _ $p _ = $H;obtain ⟨$g, $k⟩ := bH zq9))
local macro_rules | `(tactic| walk_at"sc") => `(tactic| exact⟨rfl, rfl, rfl, by decide +kernel, rfl, by decide +kernel, by decide +kernel⟩)
local macro_rules | `(tactic| w_cond $s:ident) => `(tactic| (obtain ⟨M, C, Ua, Ub, Uc, Ud, Ue, Uf⟩ := Z; (first | refine F.ok $s (fun vs H Q E h => ?_) (fun cdv A outer s0 H vs Q E hr0 h => ?_) | refine F.okE $s (fun vs H Q E h => ?_) (fun cdv A outer s0 H vs Q E hr0 h => ?_) | refine F.okH $s (fun vs H Q E h => ?_) (fun cdv A outer s0 H vs Q E hr0 h => ?_)); (rotate_left;have hr := hr0.mono (rj _);rotate_right);try (· first | (cases h;subst_vars;rfl) | repeat (first | (obtain ⟨rfl, _⟩ := h;exact rfl) | obtain ⟨_, h⟩ := h))))
abbrev cG:Stmt:=top 17
theorem rB:jN ["thing","signs","most"] ["thing","signs","most"] (jI cG):=by walk_at"sc"
abbrev lO:Stmt:=top 16
theorem aDp:jN ["thing"] ["thing"] (jI lO):=by walk_at"sc"
abbrev dH:Stmt:=top 18
theorem iK:jN ["text","low","high","number"] ["text","low","high"] (jI dH):=by walk_at"sc"
abbrev oU:Stmt:=top 22
theorem aHe:jN ["path","step"] ["path","step"] (jI oU):=by walk_at"sc"
abbrev iX:Stmt:=top 64
theorem aDj:jN ["_law_cell_here"] ["_law_cell_here"] (jI iX):=by walk_at"sc"
abbrev fP:Stmt:=top 65
theorem aJ:jN ["_law_box_here","_law_many","_law_digit","_law_number"] ["_law_box_here","_law_many"] (jI fP):=by walk_at"sc"
abbrev fS:Stmt:=top 63
theorem aBg:jN ["_law_script","_law_k"] ["_law_script","_law_k"] (jI fS):=by walk_at"sc"
abbrev yU:Stmt:=top 51
theorem iV:jN ["words"] ["words"] (jI yU):=by walk_at"sc"
abbrev fJ:Stmt:=inClass (top 24) 3
theorem aCa:jN ["self"] ["self"] (jI fJ):=by walk_at"sc"
abbrev aW:Stmt:=inClass (top 25) 3
theorem oX:jN ["self"] ["self"] (jI aW):=by walk_at"sc"
abbrev bU:Stmt:=inClass (top 28) 1
theorem rC:jN ["self"] ["self"] (jI bU):=by walk_at"sc"
abbrev dI:Stmt:=inClass (top 24) 4
theorem uK:jN ["self"] ["self"] (jI dI):=by walk_at"sc"
abbrev zT:Stmt:=inClass (top 25) 4
theorem mH:jN ["self"] ["self"] (jI zT):=by walk_at"sc"
abbrev aQ:Stmt:=inClass (top 28) 2
theorem pB:jN ["self"] ["self"] (jI aQ):=by walk_at"sc"
abbrev dW:Stmt:=inClass (top 26) 3
theorem uV:jN ["self"] ["self"] (jI dW):=by walk_at"sc"
abbrev bV:Stmt:=inClass (top 26) 4
theorem pV:jN ["self"] ["self"] (jI bV):=by walk_at"sc"
abbrev yQ:Stmt:=inClass (top 27) 4
theorem iP:jN ["self"] ["self"] (jI yQ):=by walk_at"sc"
abbrev bT:Stmt:=inClass (top 27) 5
theorem rG:jN ["self"] ["self"] (jI bT):=by walk_at"sc"
abbrev dE:Stmt:=inClass (top 27) 3
theorem tL:jN ["self"] ["self"] (jI dE):=by walk_at"sc"
abbrev fG:Stmt:=inClass (top 24) 0
theorem aBr:jN ["self","width"] ["self","width"] (jI fG):=by walk_at"sc"
abbrev aY:Stmt:=inClass (top 25) 0
theorem pI:jN ["self","shape"] ["self","shape"] (jI aY):=by walk_at"sc"
abbrev dS:Stmt:=inClass (top 26) 0
theorem tV:jN ["self","count","kind"] ["self","count","kind"] (jI dS):=by walk_at"sc"
abbrev cW:Stmt:=inClass (top 27) 0
theorem tU:jN ["self","shapes"] ["self","shapes"] (jI cW):=by walk_at"sc"
abbrev aT:Stmt:=inClass (top 29) 0
theorem oY:jN ["self","shapes"] ["self","shapes"] (jI aT):=by walk_at"sc"
abbrev zS:Stmt:=inClass (top 24) 6
theorem mX:jN ["self","path"] ["self","path"] (jI zS):=by walk_at"sc"
abbrev yY:Stmt:=inClass (top 27) 7
theorem lH:jN ["self","path"] ["self","path"] (jI yY):=by walk_at"sc"
abbrev yW:Stmt:=inClass (top 25) 5
theorem iW:jN ["self"] ["self"] (jI yW):=by walk_at"sc"
abbrev aM:Stmt:=inClass (top 26) 5
theorem nW:jN ["self"] ["self"] (jI aM):=by walk_at"sc"
abbrev yV:Stmt:=inClass (top 23) 2
theorem xH:jN ["self","path","rows","step","kind"] ["self","path"] (jI yV):=by walk_at"sc"
abbrev aP:Stmt:=inClass (top 28) 3
theorem oQ:jN ["self"] ["self"] (jI aP):=by walk_at"sc"
abbrev bZ:Stmt:=inClass (top 28) 0
theorem pN:jN ["self","name","fields"] ["self","name","fields"] (jI bZ):=by walk_at"sc"
abbrev dM:Stmt:=top 54
theorem wH:jN ["words"] ["words"] (jI dM):=by walk_at"sc"
abbrev iZ:Stmt:=top 53
theorem aEc:jN ["words"] ["words"] (jI iZ):=by walk_at"sc"
abbrev yS:Stmt:=top 52
theorem lQ:jN ["words"] ["words"] (jI yS):=by walk_at"sc"
abbrev zN:Stmt:=top 57
theorem mP:jN ["words"] ["words"] (jI zN):=by walk_at"sc"
abbrev bQ:Stmt:=top 69
theorem pZ:jN ["_law_path","_law_step"] ["_law_path","_law_step"] (jI bQ):=by walk_at"sc"
abbrev yE:Stmt:=top 55
theorem iB:jN ["told","line","name"] ["told","line","name"] (jI yE):=by walk_at"sc"
abbrev zZ:Stmt:=top 58
theorem mU:jN ["told"] ["told"] (jI zZ):=by walk_at"sc"
abbrev cJ:Stmt:=top 56
theorem xM:jN ["told","line","words","named","at","name"] ["told","line","words"] (jI cJ):=by walk_at"sc"
abbrev iO:Stmt:=top 60
theorem aCw:jN ["words","shapes"] ["words","shapes"] (jI iO):=by walk_at"sc"
abbrev aN:Stmt:=top 61
theorem oH:jN ["shape"] ["shape"] (jI aN):=by walk_at"sc"
abbrev bN:Stmt:=top 59
theorem aS:jN ["told","line","words","kind","shape"] ["told","line","words"] (jI bN):=by walk_at"sc"
abbrev aX:Stmt:=top 50
theorem vL:jN ["text","lines","told","line","row","words"] ["text"] (jI aX):=by walk_at"sc"
abbrev fZ:Stmt:=top 67
theorem aBf:jN ["_law_kind_here","_law_shapes_here"] ["_law_kind_here","_law_shapes_here"] (jI fZ):=by walk_at"sc"
abbrev cU:Stmt:=top 70
theorem uI:jN ["_law_kind_here","_law_shapes_here"] ["_law_kind_here","_law_shapes_here"] (jI cU):=by walk_at"sc"
abbrev cY:Stmt:=top 68
theorem vR:jN ["_law_kind_here","_law_shapes_here","_law_path","_law_found","_law_number","_law_name","_law_inner"] ["_law_kind_here","_law_shapes_here","_law_path"] (jI cY):=by walk_at"sc"
abbrev fK:Stmt:=top 72
theorem lU:jN ["_law_shapes_here","_law_main"] ["_law_shapes_here"] (jI fK):=by walk_at"sc"
abbrev gJ:Stmt:=top 71
theorem aH:jN ["_law_box_here","_law_known","_law_way","_law_width","_law_at"] ["_law_box_here","_law_known"] (jI gJ):=by walk_at"sc"
abbrev yO:Stmt:=top 74
theorem lF:jN ["_law_kind_here","_law_shapes_here"] ["_law_kind_here","_law_shapes_here"] (jI yO):=by walk_at"sc"
abbrev fY:Stmt:=top 75
theorem xV:jN ["_law_shapes_here","_law_lines","_law_name","_law_fields","_law_field","_law_kind_here"] ["_law_shapes_here"] (jI fY):=by walk_at"sc"
abbrev dO:Stmt:=top 66
theorem yB:jN ["_law_box_here","_law_way","_law_at","_law_words","_law_tail"] ["_law_box_here"] (jI dO):=by walk_at"sc"
abbrev cD:Stmt:=top 73
theorem qS:jN ["_law_box_here","_law_most","_law_names_here","_law_turn","_law_shapes_here","_law_k","_law_fields","_law_j","_law_field"] ["_law_box_here","_law_most"] (jI cD):=by walk_at"sc"
abbrev gK:Stmt:=top 19
theorem aBx:jN ["width"] ["width"] (jI gK):=by walk_at"sc"
abbrev fW:Stmt:=top 78
theorem lX:jN ["_law_box_here","_law_width","_law_most"] ["_law_box_here","_law_width"] (jI fW):=by walk_at"sc"
abbrev dX:Stmt:=top 79
theorem xY:jN ["_law_box_here","_law_kind_here","_law_shapes_here","_law_number","_law_found","_law_name","_law_inner"] ["_law_box_here","_law_kind_here","_law_shapes_here"] (jI dX):=by walk_at"sc"
abbrev aL:Stmt:=inClass (top 29) 2
theorem pH:jN ["self"] ["self"] (jI aL):=by walk_at"sc"
abbrev fN:Stmt:=top 13
theorem aAr:jN ["thing"] ["thing"] (jI fN):=by walk_at"sc"
abbrev dD:Stmt:=top 76
theorem uS:jN ["_law_found"] ["_law_found"] (jI dD):=by walk_at"sc"
abbrev bY:Stmt:=top 15
theorem pP:jN ["thing","low","high"] ["thing","low","high"] (jI bY):=by walk_at"sc"
abbrev lK:Stmt:=top 20
theorem aDl:jN ["thing","width"] ["thing","width"] (jI lK):=by walk_at"sc"
abbrev zK:Stmt:=top 36
theorem mM:jN ["pick","thing"] ["pick","thing"] (jI zK):=by walk_at"sc"
abbrev fR:Stmt:=top 32
theorem aAc:jN ["kind","thing"] ["kind","thing"] (jI fR):=by walk_at"sc"
abbrev dU:Stmt:=top 31
theorem uP:jN ["shape","thing"] ["shape","thing"] (jI dU):=by walk_at"sc"
abbrev cV:Stmt:=top 35
theorem wC:jN ["kind","thing"] ["kind","thing"] (jI cV):=by walk_at"sc"
abbrev cK:Stmt:=top 33
theorem eZ:jN ["kind","thing","fields"] ["kind","thing"] (jI cK):=by walk_at"sc"
abbrev dP:Stmt:=top 34
theorem uB:jN ["kind","thing"] ["kind","thing"] (jI dP):=by walk_at"sc"
abbrev oG:Stmt:=top 80
theorem sI:jN ["_law_kind_here","_law_shapes_here","_law_thing","_law_fields"] ["_law_kind_here","_law_shapes_here","_law_thing"] (jI oG):=by walk_at"sc"
abbrev fQ:Stmt:=top 39
theorem aBa:jN ["kind","values"] ["kind","values"] (jI fQ):=by walk_at"sc"
abbrev fH:Stmt:=top 38
theorem aBe:jN ["kind"] ["kind"] (jI fH):=by walk_at"sc"
abbrev tQ:Stmt:=top 37
theorem aIk:jN ["shape"] ["shape"] (jI tQ):=by walk_at"sc"
abbrev aK:Stmt:=top 84
theorem dZ:jN ["_law_shape","_law_thing","_law_due","_law_found"] ["_law_shape","_law_thing","_law_due"] (jI aK):=by walk_at"sc"
abbrev dA:Stmt:=top 77
theorem zD:jN ["_law_kind_here","_law_shapes_here","_law_found","_law_name","_law_inner"] ["_law_kind_here","_law_shapes_here"] (jI dA):=by walk_at"sc"
abbrev xR:Stmt:=top 86
theorem eQ:jN ["_law_found","_law_due"] ["_law_found","_law_due"] (jI xR):=by walk_at"sc"
abbrev zM:Stmt:=top 85
theorem mR:jN ["_law_found","_law_due"] ["_law_found","_law_due"] (jI zM):=by walk_at"sc"
abbrev bM:Stmt:=top 83
theorem aU:jN ["_law_thing","_law_found","_law_name"] ["_law_thing"] (jI bM):=by walk_at"sc"
abbrev lC:Stmt:=top 81
theorem xS:jN ["_law_box_here","_law_thing","_law_some","_law_way","_law_pair","_law_found","_law_key","_law_one"] ["_law_box_here","_law_thing"] (jI lC):=by walk_at"sc"
abbrev aO:Stmt:=top 82
theorem xX:jN ["_law_box_here","_law_thing","_law_at","_law_found","_law_key"] ["_law_box_here","_law_thing"] (jI aO):=by walk_at"sc"
abbrev cS:Stmt:=top 87
theorem vT:jN ["_law_box_here","_law_shape","_law_shapes_here","_law_kind_here","_law_due","_law_record","_law_k","_law_other","_law_kept","_law_told"] ["_law_box_here","_law_shape","_law_shapes_here","_law_kind_here"] (jI cS):=by walk_at"sc"
abbrev aIo:Stmt:=top 88
theorem aV:jN ["_law_script","_law_k","_law_box_here","_law_shapes_here","_law_read","_law_at","_law_deep","_law_lap","_law_thing"] ["_law_script"] (jI aIo):=by walk_at"sc"
structure ZZ (P:io) (w:jl) (base:kq) (K:Δ) (mg:Str->Option Value) (t1 t2 t3 t4 t5 t6 t7 t8 t9 t10 t11 t12 t13:Tok) (ts:Addr) (Va cIu:Addr) (Vb cIv:Addr) (Vc cIx:Addr) (Vd cIy:Addr) (Ve cIz:Addr) (Vf cIw:Addr):Prop where
 M:Blt mg
 C:Cst K mg t1 t2 t3 t4 t5 t6 t7 t8 t9 t10 t11 t12 t13 ts
 Ua:pQ K mg "Num" Va cIu ["width"]
 Ub:pQ K mg "Nested" Vb cIv ["shape"]
 Uc:pQ K mg "Many" Vc cIx ["count","kind"]
 Ud:pQ K mg "Pick" Vd cIy ["shapes"]
 Ue:pQ K mg "Shape" Ve cIz ["name","fields"]
 Uf:pQ K mg "Shapes" Vf cIw ["shapes"]
section
variable {P:io}{w:jl}{K:Δ}{mg:Str->Option Value}{base:kq}{t1 t2 t3 t4 t5 t6 t7 t8 t9 t10 t11 t12 t13:Tok}{ts:Addr}{Va cIu:Addr}{Vb cIv:Addr}{Vc cIx:Addr}{Vd cIy:Addr}{Ve cIz:Addr}{Vf cIw:Addr}(Z:ZZ P w base K mg t1 t2 t3 t4 t5 t6 t7 t8 t9 t10 t11 t12 t13 ts Va cIu Vb cIv Vc cIx Vd cIy Ve cIz Vf cIw)
include Z
local macro_rules|`(j0 $a $b)=>`(kJ P w K mg base CX0 (k+2) f fd $a $b)
local macro_rules|`(j4 $a $b)=>`(Cal P w K mg base CX0 k $a $b)
local macro_rules|`(j5 $a $b)=>`(aA P w K mg base CX0 k $a $b)
local macro_rules|`(j6 $a $b $c)=>`(zC P w K mg base CX0 k $a $b $c)
local macro_rules|`(j7 0)=>`(Cl5.mk Va Vb Vc Vd Ve)
theorem rJ{k:Nat}(F:Fun K "is_text_of" "is_text_of" cG f fd):j0 ["thing","signs","most"] (oO K):=by
 w_cond rB;obtain⟨x,signs,most,rfl,h⟩:=h;refine⟨_,(jE (kK (PW.pt (zQ (vA (kU (jK (vD.or pD aGy) rfl M.isinstance ie (jA (pv 0) (jA (qI (v:=.ty "str") rfl M.str boot_str rfl) jB))))) (xZ (vA (aAs dL dL jC (jK aAf rfl M.len iq (jA (pv 0) jB)) (pv 2)))))) (jD (jJ vQ)) jL) (jD (jJ (jK (yK rfl) rfl M.all boot_all (jA (kR ["sign"] ["signs"] [1] rfl (aQg (pv 0)) rfl ⟨rfl,trivial⟩ ⟨⟨rfl,rfl,rfl,_,rfl⟩,trivial⟩ (fun _ _ _ _=>(qD rfl)) (fun _ _ _ _=>kQ) (fun _ _ _ _=>(qT aGh (pv 0) (pv 1) (by with_unfolding_all rfl)))) jB))))),?_⟩;rcases h with⟨z,rfl,hz,q⟩|⟨t,ht,hns,q⟩
 ·have hl:=len_list z;refine⟨_,rfl,.inl ⟨_,_,"str",rfl,by decide,rfl,_,rfl,jU ?_⟩⟩;refine⟨_,rfl,.str z,z.length,rfl,⟨small hz,rfl⟩,_,_,rfl,rfl,_,rfl,yG (fun c1=>?_) (fun c1=>?_)⟩
  ·refine⟨_,rfl,_,_,rfl,rfl,_,rfl,yG (fun c2=>?_) (fun c2=>?_)⟩
   ·have e:within z most=false:=by
     unfold within;have:decide ((z.length:Int)<=most)=false:=by simpa using c2
     rw[this,Bool.and_false]
    have:=q H (jG.refl H);rw[e,rm]at this;exact this
   ·have e:within z most=true:=by
     unfold within;have c2':decide ((z.length:Int)<=most)=true:=by simpa using c2
     rw[c2',c1];rfl
    refine⟨_,rfl,z,rfl,aHz (fun i ys H'=>H'=H/\ys=((z.cps.toList.take i).map fun c=>decide (c∈signs.cps.toList)).map V.bl) ⟨rfl,rfl⟩ (fun i ys H' _ w=>by rw[w.2,δ,δ];exact nh ..) (kM hz) (fun i c ys H' hc w=>?_) (fun ys H' w p hp=>?_)⟩
    ·obtain⟨rfl,rfl⟩:=w;refine⟨_,rfl,_,rfl,⟨#[c]⟩,signs,rfl,rfl,⟨rfl,?_⟩,_,rfl⟩;rw[aKr (fun c=>decide (c∈signs.cps.toList)) _ i hc,τ,aQx];rfl
    ·obtain⟨rfl,rfl⟩:=w;refine⟨p,(z.cps.toList.map fun c=>decide (c∈signs.cps.toList)),rfl,SqL.of ?_,?_⟩
     ·rw[jR,←hl,List.take_length]
     ·have:=q _ (vP hp (.lst (((z.cps.toList.take z.length).map fun c=>decide (c∈signs.cps.toList)).map V.bl)));rw[e,ow]at this;rw[all_map];exact this
  ·refine⟨_,rfl,?_⟩;have e:within z most=false:=by
    unfold within;have:decide (1<=(z.length:Int))=false:=by simpa using c1
    rw[this,rm]
   have:=q H (jG.refl H);rw[e,rm]at this;exact qF this
 ·rcases ht with ht|⟨rfl,p,kvs,rfl,hp⟩
  ·exact⟨_,rfl,.inl ⟨x,_,t,rfl,by decide,ht,_,rfl,qZ (by rw[isa3 hns];rfl) (aBb q)⟩⟩
  ·exact⟨_,rfl,.inr ⟨p,_,kvs,rfl,by decide,hp,_,rfl,qF (aBb q)⟩⟩
theorem aCq(F:Fun K "is_name" "is_name" lO f fd)(br:j4 "is_text_of" (oO K)):j0 ["thing"] (bJ K):=by
 w_cond aDp;obtain⟨x,rfl,h⟩:=h;refine⟨_,(jD (jJ (vK (jF br hr (jA (pv 0) (jA (qW (v:=.str "abcdefghijklmnopqrstuvwxyz") rfl C.SMALL_LETTERS ⟨_,rfl⟩) (jA (qW (v:=.int 6) rfl C.MOST_LETTERS ⟨_,rfl⟩) jB)))) (vU (qT tG (pv 0) (qW (v:=.ref ts) rfl C.OWN_WORDS rfl) (by with_unfolding_all rfl)))))),?_⟩;rcases h with⟨z,rfl,hz,q⟩|⟨t,ht,hns,q⟩
 ·refine⟨_,rfl,.str z,yL,6,rfl,.inl ⟨z,rfl,hz,fun H1 g1=>⟨_,rfl,yG (fun c=>?_) (fun c=>?_)⟩⟩⟩
  ·refine⟨_,rfl,ts,_,rfl,.inr (C.words _),rfl,eA _,?_⟩;show Q (.bl (!inV (.str z) (aLj.map V.str))) H1;rw[iJ];have:=q H1 g1;unfold qC at this;rw[c,ow]at this;exact this
  ·have:=q H1 g1;unfold qC at this;rw[xp.mpr c,rm]at this;exact this
 ·exact⟨_,rfl,x,yL,6,rfl,.inr ⟨t,ht,hns,⟨_,rfl,eN (q H (jG.refl H))⟩⟩⟩
theorem tI{k:Nat}(F:Fun K "number_in" "number_in" dH f fd)(br:j4 "is_text_of" (oO K)):j0 ["text","low","high"] (fO K):=by
 w_cond iK;obtain⟨x,lo,hi,rfl,h⟩:=h;refine⟨_,(jE (kK (vA (kU (jF br hr (jA (pv 0) (jA (qW (v:=.str "0123456789") rfl C.FIGURES ⟨_,rfl⟩) (jA (qW (v:=.int 10) rfl C.MOST_FIGURES ⟨_,rfl⟩) jB)))))) (jD (jJ bX)) jL) (jE (kK (PW.pt (iS (jW qH (jH aCv (pv 0) jC) jO) (eC (jW eW (jK aAf rfl M.len iq (jA (pv 0) jB)) jC)))) (jD (jJ bX)) jL) (jE (jZ 3 iK.nd (qA cA rfl M.int boot_int (jA (pv 0) jB))) (jD (jJ (aAa (aAs dL dL (pv 1) (pv 3) (pv 2)) (pv 3) bX)))))),?_⟩;rcases h with⟨z,rfl,hz,q⟩|⟨t,ht,hns,q⟩
 ·have hl:=len_list z;refine⟨_,rfl,.str z,bK,10,rfl,.inl ⟨z,rfl,hz,fun H1 g1=>⟨_,rfl,yG (fun c=>?_) (fun c=>?_)⟩⟩⟩
  ·have e:wE z=none:=by
    unfold wE;rw[if_neg];intro w;rw[jt]at w;rw[w.1]at c;exact absurd c (by decide)
   have:=q H1 g1;rw[e]at this;exact this
  ·have c':(within z 10&&aAm z bK)=true:=by simpa using c
   have hw : 1<=(z.length:Int):=by
    rw[jt]at c';unfold within at c';have:=c'.1;rw[jt]at this;exact of_decide_eq_true this.1
   have hw2:(z.length:Int)<=10:=by
    rw[jt]at c';unfold within at c';have:=c'.1;rw[jt]at this;exact of_decide_eq_true this.2
   have hd:PySem.NumText.AllDigits z.cps.toList:=fun d hd=>by
    rw[jt]at c';have:=ia.mp c'.2 d hd;exact(wV d).mp (of_decide_eq_true this)
   obtain⟨c0,hc0⟩ : ∃c0,z.cps.toList[0]?=some c0:=⟨_,η (by omega)⟩;have at0:atI z.cps.toList 0=some c0:=by
    have:=xP (j:=0) hc0;simpa using this
   have lead:aAe z=(decide (c0=48)&&decide (1<(z.length:Int))):=by
    unfold aAe;rw[hc0]
    congr 1
    rw[qr];simp
   have no:aAe z=true->Q .non H1:=fun w=>by
    have e:wE z=none:=by
     unfold wE;rw[if_neg];intro v;rw[jt,w]at v;exact absurd v.2 (by decide)
    have:=q H1 g1;rw[e]at this;exact this
   have yes:aAe z=false->wE z=some ((PySem.NumText.digitsVal z.cps.toList:Nat):Int):=fun w=>by
    unfold wE;rw[if_pos];rw[c',w];rfl
   have hnum:=PySem.intText_digits (x:=z) hd (by intro w;rw[w]at hc0;cases hc0) (by omega);refine⟨_,rfl,z,_,c0,rfl,rfl,small hz,at0,rfl,_,rfl,?_⟩;rw[is_0];refine yG (fun c1=>?_) (fun c1=>?_)
   ·refine⟨_,rfl,.str z,z.length,rfl,⟨small hz,rfl⟩,_,_,rfl,rfl,_,rfl,yG (fun c2=>?_) (fun c2=>?_)⟩
    ·exact no (by rw[lead,c1];simpa using c2)
    ·have ey:=yes (by rw[lead,xp.mpr c2,Bool.and_false]);refine⟨_,rfl,z,_,rfl,hnum,by omega,?_⟩;refine⟨_,rfl,_,rfl,_,_,rfl,rfl,_,rfl,yG (fun d1=>⟨_,rfl,_,_,rfl,rfl,_,rfl,yG (fun d2=>⟨_,rfl,?_⟩) (fun d2=>?_)⟩) (fun d1=>⟨_,rfl,eN ?_⟩)⟩
     ·have:=q H1 g1;rw[ey,bP,if_pos ⟨of_decide_eq_true d1,of_decide_eq_true d2⟩]at this;exact this
     ·have:=q H1 g1;rw[ey,bP,if_neg (fun w=>d2 (decide_eq_true w.2))]at this;exact this
     ·have:=q H1 g1;rw[ey,bP,if_neg (fun w=>d1 (decide_eq_true w.1))]at this;exact this
   ·have ey:=yes (by rw[lead,xp.mpr c1,rm]);refine eN ⟨_,rfl,z,_,rfl,hnum,by omega,?_⟩;refine⟨_,rfl,_,rfl,_,_,rfl,rfl,_,rfl,yG (fun d1=>⟨_,rfl,_,_,rfl,rfl,_,rfl,yG (fun d2=>⟨_,rfl,?_⟩) (fun d2=>?_)⟩) (fun d1=>⟨_,rfl,eN ?_⟩)⟩
    ·have:=q H1 g1;rw[ey,bP,if_pos ⟨of_decide_eq_true d1,of_decide_eq_true d2⟩]at this;exact this
    ·have:=q H1 g1;rw[ey,bP,if_neg (fun w=>d2 (decide_eq_true w.2))]at this;exact this
    ·have:=q H1 g1;rw[ey,bP,if_neg (fun w=>d1 (decide_eq_true w.1))]at this;exact this
 ·exact⟨_,rfl,x,bK,10,rfl,.inr ⟨t,ht,hns,⟨_,rfl,qF (q H (jG.refl H))⟩⟩⟩
theorem aGm{k:Nat}(F:Fun K "joined" "joined" oU f fd):j0 ["path","step"] pE:=by
 w_cond aHe;obtain⟨p,x,y,rfl,hy,hp,hl,q⟩:=h;refine⟨_,(jD (jJ (aAa (dC (pv 0) (fun _=>rfl)) (aMf (aJt (pv 0) (aQf (aJt (pv 1) aRp)))) (aIl (pv 1))))),?_⟩;refine⟨_,rfl,_,⟨small hp,rfl⟩,yG (fun c=>?_) (fun c=>?_)⟩
 ·have hne:¬ p.length=0:=fun z=>by rw[z]at c;exact absurd c (by decide)
  have l1:(Str.empty++p).length<=χ:=by rw[eB];exact small hp
  have l2:(Str.empty++p++ζ ".").length<=χ:=by rw[eB,ki];exact aIf (by have:(ζ ".").length=1:=rfl;omega)
  have l3:(Str.empty++p++ζ "." ++ y).length<=χ:=by rw[eB,ki,ki];exact aIf (by have:(ζ ".").length=1:=rfl;omega)
  refine⟨_,rfl,p,rfl,small hp,l1,l2,_,rfl,y,hy,small hl,l3,l3,?_⟩;rw[eB];unfold pj at q;rw[if_neg hne]at q;exact q
 ·have hne:p.length=0:=by
   by_cases z:p.length=0
   ·exact z
   ·exact absurd (show((p.length:Int) != 0)=true from bne_iff_ne.mpr (by omega)) c
  unfold pj at q;rw[if_pos hne]at q;exact⟨_,rfl,y,hy,small hl,q⟩
theorem aCp{k:Nat}(F:Fun K "_law_box" "_law_box" iX f fd):j0 ["_law_cell_here"] aOz:=by
 w_cond aDj;obtain⟨c,rfl,q⟩:=h;refine⟨_,(jD (jJ (qU (jA (jK (rQ rfl) rfl M.max boot_max (jA jC (jA (jV zY (pv 0) (jV aLa jC jC)) jB))) (jA (jV yR (pv 0) jC) (jA jC jB)))))),?_⟩;exact⟨_,rfl,_,_,rfl,rfl,⟨by decide,by decide,by decide⟩,_,_,rfl,rfl,_,_,rfl,_,rfl,_,_,rfl,rfl,(by show(0:Int)<_;decide),pC,fun p hp=>q p _ hp ⟨⟨_,_,_,jR⟩,fun b o n e=>by rw[jS n];exact e⟩⟩
theorem aAj{k:Nat}(F:Fun K "_law_take" "_law_take" fP f fd):j0 ["_law_box_here","_law_many"] cI:=by
 w_cond aJ;obtain⟨p,m,rfl,hm,hm2,⟨a,b,c,h⟩,q⟩:=h;refine⟨_,(jE (kK (jW eW (jH jX (pv 0) jC) jC) (jE (jZ 2 aJ.nd (jV yR (jH jX (pv 0) jC) (pv 1))) (jE (uL (jV aJq (jH jX (pv 0) jC) (pv 1)) (sZ (pv 0) jC set_list)) (jD (jJ (pv 2))))) jL) (jE (uL (jV qM (jH jX (pv 0) jC) jC) (sZ (pv 0) jC set_list)) (jE (jZ 3 aJ.nd (jV yR (jV yP (jV qM (jV qM (jH jX (pv 0) jC) (jV yP jC (jH jX (pv 0) jC))) jC) jC) jC)) (jE (jZ 3 aJ.nd (jV yR (jV qM (jV qM (jV yP (pv 3) (pv 3)) (jV yP jC (jH jX (pv 0) jC))) jC) jC)) (jD (jJ (jV yR (jV aNh (jV yR (jV yP (pv 3) (jV qM (pv 3) jC)) jC) jC) (pv 1)))))))),?_⟩;have nat:∀x:Int,∃v:Nat,x % m=(v:Int)/\(v:Int)<m:=fun x=>by
  have h0:=Int.emod_nonneg x (show m≠0 by omega);have h1:=Int.emod_lt_of_pos x hm;exact⟨(x % m).toNat,by omega,by omega⟩
 refine⟨_,rfl,p,_,_,_,rfl,rfl,SqL.of h,rfl,_,_,rfl,rfl,_,rfl,yG (fun cc=>?_) (fun cc=>?_)⟩
 ·refine⟨_,rfl,p,_,_,_,rfl,rfl,SqL.of h,rfl,_,rfl,_,_,rfl,rfl,hm,?_⟩;refine⟨_,rfl,p,_,_,_,rfl,rfl,SqL.of h,rfl,_,rfl,_,_,rfl,rfl,⟨hm,Int.lt_trans hm2 (by decide)⟩,_,rfl,p,_,_,0,rfl,rfl,h,rfl,?_⟩;obtain⟨v,hv,hl⟩:=nat a;refine⟨_,rfl,?_⟩;show Q (.int (a % m)) _;rw[hv];exact q v _ hl ⟨⟨_,_,_,jR⟩,fun b' o n e=>by rw[jS n];exact e⟩
 ·refine⟨_,rfl,p,_,_,_,rfl,rfl,SqL.of h,rfl,_,_,rfl,rfl,_,rfl,p,_,_,2,rfl,rfl,h,rfl,?_⟩;have h1:upd H p (.lst [.int a,.int b,.int (c+1)]) p=some (.lst [.int a,.int b,.int (c+1)]):=jR;refine⟨_,rfl,p,_,_,_,rfl,rfl,SqL.of h1,rfl,_,rfl,p,_,_,_,rfl,rfl,SqL.of h1,rfl,_,_,rfl,rfl,.inl ⟨by omega,by omega⟩,_,_,rfl,rfl,_,_,rfl,rfl,_,_,rfl,rfl,.inr ⟨by omega,by omega⟩,_,_,rfl,rfl,(by show(0:Int)<_;decide),?_⟩;refine⟨_,rfl,_,rfl,_,_,rfl,rfl,.inl ⟨by omega,by omega⟩,_,rfl,p,_,_,_,rfl,rfl,SqL.of h1,rfl,_,_,rfl,rfl,.inl ⟨by omega,by omega⟩,_,_,rfl,rfl,_,_,rfl,rfl,_,_,rfl,rfl,(by show(0:Int)<_;decide),?_⟩;refine⟨_,rfl,_,rfl,_,_,rfl,rfl,_,_,rfl,rfl,.inl ⟨by omega,by omega⟩,_,_,rfl,rfl,(by show(0:Int)<_;decide),_,_,rfl,rfl,⟨by decide,by decide⟩,_,rfl,_,_,rfl,rfl,hm,?_⟩
  (try dsimp only)
  generalize hz:(_ % m:Int)=z;obtain⟨v,hv,hl⟩:=nat (((((((b+7919*(c+1)+17)*48271 % 2147483629)*((b+7919*(c+1)+17)*48271 % 2147483629)+16807*(c+1)+3) % 2147483587)*(((((b+7919*(c+1)+17)*48271 % 2147483629)*((b+7919*(c+1)+17)*48271 % 2147483629)+16807*(c+1)+3) % 2147483587)+11)) % 2147483647) / 8);rw[←hz,hv];exact q v _ hl ⟨⟨_,_,_,jR⟩,fun b' o n e=>by rw[jS n];exact e⟩
theorem aAq{k:Nat}(F:Fun K "_law_cell" "_law_cell" fS f fd):j0 ["_law_script","_law_k"] (aKh K):=by
 w_cond aBg;obtain⟨a,ns,k,rfl,hS,hk0,hk1,q⟩:=h;refine⟨_,(jE (kK (jW iE (pv 1) (jK kF rfl M.len iq (jA (pv 0) jB))) (jD (jJ (jH jX (pv 0) (pv 1)))) jL) (jD (jJ (jV qM (jV yP jC (pv 1)) jC)))),?_⟩;have hl:(ns.map V.int).length=ns.length:=δ _;refine⟨_,rfl,_,rfl,a,_,rfl,.inl hS,_,_,rfl,rfl,_,rfl,?_⟩;refine yG (fun c=>?_) (fun c=>?_)
 ·have c':k<(((ns.map V.int).length:Nat):Int):=of_decide_eq_true c;rw[hl]at c';obtain⟨v,hv⟩:=aIi ns hk0 c';exact⟨_,rfl,_,rfl,a,_,_,_,rfl,rfl,hS,hv,q _⟩
 ·exact⟨_,rfl,_,_,rfl,rfl,.inl ⟨by omega,by omega⟩,_,_,rfl,rfl,q _⟩
theorem lL{k:Nat}(F:Fun K "is_shape_line" "is_shape_line" yU f fd)(af:j4 "is_name" (bJ K)):j0 ["words"] (aOm K):=by
 w_cond iV;obtain⟨a,ws,rfl,hw,q⟩:=h;refine⟨_,(jD (jJ (vK (qT qH (jK kF rfl M.len iq (jA (pv 0) jB)) jC (vV _)) (vK (qT qH (jH jX (pv 0) jC) jO (vV _)) (vU (jF af hr (jA (jH jX (pv 0) jC) jB))))))),?_⟩;refine⟨_,rfl,a,_,rfl,.inl hw.l,rfl,_,rfl,?_⟩
 match ws,hw,q with
 |[],hw,q=>exact jU (q _ (jG.refl _))
 |[x],hw,q=>exact qP (by simp) (q _ (jG.refl _))
 |x::y::z::r,hw,q=>exact qP (by simp;omega) (q _ (jG.refl _))
 |[x,y],hw,q =>
  refine qZ (by simp) ⟨_,rfl,a,_,_,_,rfl,rfl,hw.l,rfl,rfl,_,rfl,yG (fun c=>?_) (fun c=>?_)⟩
  ·refine⟨_,rfl,a,_,_,_,rfl,rfl,hw.l,rfl,.str y,rfl,.inl ⟨y,rfl,hw.s y (by simp),fun H1 g1=>?_⟩⟩;have e:aAn [x,y]=qC y:=by
    show(decide (x=ζ "shape")&&qC y)=_;rw[decide_eq_true (show x=ζ "shape" from by simpa using c),ow]
   have:=q H1 g1;rw[e]at this;exact this
  ·have e:aAn [x,y]=false:=by
    show(decide (x=ζ "shape")&&qC y)=_;rw[decide_eq_false (show ¬ x=ζ "shape" from by simpa using c),rm]
   have:=q _ (jG.refl _);rw[e]at this;exact this
theorem lS{k:Nat}(F:Fun K "size" "Num.size" fJ f fd):j0 ["self"] (spV (j7 0) K r Kd.isNum vSz):=by
 w_cond aCa;obtain⟨a,kd,sa,S,rfl,hF,hk,hf,ho,hw,hg,q⟩:=h;refine⟨_,(jD (jJ (qN (pv 0) rfl))),?_⟩;cases id ho with
 |num h1 =>
  exact⟨_,rfl,a,Va,_,_,_,rfl,h1,Ua.cl,Ua.nd,rfl,q _ (jG.refl _)⟩
 |_=>cases hF
theorem nU(F:Fun K "size" "Nested.size" aW f fd)(ao:j6 Ve "size" (mE (j7 0) K r sSz)):j0 ["self"] (spV (j7 0) K (r+1) Kd.isNest vSz):=by
 w_cond oX;obtain⟨a,kd,sa,S,rfl,hF,hk,hf,ho,hw,hg,q⟩:=h;refine⟨_,(jD (jJ (yI (qN (pv 0) rfl) Ue.cl ao hr vG))),?_⟩;cases id ho with
 | @nest a dx s i e h1 =>
  obtain⟨sh,hs,dx2,t,ps,h2,_⟩:=hw.at e;exact⟨_,rfl,a,Vb,_,_,_,rfl,h1,Ub.cl,Ub.nd,rfl,s,dx2,_,rfl,h2,rfl,s,i,sa,S,rfl,e,(by have : 2*i+2<=r+1:=hk;omega),hw,hg,q⟩
 |_=>cases hF
theorem eY{k r:Nat}(F:Fun K "size" "Shape.size" bU f fd)(cr:∀C sp,TV (j7 0) K r vSz C sp->aB P w K mg base CX0 k "size" C sp):j0 ["self"] (mE (j7 0) K r sSz):=by
 w_cond rC;obtain⟨a,i,sa,S,rfl,e,hi,hw,hg,q⟩:=h;refine⟨_,(jD (jJ (jK (aAx rfl) rfl M.sum (show lr "sum" = some (.builtin "sum") from by ac_rfl) (jA (kR ["name","kind"] [] [] rfl (fV (qN (pv 0) rfl)) rfl trivial trivial (fun _ _ _ _=>(xF (K:=K) (n:=2) rfl rfl (kI (qD rfl) (kI (yT rfl) qR)))) (fun _ _ _ _=>kQ) (fun _ _ _ _=>(yF (pv 1) cr hr vG))) jB)))),?_⟩;obtain⟨s,hS,so⟩:=hw.at e;obtain⟨dx,t,ps,k1,k2,k3⟩:=so.fields;have zl:(ps.map V.ref).length=s.2.length:=by rw[δ];exact k3.len
 have hfit:=hg.fit i s hS;have htab:=fL hS fun f hf=>(hfit f hf).1.below;have hil:i<S.length:=(θ.mp hS).1;refine⟨_,rfl,a,Ve,_,_,_,rfl,k1,Ue.cl,Ue.nd,rfl,t,rfl,⟨_,k2⟩,zH (xs:=ps.map V.ref) (fun j ys H'=>jG H H'/\ys=((s.2.take j).map fun f=>V.int (vSz f.2 (tabs S)))) ⟨jG.refl _,rfl⟩ (fun j ys H' _ z=>⟨z.1.tp k2,by rw[z.2,δ,Ω];exact jq _ _⟩) (kM (by have:=hg.few i s hS;omega)) (fun j x ys H' os ho hx z=>?_) (fun ys H' z p hp=>?_)⟩
 ·obtain⟨g,rfl⟩:=z;obtain⟨o1,o2,rfl⟩:=mK ho;obtain⟨u,hu,rfl⟩:=qG hx;obtain⟨x,y,kd,k,hf,ht,_,hko⟩:=k3.get hu;have hm:=hfit _ (ι hf);exact⟨u,_,rfl,g.tp ht,rfl,_,_,rfl,_,_,rfl,rfl,_,rfl,aGa (sV (by simp)) (hm.1.rk.mono hi) (hm.1.mono (jw hil)) (hko.same g) (hw.same g) hg fun H2 g2=>⟨⟨g.trans g2,(qE hf).symm⟩,[_,_],rfl,rfl⟩⟩
 ·obtain⟨g,rfl⟩:=z;have g2:=vP hp (.lst ((s.2.take (ps.map V.ref).length).map fun f=>V.int (vSz f.2 (tabs S))));have kp:upd H' p (.lst ((s.2.take (ps.map V.ref).length).map fun f=>V.int (vSz f.2 (tabs S)))) p=some (.lst (((s.2.map fun f=>vSz f.2 (tabs S)).map fun n:Nat=>(n:Int)).map V.int)):=by
   rw[jR,zl,kL,jf,jf];rfl
  have q':=q _ (g.trans g2);refine⟨p,(s.2.map fun f=>vSz f.2 (tabs S)).map fun n:Nat=>(n:Int),rfl,SqL.of kp,?_⟩;rw[sumI];rw[show sSz i (tabs S)=(s.2.map fun f=>vSz f.2 (tabs S)).sum from htab.1]at q';exact q'
theorem hU{k:Nat}(F:Fun K "depth" "Num.depth" dI f fd):j0 ["self"] (spV (j7 0) K r Kd.isNum vDp):=by
 w_cond uK;obtain⟨a,kd,sa,S,rfl,hF,hk,hf,ho,hw,hg,q⟩:=h;refine⟨_,(jD (jJ jC)),?_⟩;cases id ho with
 |num h1 =>
  exact q _ (jG.refl _)
 |_=>cases hF
theorem mT(F:Fun K "depth" "Nested.depth" zT f fd)(ak:j6 Ve "depth" (mE (j7 0) K r sDp)):j0 ["self"] (spV (j7 0) K (r+1) Kd.isNest vDp):=by
 w_cond mH;obtain⟨a,kd,sa,S,rfl,hF,hk,hf,ho,hw,hg,q⟩:=h;refine⟨_,(jD (jJ (yI (qN (pv 0) rfl) Ue.cl ak hr vG))),?_⟩;cases id ho with
 | @nest a dx s i e h1 =>
  obtain⟨sh,hs,dx2,t,ps,h2,_⟩:=hw.at e;exact⟨_,rfl,a,Vb,_,_,_,rfl,h1,Ub.cl,Ub.nd,rfl,s,dx2,_,rfl,h2,rfl,s,i,sa,S,rfl,e,(by have : 2*i+2<=r+1:=hk;omega),hw,hg,q⟩
 |_=>cases hF
theorem cX{k r:Nat}(F:Fun K "depth" "Shape.depth" aQ f fd)(ci:∀C sp,TV (j7 0) K r vDp C sp->aB P w K mg base CX0 k "depth" C sp):j0 ["self"] (mE (j7 0) K r sDp):=by
 w_cond pB;obtain⟨a,i,sa,S,rfl,e,hi,hw,hg,q⟩:=h;refine⟨_,(jD (jJ (jV qM jC (jK (zI rfl) rfl M.max boot_max (jA (kR ["name","kind"] [] [] rfl (fV (qN (pv 0) rfl)) rfl trivial trivial (fun _ _ _ _=>(xF (K:=K) (n:=2) rfl rfl (kI (qD rfl) (kI (yT rfl) qR)))) (fun _ _ _ _=>kQ) (fun _ _ _ _=>(yF (pv 1) ci hr vG))) jB))))),?_⟩;obtain⟨s,hS,so⟩:=hw.at e;obtain⟨dx,t,ps,k1,k2,k3⟩:=so.fields;have zl:(ps.map V.ref).length=s.2.length:=by rw[δ];exact k3.len
 have hfit:=hg.fit i s hS;have htab:=fL hS fun f hf=>(hfit f hf).1.below;have hil:i<S.length:=(θ.mp hS).1;refine⟨_,rfl,a,Ve,_,_,_,rfl,k1,Ue.cl,Ue.nd,rfl,t,rfl,⟨_,k2⟩,zH (xs:=ps.map V.ref) (fun j ys H'=>jG H H'/\ys=((s.2.take j).map fun f=>V.int (vDp f.2 (tabs S)))) ⟨jG.refl _,rfl⟩ (fun j ys H' _ z=>⟨z.1.tp k2,by rw[z.2,δ,Ω];exact jq _ _⟩) (kM (by have:=hg.few i s hS;omega)) (fun j x ys H' os ho hx z=>?_) (fun ys H' z p hp=>?_)⟩
 ·obtain⟨g,rfl⟩:=z;obtain⟨o1,o2,rfl⟩:=mK ho;obtain⟨u,hu,rfl⟩:=qG hx;obtain⟨x,y,kd,k,hf,ht,_,hko⟩:=k3.get hu;have hm:=hfit _ (ι hf);exact⟨u,_,rfl,g.tp ht,rfl,_,_,rfl,_,_,rfl,rfl,_,rfl,aGa (sV (by simp)) (hm.1.rk.mono hi) (hm.1.mono (jw hil)) (hko.same g) (hw.same g) hg fun H2 g2=>⟨⟨g.trans g2,(qE hf).symm⟩,[_,_],rfl,rfl⟩⟩
 ·obtain⟨g,rfl⟩:=z;have g2:=vP hp (.lst ((s.2.take (ps.map V.ref).length).map fun f=>V.int (vDp f.2 (tabs S))));have kp:upd H' p (.lst ((s.2.take (ps.map V.ref).length).map fun f=>V.int (vDp f.2 (tabs S)))) p=some (.lst (((s.2.map fun f=>vDp f.2 (tabs S)).map fun n:Nat=>(n:Int)).map V.int)):=by
   rw[jR,zl,kL,jf,jf];rfl
  have q':=q _ (g.trans g2);refine⟨p,(s.2.map fun f=>vDp f.2 (tabs S)).map fun n:Nat=>(n:Int),rfl,SqL.of kp,(by simpa using hg.ne i s hS),fun m h1 h2=>?_⟩;rw[aHi h1 h2];refine⟨_,_,rfl,rfl,?_⟩;rw[show sDp i (tabs S)=1+vZ (s.2.map fun f=>vDp f.2 (tabs S)) from htab.2.1,uq]at q';exact q'
theorem uN(F:Fun K "size" "Many.size" dW f fd)(cr:∀C sp,TV (j7 0) K r vSz C sp->aB P w K mg base CX0 k "size" C sp):j0 ["self"] (spV (j7 0) K (r+1) Kd.isMany vSz):=by
 w_cond uV;obtain⟨a,kd,sa,S,rfl,hF,hk,hf,ho,hw,hg,q⟩:=h;refine⟨_,(jD (jJ (jV yP (qN (pv 0) rfl) (yF (qN (pv 0) rfl) cr hr vG)))),?_⟩;cases id ho with
 | @many a dx b n k h1 h2 =>
  refine⟨_,rfl,a,Vc,_,_,_,rfl,h1,Uc.cl,Uc.nd,rfl,_,rfl,a,Vc,_,_,_,rfl,h1,Uc.cl,Uc.nd,rfl,aGa (sV (by simp)) hk.sub hf.sub h2 hw hg fun H' g=>⟨_,_,rfl,rfl,.inl ⟨by have:=hf.2.1;omega,by have:=hf.2.1;omega⟩,?_⟩⟩;have q':=q H' g;rw[show vSz (Kd.many n k) (tabs S)=n*vSz k (tabs S) from rfl,Int.natCast_mul]at q';exact q'
 |_=>cases hF
theorem rA(F:Fun K "depth" "Many.depth" bV f fd)(ci:∀C sp,TV (j7 0) K r vDp C sp->aB P w K mg base CX0 k "depth" C sp):j0 ["self"] (spV (j7 0) K (r+1) Kd.isMany vDp):=by
 w_cond pV;obtain⟨a,kd,sa,S,rfl,hF,hk,hf,ho,hw,hg,q⟩:=h;refine⟨_,(jD (jJ (yF (qN (pv 0) rfl) ci hr vG))),?_⟩;cases id ho with
 | @many a dx b n k h1 h2 =>
  exact⟨_,rfl,a,Vc,_,_,_,rfl,h1,Uc.cl,Uc.nd,rfl,aGa (sV (by simp)) hk.sub hf.sub h2 hw hg q⟩
 |_=>cases hF
theorem bE{k r:Nat}(F:Fun K "greatest" "Pick.greatest" yQ f fd)(ao:j6 Ve "size" (mE (j7 0) K r sSz)):j0 ["self"] (spGr (j7 0) K (r+1)):=by
 w_cond iP;obtain⟨a,is,sa,S,rfl,hk,hf,ho,hw,hg,q⟩:=h;refine⟨_,(jD (jJ (jK (zI rfl) rfl M.max boot_max (jA (kR ["shape"] [] [] rfl (fV (qN (pv 0) rfl)) rfl trivial trivial (fun _ _ _ _=>(qD rfl)) (fun _ _ _ _=>kQ) (fun _ _ _ _=>(yI (pv 0) Ue.cl ao hr vG))) jB)))),?_⟩;obtain⟨dx,t,ss,h1,h2,h3,h4⟩ : ∃(dx t:Addr) (ss:List Addr),H a=some (.ins Vd dx [("shapes",.ref t)])/\SqT K H t (ss.map V.ref)/\ss.length=is.length/\∀(j i:Nat) (s:Addr),is[j]?=some i->ss[j]?=some s->sa[i]?=some s:=by
  cases ho with
  |pick h1 h2 h3 h4=>exact⟨_,_,_,h1,h2,h3,h4⟩
 have zl:(ss.map V.ref).length=is.length:=by rw[δ];exact h3
 refine⟨_,rfl,a,Vd,_,_,_,rfl,h1,Ud.cl,Ud.nd,rfl,t,rfl,⟨_,h2⟩,aAd (xs:=ss.map V.ref) (fun j ys H'=>jG H H'/\ys=((is.take j).map fun i=>V.int (sSz i (tabs S)))) ⟨jG.refl _,rfl⟩ (fun j ys H' _ z=>⟨z.1.tp h2,by rw[z.2,δ,Ω];exact jq _ _⟩) (kM (by have:=hf.2.1;omega)) (fun j x ys H' hx z=>?_) (fun ys H' z p hp=>?_)⟩
 ·obtain⟨g,rfl⟩:=z;obtain⟨s,hs,rfl⟩:=qG hx;have hj:j<is.length:=by rw[←h3];exact(θ.mp hs).1
  have hi:is[j]?=some is[j]:=η hj;have e:=h4 j _ s hi hs;obtain⟨sh,hS,dx2,t2,ps,k2,_⟩:=hw.at e;exact⟨_,rfl,s,dx2,_,rfl,g _ _ k2,rfl,s,is[j],sa,S,rfl,e,(by have:=hk _ (ju hj);omega),hw.same g,hg,fun H2 g2=>⟨⟨g.trans g2,(qE hi).symm⟩,_,rfl⟩⟩
 ·obtain⟨g,rfl⟩:=z;have g2:=vP hp (.lst ((is.take (ss.map V.ref).length).map fun i=>V.int (sSz i (tabs S))));have kp:upd H' p (.lst ((is.take (ss.map V.ref).length).map fun i=>V.int (sSz i (tabs S)))) p=some (.lst (((is.map fun i=>sSz i (tabs S)).map fun n:Nat=>(n:Int)).map V.int)):=by
   rw[jR,zl,kL,jf,jf];rfl
  have q':=q _ (g.trans g2);refine⟨p,(is.map fun i=>sSz i (tabs S)).map fun n:Nat=>(n:Int),rfl,SqL.of kp,(by have:=hf.1;intro z;rw[jf,List.map_eq_nil_iff]at z;rw[z]at this;exact absurd this (by decide)),fun m h5 h6=>?_⟩;rw[aHi h5 h6];exact q'
theorem pT{k r:Nat}(F:Fun K "depth" "Pick.depth" bT f fd)(ak:j6 Ve "depth" (mE (j7 0) K r sDp)):j0 ["self"] (spV (j7 0) K (r+1) Kd.isPick vDp):=by
 w_cond rG;obtain⟨a,kd,sa,S,rfl,hF,hk,hf,ho,hw,hg,q⟩:=h;refine⟨_,(jD (jJ (jK (zI rfl) rfl M.max boot_max (jA (kR ["shape"] [] [] rfl (fV (qN (pv 0) rfl)) rfl trivial trivial (fun _ _ _ _=>(qD rfl)) (fun _ _ _ _=>kQ) (fun _ _ _ _=>(yI (pv 0) Ue.cl ak hr vG))) jB)))),?_⟩;obtain⟨is,dx,t,ss,rfl,h1,h2,h3,h4⟩ : ∃(is:List Nat) (dx t:Addr) (ss:List Addr),kd=.pick is/\H a=some (.ins Vd dx [("shapes",.ref t)])/\SqT K H t (ss.map V.ref)/\ss.length=is.length/\∀(j i:Nat) (s:Addr),is[j]?=some i->ss[j]?=some s->sa[i]?=some s:=by
  cases ho with
  |pick h1 h2 h3 h4=>exact⟨_,_,_,_,rfl,h1,h2,h3,h4⟩
  |_=>cases hF
 have zl:(ss.map V.ref).length=is.length:=by rw[δ];exact h3
 refine⟨_,rfl,a,Vd,_,_,_,rfl,h1,Ud.cl,Ud.nd,rfl,t,rfl,⟨_,h2⟩,aAd (xs:=ss.map V.ref) (fun j ys H'=>jG H H'/\ys=((is.take j).map fun i=>V.int (sDp i (tabs S)))) ⟨jG.refl _,rfl⟩ (fun j ys H' _ z=>⟨z.1.tp h2,by rw[z.2,δ,Ω];exact jq _ _⟩) (kM (by have:=hf.2.1;omega)) (fun j x ys H' hx z=>?_) (fun ys H' z p hp=>?_)⟩
 ·obtain⟨g,rfl⟩:=z;obtain⟨s,hs,rfl⟩:=qG hx;have hj:j<is.length:=by rw[←h3];exact(θ.mp hs).1
  have hi:is[j]?=some is[j]:=η hj;have e:=h4 j _ s hi hs;obtain⟨sh,hS,dx2,t2,ps,k2,_⟩:=hw.at e;exact⟨_,rfl,s,dx2,_,rfl,g _ _ k2,rfl,s,is[j],sa,S,rfl,e,(by have:=hk _ (ju hj);omega),hw.same g,hg,fun H2 g2=>⟨⟨g.trans g2,(qE hi).symm⟩,_,rfl⟩⟩
 ·obtain⟨g,rfl⟩:=z;have g2:=vP hp (.lst ((is.take (ss.map V.ref).length).map fun i=>V.int (sDp i (tabs S))));have kp:upd H' p (.lst ((is.take (ss.map V.ref).length).map fun i=>V.int (sDp i (tabs S)))) p=some (.lst (((is.map fun i=>sDp i (tabs S)).map fun n:Nat=>(n:Int)).map V.int)):=by
   rw[jR,zl,kL,jf,jf];rfl
  have q':=q _ (g.trans g2);refine⟨p,(is.map fun i=>sDp i (tabs S)).map fun n:Nat=>(n:Int),rfl,SqL.of kp,(by have:=hf.1;intro z;rw[jf,List.map_eq_nil_iff]at z;rw[z]at this;exact absurd this (by decide)),fun m h5 h6=>?_⟩;rw[aHi h5 h6];exact q'
theorem tX{r:Nat}(F:Fun K "size" "Pick.size" dE f fd)(ay:j6 Vd "greatest" (spGr (j7 0) K (r+1))):j0 ["self"] (spV (j7 0) K (r+1) Kd.isPick vSz):=by
 w_cond tL;obtain⟨a,kd,sa,S,rfl,hF,hk,hf,ho,hw,hg,q⟩:=h;refine⟨_,(jD (jJ (jV qM jC (yI (pv 0) Ud.cl ay hr vG)))),?_⟩;cases id ho with
 | @pick a dx t is ss h1 h2 h3 h4 =>
  refine⟨_,rfl,a,dx,_,rfl,h1,rfl,a,is,sa,S,rfl,hk,hf,ho,hw,hg,fun H' g=>⟨_,_,rfl,rfl,?_⟩⟩;have q':=q H' g;rw[show vSz (Kd.pick is) (tabs S)=1+vZ (is.map fun i=>(tabs S).sz.getD i 0) from rfl,uq]at q';exact q'
 |_=>cases hF
theorem aBo{k:Nat}(F:Fun K "__init__" "Num.__init__" fG f fd):j0 ["self","width"] (aDg Va "width"):=by
 w_cond aBr;obtain⟨a,dx,v,H1,rfl,hA,g,h0,q⟩:=h;refine⟨_,(jD (cT (pv 0) (pv 1) rfl)),?_⟩;exact⟨_,rfl,_,rfl,a,Va,dx,[],rfl,hA,Ua.cl,Ua.nd,by decide,q _ (g.putn h0) jR⟩
theorem nZ{k:Nat}(F:Fun K "__init__" "Nested.__init__" aY f fd):j0 ["self","shape"] (aDg Vb "shape"):=by
 w_cond pI;obtain⟨a,dx,v,H1,rfl,hA,g,h0,q⟩:=h;refine⟨_,(jD (cT (pv 0) (pv 1) rfl)),?_⟩;exact⟨_,rfl,_,rfl,a,Vb,dx,[],rfl,hA,Ub.cl,Ub.nd,by decide,q _ (g.putn h0) jR⟩
theorem uT{k:Nat}(F:Fun K "__init__" "Many.__init__" dS f fd):j0 ["self","count","kind"] (spI2 Vc "count" "kind"):=by
 w_cond tV;obtain⟨a,dx,v,u,H1,rfl,hA,g,h0,q⟩:=h;refine⟨_,(jE (cT (pv 0) (pv 1) rfl) (jD (cT (pv 0) (pv 2) rfl))),?_⟩;exact⟨_,rfl,_,rfl,a,Vc,dx,[],rfl,hA,Uc.cl,Uc.nd,by decide,_,rfl,_,rfl,a,Vc,dx,_,rfl,jR,Uc.cl,Uc.nd,(by show 1<1000;decide),q _ ((g.putn h0).putn h0) jR⟩
theorem tS{k:Nat}(F:Fun K "__init__" "Pick.__init__" cW f fd):j0 ["self","shapes"] (spIT K Vd "shapes"):=by
 w_cond tU;obtain⟨a,dx,l,ys,H1,rfl,hA,g,h0,hl,q⟩:=h;refine⟨_,(jD (cT (pv 0) (qA yH rfl M.tuple ug (jA (pv 1) jB)) rfl)),?_⟩;refine⟨_,rfl,l,ys,rfl,.inl ⟨g.seq hl,fun t ht=>?_⟩⟩;clear 1 t H2 g2 k2 ht;exact⟨_,rfl,a,Vd,dx,[],rfl,g2 _ _ hA,Ud.cl,Ud.nd,by decide,q t _ ((g.trans g2).putn h0) jR (SqT.of (by rw[jS (kh (jM hA ht))];exact k2))⟩
theorem oS{k:Nat}(F:Fun K "__init__" "Shapes.__init__" aT f fd):j0 ["self","shapes"] (spIT K Vf "shapes"):=by
 w_cond oY;obtain⟨a,dx,l,ys,H1,rfl,hA,g,h0,hl,q⟩:=h;refine⟨_,(jD (cT (pv 0) (qA yH rfl M.tuple ug (jA (pv 1) jB)) rfl)),?_⟩;refine⟨_,rfl,l,ys,rfl,.inl ⟨g.seq hl,fun t ht=>?_⟩⟩;clear 1 t H2 g2 k2 ht;exact⟨_,rfl,a,Vf,dx,[],rfl,g2 _ _ hA,Uf.cl,Uf.nd,by decide,q t _ ((g.trans g2).putn h0) jR (SqT.of (by rw[jS (kh (jM hA ht))];exact k2))⟩
theorem cR{k:Nat}(F:Fun K "units_at" "Num.units_at" zS f fd):j0 ["self","path"] (spU (j7 0) K r Kd.isNum):=by
 w_cond mX;obtain⟨a,p,kd,sa,S,rfl,hp,hF,hk,hf,ho,hw,hg,q⟩:=h;refine⟨_,(jD (jJ (qU (jA (kY (jA (pv 1) (jA (qN (pv 0) rfl) (jA jO jB)))) jB)))),?_⟩;cases id ho with
 |num h1 =>
  refine⟨_,rfl,_,rfl,a,Va,_,_,_,rfl,h1,Ua.cl,Ua.nd,rfl,pC,fun t ht=>?_⟩;clear 1 t H1 g1 k1 ht;refine⟨iF,fun l hl=>?_⟩;clear 1 l H2 g2 k2 hl;exact q l H2 (g1.trans g2) (g1.free hl) ⟨[t],k2,.cons (g2.tp (SqT.of k1)) .nil⟩
 |_=>cases hF
theorem lN{r:Nat}(F:Fun K "units_at" "Pick.units_at" yY f fd)(ck:j4 "joined" pE)(ay:j6 Vd "greatest" (spGr (j7 0) K (r+1))):j0 ["self","path"] (spU (j7 0) K (r+1) Kd.isPick):=by
 w_cond lH;obtain⟨a,p,kd,sa,S,rfl,hp,hF,hk,hf,ho,hw,hg,q⟩:=h;refine⟨_,(jD (jJ (qU (jA (kY (jA (jF ck hr (jA (pv 1) (jA jO jB))) (jA jC (jA jO jB)))) (jA (kY (jA (pv 1) (jA (yI (pv 0) Ud.cl ay hr vG) (jA jO jB)))) jB))))),?_⟩;cases id ho with
 | @pick a dx t is ss h1 h2 h3 h4 =>
  refine⟨_,rfl,p,_,_,rfl,rfl,(by omega),(by decide),pC,fun t1 ht1=>?_⟩;clear 1 t1 H1 g1 k1 ht1;refine⟨_,rfl,_,rfl,a,dx,_,rfl,g1 _ _ h1,rfl,a,is,sa,S,rfl,hk,hf,ho.same g1,hw.same g1,hg,fun H2 g2=>⟨pC,fun t2 ht2=>?_⟩⟩;clear 1 t2 H3 g3 k3 ht2;refine⟨vS,fun l hl=>?_⟩;clear 1 l H4 g4 k4 hl;exact q l H4 (((g1.trans g2).trans g3).trans g4) (((g1.trans g2).trans g3).free hl) ⟨[t1,t2],k4,.cons (((g2.trans g3).trans g4).tp (SqT.of k1)) (.cons (g4.tp (SqT.of k3)) .nil)⟩
 |_=>cases hF
theorem iT{k:Nat}(F:Fun K "parted" "Nested.parted" yW f fd):j0 ["self"] (spP2 (j7 0) K Kd.isNest):=by
 w_cond iW;obtain⟨a,kd,sa,S,rfl,hF,hf,ho,hw,hg,q⟩:=h;refine⟨_,(jD (jJ (qA bW rfl M.list rl (jA (qN (qN (pv 0) rfl) rfl) jB)))),?_⟩;cases id ho with
 | @nest a dx s i e h1 =>
  obtain⟨sh,hs,dx2,t,ps,k1,k2,k3⟩:=hw.at e;refine⟨_,rfl,a,Vb,_,_,_,rfl,h1,Ub.cl,Ub.nd,rfl,s,Ve,_,_,_,rfl,k1,Ue.cl,Ue.nd,rfl,t,_,rfl,.inr k2,fun l hl=>?_⟩;clear 1 l H1 g1 kl hl;refine q l H1 g1 hl ⟨ps,kl,by rw[qY hs];exact k3.len,fun j t ht=>?_⟩;rw[qY hs];obtain⟨nm,kd,k,h2,h3,h4⟩:=k3.get ht;have h5:=(h4.same g1).more (sa.drop i);rw[nq]at h5;exact⟨nm,kd,k,h2,g1.tp h3,h5⟩
 |_=>cases hF
theorem oZ{k:Nat}(F:Fun K "parted" "Many.parted" aM f fd):j0 ["self"] (spP2 (j7 0) K Kd.isMany):=by
 w_cond nW;obtain⟨a,kd,sa,S,rfl,hF,hf,ho,hw,hg,q⟩:=h;refine⟨_,(jD (jJ (kR ["number"] ["self"] [0] rfl (qX rfl M.range (jA (qN (pv 0) rfl) jB)) rfl ⟨rfl,trivial⟩ ⟨⟨rfl,rfl,rfl,_,rfl⟩,trivial⟩ (fun _ _ _ _=>(qD rfl)) (fun _ _ _ _=>kQ) (fun _ _ _ _=>(kY (jA (pv 0) (jA (nA (K:=K) rfl (pv 1) rfl) jB))))))),?_⟩;cases id ho with
 | @many a dx b n k h1 h2 =>
  have hn:n<=6:=hf.2.1;refine⟨_,rfl,a,Vc,_,_,_,rfl,h1,Uc.cl,Uc.nd,rfl,n,rfl,by omega,by omega,xT (n:=n) (fun j ys H'=>jG H H'/\∃tt:List Addr,ys=tt.map V.ref/\tt.length=j/\∀(i:Nat) (t:Addr),tt[i]?=some t->SqT K H' t [.int i,.ref b]) ⟨jG.refl _,[],rfl,rfl,fun i t e=>by simp at e⟩ (fun j ys H' _ z=>?_) (kM (by omega)) (fun j ys H' hj z=>?_) (fun ys H' z p hp=>?_)⟩
  ·obtain⟨_,tt,rfl,hl,_⟩:=z;rw[δ];omega
  ·obtain⟨g,tt,rfl,hl,hP⟩:=z;refine⟨_,rfl,_,rfl,a,Vc,_,_,_,rfl,g _ _ h1,Uc.cl,Uc.nd,rfl,vS,fun t ht=>?_⟩;clear 1 t H1 g1 k1 ht;refine⟨⟨g.trans g1,tt++[t],by rw[τ];rfl,by rw[ξ,hl];rfl,fun i u e=>?_⟩,_,rfl⟩;rcases bL e with e|⟨rfl,rfl⟩
   ·exact g1.tp (hP i u e)
   ·rw[hl];rw[sy]at k1;exact SqT.of k1
  ·obtain⟨g,tt,rfl,hl,hP⟩:=z;clear 1 p H1 g1 k1 hp;refine q p H1 (g.trans g1) (g.free hp) ⟨tt,k1,by show tt.length=((ir n).map _).length;rw[hl,δ,jo],fun i t e=>?_⟩;have hi:i<n:=by rw[←hl];exact(θ.mp e).1
   refine⟨ζ (toString i),k,b,?_,g1.tp (hP i t e),h2.same (g.trans g1)⟩;show((ir n).map _)[i]?=_;rw[gu,qw hi];rfl
 |_=>cases hF
theorem bD{k r:Nat}{FF:Kd->Bool}(hFF:∀k,FF k=true->(∃i,k=.nest i)\/∃n q,k=.many n q)(F:Fun K "units_at" "Kind.units_at" yV f fd)(bh:∀C sp,aKo (j7 0) K C sp->aB P w K mg base CX0 k "parted" C sp)(bw:∀C sp,TU (j7 0) K r C sp->aB P w K mg base CX0 k "units_at" C sp)(ck:j4 "joined" pE):j0 ["self","path"] (spU (j7 0) K (r+1) FF):=by
 w_cond xH;obtain⟨a,p,kd,sa,S,rfl,hp,hF,hk,hf,ho,hw,hg,q⟩:=h;refine⟨_,(jE (jZ 2 xH.nd (qU jB)) (jE (xQ jv rfl (qL (yF (pv 0) bh hr vG)) (cO rfl (kI (qV 3 xH.nd) (kI (qV 4 xH.nd) qR))) (jD (yJ (aG ou PySem.F.slot_list_extend PySem.F.type_list_extend aHr (pv 2) (jA (aBl (pv 4) bw hr vG (jA (jF ck hr (jA (pv 1) (jA (pv 3) jB))) jB)) jB))))) (jD (jJ (pv 2))))),?_⟩;refine⟨gM,fun l hl=>?_⟩;generalize e1:upd H l _=H1;obtain⟨g1,k1⟩:=qB e1 hl;refine⟨_,rfl,aDe (sV (by simp)) (hFF kd hF) hf (ho.same g1) (hw.same g1) hg fun l2 H2 g2 hl2 zq=>?_⟩;obtain⟨tt,k2,zl,pr⟩:=zq;have kl2:=g2 _ _ k1;have n2:l2≠l:=kh (jM k1 hl2);have hw2:=hw.same (g1.trans g2);have bd:=Kd.size_bd hg.sz (by decide) hf;have lens:∀j,(((kd.parts S).take j).flatMap fun f=>un f.2 S (pj p f.1)).length<=6000:=fun j=>by
  have h1:(un kd S p).length<=_:=(hg.kd hf).2 p;rw[Kd.parts_un hg hf (hFF kd hF)]at h1
  conv at h1=>lhs;rw[←nq j (kd.parts S)]
  rw[pe,ξ]at h1;omega
 refine⟨l2,rfl,⟨_,SqL.of k2⟩,xI (xs:=tt.map V.ref) (fun j σ H'=>∃o3 o4,σ = [some (.ref a),some (.str p),some (.ref l),o3,o4]/\But l H2 H'/\UL K H' l (((kd.parts S).take j).flatMap fun f=>un f.2 S (pj p f.1))) ⟨_,_,rfl,But.refl,[],kl2,.nil⟩ (fun j σ H' _ z=>?_) (fun j x σ H' hx z=>?_) (fun σ H' z=>?_)⟩
 ·obtain⟨o3,o4,rfl,g,_⟩:=z;exact SqL.of (g _ _ n2 k2)
 ·obtain⟨o3,o4,rfl,g,us,ku,ur⟩:=z;obtain⟨t,ht,rfl⟩:=qG hx;obtain⟨y,kd',kk,hps,hq,hko⟩:=pr _ _ ht;have hx':=aPn hf hps;obtain⟨p1,p2,p3,p4⟩:=Kd.parts_ok hg hf hk (ι hps);obtain⟨C',dx',fs',sp',m1,m2,m3,m4⟩:=kdU (sV (m:="units_at") (by simp)) p1 p2 (hko.but g kl2) (hw2.but g kl2) hg;have hyl:(pj p y).length<=p.length+7:=by
   have e1:(ζ ".").length=1:=rfl;have p4':y.length<=6:=p4;unfold pj
   split
   ·omega
   ·rw[ki,ki];omega
  refine⟨t,_,rfl,g.tup kl2 hq,rfl,_,_,rfl,_,_,rfl,rfl,_,rfl,.inl ⟨rfl,_,SqL.of ku⟩,_,rfl,kk,C',dx',fs',sp',rfl,m1,m2,m3,_,rfl,_,rfl,p,_,y,rfl,hx',(by omega),(by have p4':y.length<=6:=p4;omega),m4 _ _ _ (by omega) fun l3 H3 g3 hl3 zq=>?_⟩;obtain⟨us3,k3,ur3⟩:=zq;have ku3:=g3 _ _ ku;have h6:=lens (j+1);rw[eI hps,ξ,←ur.len,←ur3.len]at h6;refine⟨l,l3,_,_,rfl,rfl,ku3,k3,(by rw[ic,δ,δ];omega),?_⟩;clear 0 l H4 g4 k4;refine⟨_,_,rfl,(g.trans (But.of g3)).trans g4,us++us3,by rw[τ];exact k4,?_⟩;rw[eI hps];exact((ur.same g3).but g4 ku3).app (ur3.but g4 ku3)
 ·obtain⟨o3,o4,rfl,g,u⟩:=z;rw[δ,zl,kL]at u;refine⟨_,rfl,q l H' (But.from (g1.trans g2) hl g) hl ?_⟩;rw[Kd.parts_un hg hf (hFF kd hF)];exact u
theorem oR(F:Fun K "units" "Shape.units" aP f fd)(ac:j5 cIv (aDg Vb "shape"))(bw:∀C sp,TU (j7 0) K r C sp->aB P w K mg base CX0 k "units_at" C sp):j0 ["self"] (aOv (j7 0) K r):=by
 w_cond oQ;obtain⟨a,i,sa,S,rfl,e,hi,h8,hw,hg,q⟩:=h;refine⟨_,(jD (jJ (aBl (aR Ub ac hr0 rfl vG (jA (pv 0) jB)) bw hr vG (jA jO jB)))),?_⟩;refine⟨_,rfl,fun x dx hx hdx _=>⟨x,dx,.ref a,H,rfl,jR,fC hx hdx,hx,fun H1 g1 k1=>⟨rfl,?_⟩⟩⟩;have hil:i<S.length:=by rw[←hw.1];exact(θ.mp e).1
 obtain⟨C',dx',fs',sp',m1,m2,m3,m4⟩:=kdU (kd:=.nest i) (r:=r) (sV (m:="units_at") (by simp)) hi hil (.nest e k1) (hw.same g1) hg;exact⟨x,C',dx',fs',sp',rfl,m1,m2,m3,m4 _ _ _ (by show 0+8*r<=200;omega) fun l H2 g2 hl u=>q l H2 (g1.trans g2) (g1.free hl) u⟩
theorem pY{k:Nat}(F:Fun K "__init__" "Shape.__init__" bZ f fd):j0 ["self","name","fields"] (aJc (j7 0) K):=by
 w_cond pN;obtain⟨a,dx,fl,nm,ps,fs,sa,H1,rfl,hA,g,h0,hl,hP,hn,q⟩:=h;refine⟨_,(jE (cT (pv 0) (pv 1) rfl) (jD (cT (pv 0) (qA yH rfl M.tuple ug (jA (kR ["field","kind"] [] [] rfl (aRc (pv 2)) rfl trivial trivial (fun _ _ _ _=>(xF (K:=K) (n:=2) rfl rfl (kI (qD rfl) (kI (yT rfl) qR)))) (fun _ _ _ _=>kQ) (fun _ _ _ _=>(kY (jA (pv 0) (jA (pv 1) jB))))) jB)) rfl))),?_⟩;refine⟨_,rfl,_,rfl,a,Ve,dx,[],rfl,hA,Ue.cl,Ue.nd,by decide,?_⟩;have ga:jG H1 (upd H a (.ins Ve dx (cE "name" (.str nm) []))):=g.putn h0;have ka:upd H a (.ins Ve dx (cE "name" (.str nm) [])) a=some (.ins Ve dx [("name",.str nm)]):=jR;generalize upd H a (.ins Ve dx (cE "name" (.str nm) []))=H2 at ga ka;have zl:(ps.map V.ref).length=fs.length:=by rw[δ];exact hP.len
 have turn:∀(j:Nat) (x:V) (ys:List V) (H':Hp) (Pv:Nat->List V->Hp->Prop),Pv=(fun j ys H'=>jG H2 H'/\∃tt:List Addr,ys=tt.map V.ref/\tt.length=j/\FO (j7 0) K H' sa tt (fs.take j))->(ps.map V.ref)[j]?=some x->Pv j ys H'->∃t nm kk,x=.ref t/\SqT K H' t [.str nm,.ref kk]/\∀u,H' u=none->Pv (j+1) (ys++[.ref u]) (upd H' u (.tup [.str nm,.ref kk])):=by
  intro j x ys H' Pv eP hx z;subst eP;obtain⟨g2,tt,rfl,htl,hF⟩:=z;obtain⟨t,ht,rfl⟩:=qG hx;obtain⟨nm',kd,kk,hfs,hq,hko⟩:=hP.get ht;refine⟨t,nm',kk,rfl,g2.tp (ga.tp hq),fun u hu=>?_⟩;generalize e3:upd H' u _=H3;obtain⟨g3,k3⟩:=qB e3 hu;refine⟨g2.trans g3,tt++[u],by rw[τ];rfl,by rw[ξ,htl];rfl,?_⟩;have:=(hF.same g3).snoc (SqT.of k3) (hko.same ((ga.trans g2).trans g3));rw[jk,hfs];exact this
 have fin:∀(ys:List V) (H':Hp),(jG H2 H'/\∃tt:List Addr,ys=tt.map V.ref/\tt.length=(ps.map V.ref).length/\FO (j7 0) K H' sa tt (fs.take (ps.map V.ref).length))->∀p,H' p=none->∀t,upd H' p (.lst ys) t=none->Q .non (upd (upd (upd H' p (.lst ys)) t (.tup ys)) a (.ins Ve dx [("name",.str nm),("fields",.ref t)])):=by
  intro ys H' z p hp t ht;obtain⟨g2,tt,rfl,htl,hF⟩:=z;generalize e3:upd H' p _=H3 at ht;obtain⟨g3,k3⟩:=qB e3 hp;clear 1 t H4 g4 k4 ht;have ka4:H4 a=_:=(g2.trans g3 |>.trans g4) _ _ ka;rw[zl,kL]at hF;have G:jG H1 (upd H4 a (.ins Ve dx [("name",.str nm),("fields",.ref t)])):=(((ga.trans g2).trans g3).trans g4).putn h0;have nta:t≠a:=kh (jM ((g2.trans g3) _ _ ka) ht);refine q t tt _ G jR (SqT.of (by rw[jS nta];exact k4)) ?_;exact FO.insD (hF.same (g3.trans g4)) ka4
 have st:jG H2 H2/\∃tt:List Addr,([]:List V)=tt.map V.ref/\tt.length=0/\FO (j7 0) K H2 sa tt (fs.take 0):=⟨jG.refl _,[],rfl,rfl,by rw[List.take_zero];exact .nil⟩;have lst:∀(H':Hp) (p t:Addr) (ys:List V),(jG H2 H'/\∃tt:List Addr,ys=tt.map V.ref/\tt.length=(ps.map V.ref).length/\FO (j7 0) K H' sa tt (fs.take (ps.map V.ref).length))->H' p=none->upd H' p (.lst ys) t=none->upd (upd H' p (.lst ys)) t (.tup ys) a=some (.ins Ve dx [("name",.str nm)]):=fun H' p t ys z hp ht=>(vP ht _) _ _ ((vP hp _) _ _ (z.1 _ _ ka));refine⟨_,rfl,fl,rfl,?_⟩;rcases hl with hl|hl
 ·refine .inl ⟨⟨_,ga.seq hl⟩,zU (xs:=ps.map V.ref) (fun j ys H'=>jG H2 H'/\∃tt:List Addr,ys=tt.map V.ref/\tt.length=j/\FO (j7 0) K H' sa tt (fs.take j)) st (fun j ys H' _ z=>⟨z.1.seq (ga.seq hl),by obtain⟨_,tt,rfl,hl,_⟩:=z;rw[δ];omega⟩) (kM (by omega)) (fun j x ys H' os ho hx z=>?_) (fun ys H' z p hp=>⟨p,ys,rfl,.inl ⟨SqL.of jR,fun t ht=>⟨_,rfl,a,Ve,dx,_,rfl,lst H' p t ys z hp ht,Ue.cl,Ue.nd,(by show 1<1000;decide),fin ys H' z p hp t ht⟩⟩⟩)⟩;obtain⟨o1,o2,rfl⟩:=mK ho;obtain⟨t,nm',kk,rfl,hq,nxt⟩:=turn j x ys H' _ rfl hx z;exact⟨t,_,rfl,hq,rfl,_,_,rfl,_,_,rfl,rfl,_,rfl,_,rfl,vS,fun u hu=>⟨nxt u hu,[_,_],rfl,rfl⟩⟩
 ·refine .inr ⟨⟨_,ga.tp hl⟩,zH (xs:=ps.map V.ref) (fun j ys H'=>jG H2 H'/\∃tt:List Addr,ys=tt.map V.ref/\tt.length=j/\FO (j7 0) K H' sa tt (fs.take j)) st (fun j ys H' _ z=>⟨z.1.tp (ga.tp hl),by obtain⟨_,tt,rfl,hl,_⟩:=z;rw[δ];omega⟩) (kM (by omega)) (fun j x ys H' os ho hx z=>?_) (fun ys H' z p hp=>⟨p,ys,rfl,.inl ⟨SqL.of jR,fun t ht=>⟨_,rfl,a,Ve,dx,_,rfl,lst H' p t ys z hp ht,Ue.cl,Ue.nd,(by show 1<1000;decide),fin ys H' z p hp t ht⟩⟩⟩)⟩;obtain⟨o1,o2,rfl⟩:=mK ho;obtain⟨t,nm',kk,rfl,hq,nxt⟩:=turn j x ys H' _ rfl hx z;exact⟨t,_,rfl,hq,rfl,_,_,rfl,_,_,rfl,rfl,_,rfl,_,rfl,vS,fun u hu=>⟨nxt u hu,[_,_],rfl,rfl⟩⟩
theorem uW(F:Fun K "is_single" "is_single" dM f fd)(bx:j4 "number_in" (fO K))(af:j4 "is_name" (bJ K)):j0 ["words"] (spSg K):=by
 w_cond wH;obtain⟨a,ws,rfl,hl,hs,q⟩:=h;refine⟨_,(jE (kK (jW qH (jH jX (pv 0) jC) jO) (jD (jJ (vK (qT qH (jK kF rfl M.len iq (jA (pv 0) jB)) jC (vV _)) (vU (qT aEs (jF bx hr (jA (jH jX (pv 0) jC) (jA jC (jA (qW (v:=.int 4) rfl C.MOST_WIDTH ⟨_,rfl⟩) jB)))) bX (vV _)))))) jL) (jD (jJ (vK (qT qH (jK kF rfl M.len iq (jA (pv 0) jB)) jC (vV _)) (vU (jF af hr (jA (jH jX (pv 0) jC) jB))))))),?_⟩;rcases hs with⟨w,w1,w4,rfl⟩|⟨x,hx,rfl⟩
 ·obtain⟨d1,d2,d3,_⟩:=dig (w:=w) (by omega);refine⟨_,rfl,a,_,_,_,rfl,rfl,hl,rfl,rfl,_,rfl,qF ⟨_,rfl,a,_,rfl,.inl hl,rfl,_,rfl,qZ (by simp) ⟨_,rfl,a,_,_,_,rfl,rfl,hl,rfl,.str _,1,4,rfl,.inl ⟨_,rfl,by omega,fun H1 g1=>⟨rfl,?_⟩⟩⟩⟩⟩;rw[d1,show bP (some (w:Int)) 1 4=some (w:Int) from if_pos ⟨by omega,by omega⟩];exact q H1 g1
 ·have hne:=cN hx (y:="num") (by decide);refine⟨_,rfl,a,_,_,_,rfl,rfl,hl,rfl,rfl,_,rfl,qP (by simpa using hne) ⟨_,rfl,a,_,rfl,.inl hl,rfl,_,rfl,qZ (by simp) ⟨_,rfl,a,_,_,_,rfl,rfl,hl,rfl,.str x,rfl,.inl ⟨x,rfl,by have:=(vJ hx).2;omega,fun H1 g1=>?_⟩⟩⟩⟩;rw[hx];exact q H1 g1
theorem aCn(F:Fun K "is_kind" "is_kind" iZ f fd)(bx:j4 "number_in" (fO K))(cg:j4 "is_single" (spSg K))(af:j4 "is_name" (bJ K)):j0 ["words"] (spKd K):=by
 w_cond aEc;obtain⟨a,nm,n,kd,rfl,hl,hf,hn,q⟩:=h;refine⟨_,(jE (kK (jW qH (jH jX (pv 0) jC) jO) (jD (jJ (vK (qT eW (jK kF rfl M.len iq (jA (pv 0) jB)) jC (vV _)) (vK (qT aEs (jF bx hr (jA (jH jX (pv 0) jC) (jA jC (jA (qW (v:=.int 6) rfl C.MOST_COUNT ⟨_,rfl⟩) jB)))) bX (vV _)) (vU (jF cg hr (jA (vI zE (pv 0) (xA jC) xB) jB))))))) jL) (jE (kK (jW qH (jH jX (pv 0) jC) jO) (jD (jJ (vK (gP dL dL (qW (v:=.int 2) rfl C.LEAST_PICKED ⟨_,rfl⟩) (jV zY (jK kF rfl M.len iq (jA (pv 0) jB)) jC) (qW (v:=.int 4) rfl C.MOST_PICKED ⟨_,rfl⟩)) (vU (jK (yK rfl) rfl M.all boot_all (jA (kR ["word"] [] [] rfl (qL (vI zE (pv 0) (xA jC) xB)) rfl trivial trivial (fun _ _ _ _=>(qD rfl)) (fun _ _ _ _=>kQ) (fun _ _ _ _=>(jF af hr (jA (pv 0) jB)))) jB)))))) jL) (jD (jJ (jF cg hr (jA (pv 0) jB)))))),?_⟩;cases kd with
 |num w=>exact⟨_,rfl,a,_,_,_,rfl,rfl,hl,rfl,rfl,_,rfl,jU ⟨_,rfl,a,_,_,_,rfl,rfl,hl,rfl,rfl,_,rfl,jU ⟨_,rfl,a,_,rfl,hl,.inl ⟨w,hf.1,hf.2,rfl⟩,q⟩⟩⟩
 |nest i =>
  have hx:=hn i hf;have h1:=cN hx (y:="row") (by decide);have h2:=cN hx (y:="pick") (by decide);exact⟨_,rfl,a,_,_,_,rfl,rfl,hl,rfl,rfl,_,rfl,qP (by simpa using h1) ⟨_,rfl,a,_,_,_,rfl,rfl,hl,rfl,rfl,_,rfl,qP (by simpa using h2) ⟨_,rfl,a,_,rfl,hl,.inr ⟨_,hx,rfl⟩,q⟩⟩⟩
 |many m k =>
  have hm:=hf.2.1;have hm1:=hf.1;obtain⟨d1,d2,d3,_⟩:=dig (w:=m) (by omega);have hne:=Kd.words_ne nm k;have h0 : 0<(k.words nm).length:=qu.mpr hne;have hl':SqL K H a (V.str (ζ "row")::V.str (ζ (toString (m:Int)))::(k.words nm).map V.str):=hl;refine⟨_,rfl,a,_,_,_,rfl,rfl,hl',at0,rfl,_,rfl,qF ⟨_,rfl,a,_,rfl,.inl hl',_,_,rfl,rfl,_,rfl,qZ (by simp;omega) ⟨_,rfl,a,_,_,_,rfl,rfl,hl',at1,.str _,1,6,rfl,.inl ⟨_,rfl,by omega,fun H1 g1=>⟨rfl,_,rfl,?_⟩⟩⟩⟩⟩;rw[d1,show bP (some (m:Int)) 1 6=some (m:Int) from if_pos ⟨by omega,by omega⟩];refine qZ (by rfl) ⟨_,rfl,_,rfl,a,_,rfl,g1.seq hl,fun p hp=>?_⟩;rw[show zW ((Kd.words nm (.many m k)).map V.str) (some 2) none=(k.words nm).map V.str from aOw _ _ _];clear 1 p H2 g2 k2 hp;refine⟨p,k.words nm,rfl,SqL.of k2,?_,fun H3 g3=>q H3 ((g1.trans g2).trans g3)⟩;rcases hf.2.2 with⟨w,rfl,hw⟩|⟨i,rfl,hi⟩
  ·exact .inl ⟨w,hw.1,hw.2,rfl⟩
  ·exact .inr ⟨_,hn i hi,rfl⟩
 |pick is =>
  have h1:=hf.1;have h2:=hf.2.1;have hl':SqL K H a (V.str (ζ "pick")::(is.map nm).map V.str):=hl;have zl:((is.map nm).map V.str).length=is.length:=by rw[δ,δ]
  refine⟨_,rfl,a,_,_,_,rfl,rfl,hl',at0,rfl,_,rfl,jU ⟨_,rfl,a,_,_,_,rfl,rfl,hl',at0,rfl,_,rfl,qF ⟨_,rfl,a,_,rfl,.inl hl',_,_,rfl,rfl,_,_,rfl,rfl,_,rfl,qZ (by simp;omega) ⟨_,_,rfl,rfl,_,rfl,qZ (by simp;omega) ⟨_,rfl,_,rfl,a,_,rfl,hl',fun p hp=>?_⟩⟩⟩⟩⟩;rw[aBj];clear 1 p H2 g2 k2 hp;refine⟨p,rfl,⟨_,SqL.of k2⟩,vM (xs:=(is.map nm).map V.str) (fun j ys H'=>jG H2 H'/\ys=((is.take j).map fun _=>true).map V.bl) ⟨jG.refl _,rfl⟩ (fun j ys H' _ z=>⟨z.1.seq (SqL.of k2),by rw[z.2,δ,δ,Ω];exact jq _ _⟩) (kM (by omega)) (fun j x ys H' hx z=>?_) (fun ys H' z p hp=>?_)⟩
  ·obtain⟨g,rfl⟩:=z;obtain⟨y,hy,rfl⟩:=yM hx;rw[gu]at hy;cases e:is[j]? with
   |none=>rw[e]at hy;cases hy
   |some i =>
    rw[e]at hy;cases hy;have hx:=hn i (hf.2.2.2 i (ι e));refine⟨_,rfl,.str (nm i),rfl,.inl ⟨_,rfl,by have:=(vJ hx).2;omega,fun H3 g3=>⟨⟨g.trans g3,?_⟩,_,rfl⟩⟩⟩;rw[qE e,hx,τ];rfl
  ·obtain⟨g,rfl⟩:=z;have g3:=vP hp (.lst (((is.take ((is.map nm).map V.str).length).map fun _=>true).map V.bl));refine⟨p,_,rfl,SqL.of jR,?_⟩;rw[show((is.take ((is.map nm).map V.str).length).map fun _=>true).all id=true from ia.mpr fun b hb=>by obtain⟨_,_,rfl⟩:=ib.mp hb;rfl];exact q _ ((g2.trans g).trans g3)
theorem lG(F:Fun K "is_field_line" "is_field_line" yS f fd)(af:j4 "is_name" (bJ K))(fv:j4 "is_kind" (spKd K)):j0 ["words"] (spFl K):=by
 w_cond lQ;obtain⟨a,nm,n,kd,fn,rfl,hl,hfn,hf,hn,q⟩:=h;refine⟨_,(jD (jJ (vK (qT eW (jK kF rfl M.len iq (jA (pv 0) jB)) jC (vV _)) (vK (jF af hr (jA (jH jX (pv 0) jC) jB)) (vU (jF fv hr (jA (vI zE (pv 0) (xA jC) xB) jB))))))),?_⟩;have h0 : 0<(kd.words nm).length:=qu.mpr (Kd.words_ne nm kd);refine⟨_,rfl,a,_,rfl,.inl hl,_,_,rfl,rfl,_,rfl,qZ (by simp;omega) ⟨_,rfl,a,_,_,_,rfl,rfl,hl,at0,.str fn,rfl,.inl ⟨fn,rfl,by have:=(vJ hfn).2;omega,fun H1 g1=>⟨_,rfl,qZ hfn ⟨_,rfl,_,rfl,a,_,rfl,g1.seq hl,fun p hp=>?_⟩⟩⟩⟩⟩;rw[show zW ((fn::kd.words nm).map V.str) (some 1) none=(kd.words nm).map V.str from aBj _ _];clear 1 p H2 g2 k2 hp;exact⟨p,nm,n,kd,rfl,SqL.of k2,hf,hn,fun H3 g3=>q H3 ((g1.trans g2).trans g3)⟩
theorem mW(F:Fun K "shapes_named" "shapes_named" zN f fd)(af:j4 "is_name" (bJ K)):j0 ["words"] (aGc K):=by
 w_cond mP;obtain⟨a,nm,n,kd,fn,rfl,hl,hf,hn,q⟩:=h;refine⟨_,(jD (jJ (kR ["word"] [] [] rfl (qL (vI zE (pv 0) (xA jC) xB)) rfl trivial trivial (fun _ _ _ _=>(qD rfl)) (fun _ _ _ _=>(aMs (kU (jF af hr (jA (pv 0) jB))))) (fun _ _ _ _=>(pv 0))))),?_⟩;obtain⟨w6,w5⟩:=eE hn hf;refine⟨_,rfl,_,rfl,a,_,rfl,hl,fun p hp=>?_⟩;rw[show zW ((fn::kd.words nm).map V.str) (some 1) none=(kd.words nm).map V.str from aBj _ _];clear 1 p H2 g2 k2 hp;refine⟨p,rfl,⟨_,SqL.of k2⟩,vM (xs:=(kd.words nm).map V.str) (fun j ys H'=>jG H2 H'/\ys=(((kd.words nm).take j).filter qC).map V.str) ⟨jG.refl _,rfl⟩ (fun j ys H' hj z=>⟨z.1.seq (SqL.of k2),?_⟩) (kM (by rw[δ];omega)) (fun j x ys H' hx z=>?_) (fun ys H' z l hl=>?_)⟩
 ·rw[z.2,δ];refine Ψ (List.length_filter_le ..) ?_;rw[Ω];exact jq _ _
 ·obtain⟨g,rfl⟩:=z;obtain⟨y,hy,rfl⟩:=yM hx;have hy6:=w6 y (ι hy);refine⟨_,rfl,.str y,rfl,.inl ⟨_,rfl,by omega,fun H3 g3=>⟨_,rfl,yG (fun c=>⟨_,rfl,⟨g.trans g3,?_⟩,_,rfl⟩) (fun c=>⟨⟨g.trans g3,?_⟩,_,rfl⟩)⟩⟩⟩
  ·rw[rY hy,if_pos c,τ];rfl
  ·rw[rY hy,if_neg c,mi]
 ·obtain⟨g,rfl⟩:=z;clear 1 l H3 g3 k3 hl;rw[δ,kL,wB hn hf]at k3;exact q l H3 ((g2.trans g).trans g3) ((g2.trans g).free hl) k3
theorem pO{k:Nat}(F:Fun K "_law_joined" "_law_joined" bQ f fd):j0 ["_law_path","_law_step"] spLJ:=by
 w_cond pZ;obtain⟨p,y,rfl,hp,hy,hy1,q⟩:=h;refine⟨_,(jD (jJ (jV qQ (jV qQ (pv 0) (jV aFb jO (qA mG rfl M.int boot_int (jA (vK (qT lV (pv 0) jO (vV _)) (vU (qT lV (pv 1) jO (vV _)))) jB)))) (pv 1)))),?_⟩;have hye:¬ y=ζ "":=fun z=>by rw[z]at hy1;exact absurd hy1 (by decide)
 have hd:(ζ ".").length=1:=rfl;refine⟨_,rfl,_,rfl,rfl,_,rfl,yG (fun c=>?_) (fun c=>?_)⟩
 ·have hpe:¬ p.length=0:=fun z=>by
   have e:p=ζ "":=Str.ext' (by rw[show p.cps = #[] from Array.eq_empty_of_size_eq_zero z];rfl);rw[e]at c;exact absurd c (by decide)
  refine⟨_,rfl,rfl,_,rfl,_,_,rfl,rfl,?_⟩;rw[show(!decide (V.str y=V.str (ζ "")))=true by simpa using hye];refine⟨.inr rfl,by decide,_,_,rfl,rfl,(by rw[ic,if_pos rfl,if_pos rfl,hd];omega),_,rfl,_,_,rfl,rfl,(by rw[ic,if_pos rfl,if_pos rfl,ki,hd];omega),?_⟩;rw[if_pos rfl,if_pos rfl];unfold pj at q;rw[if_neg hpe]at q;exact q
 ·have hp0:p=ζ "":=by simpa using c
  subst hp0;refine⟨_,rfl,_,_,rfl,rfl,.inl rfl,by decide,_,_,rfl,rfl,(by decide),_,rfl,_,_,rfl,rfl,(by rw[ic,ki];simp only[li,if_false];rw[if_neg (by decide)];show 0+0+y.length<=_;omega),?_⟩;unfold pj at q;rw[if_pos (by decide)]at q;simp only[li,if_false];rw[if_neg (by decide),show ζ "" = Str.empty from rfl,eB,eB];exact q
theorem gV{k:Nat}(F:Fun K "need_new_shape" "need_new_shape" yE f fd):j0 ["told","line","name"] (aOf (j7 0) K):=by
 w_cond iB;obtain⟨tl,x,nm,sa,T,rfl,hl,hw,hne,hnm,hlen,q⟩:=h;refine⟨_,(jE (kK (PW.pt (iS (dC (pv 0) (fun _=>rfl)) (eC (vA (dC (qN (jH jX (pv 0) (gN cF jC)) rfl) (fun _=>rfl)))))) (jD xL) jL) (jE (kK (nC lI (pv 2) (kR ["shape"] [] [] rfl (qL (pv 0)) rfl trivial trivial (fun _ _ _ _=>(qD rfl)) (fun _ _ _ _=>kQ) (fun _ _ _ _=>(nA (K:=K) rfl (pv 0) rfl))) (by with_unfolding_all rfl)) (jD xL) jL) (jD (kK (jW qH (jK kF rfl M.len iq (jA (pv 0) jB)) (qW (v:=.int 8) rfl C.MOST_SHAPES ⟨_,rfl⟩)) (jD xL) jL)))),?_⟩;have zl:(sa.map V.ref).length=T.length:=by rw[δ];exact hw.1
 refine aOt (fun σ' H'=>σ'=[some (.ref tl),some x,some (.str nm)]/\H'=H) (fun σ' H' z=>?_) (fun nx hnx=>?_)
 ·obtain⟨rfl,rfl⟩:=z;refine⟨_,rfl,_,rfl,tl,rfl,⟨_,SqL.of hl⟩,vM (xs:=sa.map V.ref) (fun j ys H2=>H2=H'/\ys=((T.take j).map (·.1)).map V.str) ⟨rfl,rfl⟩ (fun j ys H2 _ z=>⟨by rw[z.1];exact SqL.of hl,by rw[z.2,δ,δ,Ω];exact jq _ _⟩) (kM (by omega)) (fun j x ys H2 hx z=>?_) (fun ys H2 z p hp=>?_)⟩
  ·obtain⟨rfl,rfl⟩:=z;obtain⟨s,hs,rfl⟩:=qG hx;obtain⟨sh,hS,dx,t,ps,k1,_⟩:=hw.at hs;refine⟨_,rfl,s,Ve,_,_,_,rfl,k1,Ue.cl,Ue.nd,rfl,⟨rfl,?_⟩,_,rfl⟩;rw[qE hS,τ];rfl
  ·obtain⟨rfl,rfl⟩:=z;clear 1 p H3 g3 k3 hp;refine⟨p,_,rfl,.inl (SqL.of k3),rfl,eA _,_,rfl,?_⟩;rw[if_neg ο,iJ,zl,kL];refine qP (by rw[decide_eq_false hnm];decide) ⟨_,rfl,tl,_,rfl,.inl (SqL.of (g3 _ _ hl)),rfl,_,rfl,qP (by rw[zl];simp;omega) (q H3 g3)⟩
 ·rcases xw sa with rfl|⟨sa0,z,rfl⟩
  ·exact⟨_,rfl,false,.inl ⟨_,SqL.of hl,rfl⟩,jU (jU (hnx _ _ ⟨rfl,rfl⟩))⟩
  ·rw[xx]at *;obtain⟨s,hS,so⟩:=hw.at (i:=sa0.length) (a:=z) (by rw[gr (μ _),my];rfl);obtain⟨dx,t,ps,k1,k2,k3⟩:=so;have hp:ps≠[]:=fun e=>hne s (ι hS) (mv.mp (by rw[←k3.len,e];rfl));exact⟨_,rfl,true,.inl ⟨_,SqL.of hl,by simp⟩,qZ rfl ⟨_,rfl,_,rfl,tl,_,_,_,rfl,rfl,SqL.of hl,bC _ _,z,Ve,_,_,_,rfl,k1,Ue.cl,Ue.nd,rfl,true,.inr (.inl ⟨_,k2,by cases ps with|nil=>exact absurd rfl hp|cons _ _=>rfl⟩),jU (hnx _ _ ⟨rfl,rfl⟩)⟩⟩
theorem mY{k:Nat}(F:Fun K "whole_shapes" "whole_shapes" zZ f fd):j0 ["told"] (spWh (j7 0) K):=by
 w_cond mU;obtain⟨tl,z,sa,T,s,rfl,hl,hw,hnd,hlen,q⟩:=h;refine⟨_,(jD (jJ (wS ["shape"] [] [] rfl (qL (vI zE (pv 0) xB (xA (gN cF jC)))) rfl trivial trivial (fun _ _ _ _=>(qD rfl)) (fun _ _ _ _=>kQ) (fun _ _ _ _=>(nA (K:=K) rfl (pv 0) rfl)) (fun _ _ _ _=>(pv 0))))),?_⟩;obtain⟨hw0,_⟩:=hw.init;have zl:(sa.map V.ref).length=T.length:=by rw[δ];exact hw0.1
 refine⟨_,rfl,_,rfl,_,rfl,tl,_,rfl,SqL.of hl,fun p hp=>?_⟩;rw[cutC];generalize e2:upd H p _=H2;obtain⟨g2,k2⟩:=qB e2 hp;refine⟨p,rfl,⟨_,SqL.of k2⟩,aEd (xs:=sa.map V.ref) (fun D j ys H'=>jG H2 H'/\H2 D=none/\H' D=some (.dK ys)/\ys=dk (T.take j) (sa.take j)) (fun D hD=>⟨(jG.refl H2).putn hD,hD,jR,rfl⟩) (fun D j ys H' _ z=>z.1.seq (SqL.of k2)) (fun D j x ys H' hx z=>?_) (fun D ys H' z=>?_)⟩
 ·obtain⟨g,hD,kD,rfl⟩:=z;obtain⟨a,ha,rfl⟩:=qG hx;obtain⟨sh,hS,dx,t,ps,k1,_⟩:=hw0.at ha;have hj:=(θ.mp hS).1;have hnk:∀x∈dk (T.take j) (sa.take j),x.1≠(.inr sh.1:Key):=fun x hx e=>by
   obtain⟨u,hu,eu⟩:=aLw x hx;obtain⟨i,hi⟩:=jz.mp hu;have hij:i<j:=by have:=(θ.mp hi).1;rw[Ω]at this;omega
   rw[oe hij]at hi;have e2:kS T i=kS T j:=by rw[vW hi,vW hS];exact qf (eu.symm.trans e)
   have:=aIs hnd (θ.mp hi).1 hj e2;omega
  refine⟨_,rfl,a,Ve,_,_,_,rfl,g _ _ (g2 _ _ k1),Ue.cl,Ue.nd,rfl,_,rfl,.inr sh.1,rfl,kD,?_,?_⟩
  ·have:(dk (T.take j) (sa.take j)).length<=100:=by unfold dk;rw[List.length_zipWith,Ω];omega
   exact mw this (by decide)
  ·rw[iQ hnk];exact⟨⟨g.putn hD,hD,jR,(aLz hS ha).symm⟩,_,rfl⟩
 ·obtain⟨g,hD,kD,rfl⟩:=z;rw[zl,kL,←hw0.1,kL]at kD;exact q D H' (g2.trans g) (g2.free hD) kD
theorem rM(F:Fun K "need_field" "need_field" cJ f fd)(cp:j4 "is_field_line" (spFl K))(cu:j4 "shapes_named" (aGc K))(bb:j4 "whole_shapes" (spWh (j7 0) K)):j0 ["told","line","words"] (spNF (j7 0) K):=by
 w_cond xM;obtain⟨tl,a,z,x,sa,T,s,fn,kd,rfl,hl,hw,hws,hfn,hnew,hs100,hf,hn,hnd,hlen,q⟩:=h;refine⟨_,(jE (kK (PW.pt (zQ (vA (dC (pv 0) (fun _=>rfl))) (xZ (vA (kU (jF cp hr (jA (pv 2) jB))))))) (jD xL) jL) (jE (kK (nC lI (jH jX (pv 2) jC) (kR ["name","kind"] [] [] rfl (fV (qN (jH jX (pv 0) (gN cF jC)) rfl)) rfl trivial trivial (fun _ _ _ _=>(xF (K:=K) (n:=2) rfl rfl (kI (qD rfl) (kI (yT rfl) qR)))) (fun _ _ _ _=>kQ) (fun _ _ _ _=>(pv 0))) (by with_unfolding_all rfl)) (jD xL) jL) (jE (jZ 3 xM.nd (jF cu hr (jA (pv 2) jB))) (jE (xQ jv rfl (aFm rfl M.enumerate (jA (pv 3) jB)) (cO rfl (kI (qV 4 xM.nd) (kI (qV 5 xM.nd) qR))) (jD (kK (nC lI (pv 5) (vI zE (pv 3) xB (xA (pv 4))) (by with_unfolding_all rfl)) (jD xL) jL))) (jD (xQ jv rfl (qL (pv 3)) (qV 5 xM.nd) (jD (kK (aQd (aHp hr.units1 (pv 5) (jF bb hr (jA (pv 0) jB)))) (jD xL) jL)))))))),?_⟩;obtain⟨hw0,dx,t,ps,k1,k2,k3⟩:=hw.init;obtain⟨n1,n4,n2⟩:=aBw hnd hf;have zl:(ps.map V.ref).length=s.2.length:=by rw[δ];exact k3.len
 refine⟨_,rfl,true,.inl ⟨_,SqL.of hl,by simp⟩,jU ⟨_,rfl,a,kS T,T.length,kd,fn,rfl,hws,hfn,hf,hn,fun H1 g1=>⟨_,rfl,jU ?_⟩⟩⟩;refine⟨_,rfl,a,_,_,_,rfl,rfl,g1.seq hws,at0,_,rfl,_,rfl,tl,_,_,_,rfl,rfl,SqL.of (g1 _ _ hl),bC _ _,z,Ve,_,_,_,rfl,(g1 _ _ k1),Ue.cl,Ue.nd,rfl,t,rfl,⟨_,g1.tp k2⟩,zH (xs:=ps.map V.ref) (fun j ys H2=>H2=H1/\ys=((s.2.take j).map (·.1)).map V.str) ⟨rfl,rfl⟩ (fun j ys H2 _ z=>⟨by rw[z.1];exact g1.tp k2,by rw[z.2,δ,δ,Ω];exact jq _ _⟩) (kM (by omega)) (fun j x ys H2 os ho hx z=>?_) (fun ys H2 z p hp=>?_)⟩
 ·obtain⟨rfl,rfl⟩:=z;obtain⟨o1,o2,rfl⟩:=mK ho;obtain⟨u,hu,rfl⟩:=qG hx;obtain⟨nm',kd',kk,hfs,hq,hko⟩:=k3.get hu;refine⟨u,_,rfl,g1.tp hq,rfl,_,_,rfl,_,_,rfl,rfl,_,rfl,⟨rfl,?_⟩,[_,_],rfl,rfl⟩;rw[qE hfs,τ];rfl
 ·obtain⟨rfl,rfl⟩:=z;clear 1 p H3 g3 k4 hp;refine⟨p,_,rfl,.inl (SqL.of k4),rfl,eA _,_,rfl,?_⟩;rw[if_neg ο,iJ,zl,kL];refine qP (by rw[decide_eq_false hnew];decide) ⟨_,rfl,a,kS T,T.length,kd,fn,rfl,g3.seq (g1.seq hws),hf,hn,fun l H4 g4 hl4 k5=>?_⟩;have g14:=(g1.trans g3).trans g4;have zn:((Kd.named (kS T) kd).map V.str).length=(Kd.named (kS T) kd).length:=δ _;refine⟨_,rfl,l,_,rfl,SqL.of k5,aAk (xs:=(Kd.named (kS T) kd).map V.str) (fun i σ H'=>∃o4 o5,σ = [some (.ref tl),some x,some (.ref a),some (.ref l),o4,o5]/\jG H4 H') ⟨_,_,rfl,jG.refl _⟩ (fun i σ H' _ z=>?_) (fun i x σ H' p hx z hp=>?_) (fun σ H' z=>?_)⟩
  ·obtain⟨o4,o5,rfl,g⟩:=z;exact g.seq (SqL.of k5)
  ·obtain⟨o4,o5,rfl,g⟩:=z;obtain⟨y,hy,rfl⟩:=yM hx;have g5:=vP hp (.tup [.int (i:Int),.str y]);have k6:upd H' p (.tup [.int (i:Int),.str y]) p=_:=jR;generalize upd H' p (.tup [.int (i:Int),.str y])=H5 at g5 k6;refine⟨p,_,rfl,SqT.of k6,rfl,_,_,rfl,_,_,rfl,rfl,_,rfl,_,rfl,_,rfl,_,rfl,l,_,rfl,(g.trans g5).seq (SqL.of k5),fun p2 hp2=>?_⟩;rw[cutB];clear 1 p2 H6 g6 k7 hp2;rw[←List.map_take]at k7;refine⟨p2,_,rfl,.inl (SqL.of k7),rfl,eA _,_,rfl,?_⟩;rw[if_neg ο,iJ];refine qP (fun z=>?_) ⟨_,_,rfl,(g.trans g5).trans g6⟩;have hm:y∈(Kd.named (kS T) kd).take i:=of_decide_eq_true z;obtain⟨j,hj⟩:=jz.mp hm;have hji:j<i:=by have:=(θ.mp hj).1;rw[Ω]at this;omega
   rw[oe hji]at hj;obtain⟨a1,b1⟩:=θ.mp hj;obtain⟨a2,b2⟩:=θ.mp hy;exact pq.mp n1 j i a1 a2 hji (b1.trans b2.symm)
  ·obtain⟨o4,o5,rfl,g⟩:=z;refine⟨_,rfl,l,rfl,⟨_,g.seq (SqL.of k5)⟩,xI (xs:=(Kd.named (kS T) kd).map V.str) (fun i σ H'=>∃o4 o5,σ = [some (.ref tl),some x,some (.ref a),some (.ref l),o4,o5]/\jG H4 H') ⟨_,_,rfl,g⟩ (fun i σ H' _ z=>?_) (fun i x σ H' hx z=>?_) (fun σ H' z=>?_)⟩
   ·obtain⟨o4,o5,rfl,g⟩:=z;exact g.seq (SqL.of k5)
   ·obtain⟨o4,o5,rfl,g⟩:=z;obtain⟨y,hy,rfl⟩:=yM hx;obtain⟨j,hj,rfl⟩:=n2 y (ι hy);have hT:T[j]?=some T[j]:=η hj;have hsa:sa[j]?=some (sa[j]'(by rw[hw0.1];exact hj)):=η _;have hv:=aLp hnd hT hsa;rw[←vW hT]at hv;refine⟨_,rfl,_,rfl,tl,z,sa,T,s,rfl,(g14.trans g) _ _ hl,hw.same (g14.trans g),hnd,hlen,fun d H5 g5 hd k6=>⟨d,_,rfl,bB.k (k:=wk (kS T j)) k6,_,rfl,?_⟩⟩;rw[hv];exact qP (by simp) ⟨_,_,rfl,g.trans g5⟩
   ·obtain⟨o4,o5,rfl,g⟩:=z;exact q H' (g14.trans g)
theorem aCj(F:Fun K "kind_in" "kind_in" iO f fd)(cf:j4 "kind_in" (aFd (j7 0) K r))(et:j5 cIu (aDg Va "width"))(ac:j5 cIv (aDg Vb "shape"))(dn:j5 cIx (spI2 Vc "count" "kind"))(dr:j5 cIy (spIT K Vd "shapes")):j0 ["words","shapes"] (aFd (j7 0) K (r+1)):=by
 w_cond aCw;obtain⟨a,d,kd,sa,T,rfl,hlv,hl,hd,hf,hn,hnd,hsl,q⟩:=h;refine⟨_,(jE (kK (jW qH (jH jX (pv 0) jC) jO) (jD (jJ (aR Ua et hr0 rfl vG (jA (qA cA rfl M.int boot_int (jA (jH jX (pv 0) jC) jB)) jB)))) jL) (jE (kK (jW qH (jH jX (pv 0) jC) jO) (jD (jJ (aR Uc dn hr0 rfl vG (jA (qA cA rfl M.int boot_int (jA (jH jX (pv 0) jC) jB)) (jA (jF cf hr (jA (vI zE (pv 0) (xA jC) xB) (jA (pv 1) jB))) jB))))) jL) (jE (kK (jW qH (jH jX (pv 0) jC) jO) (jD (jJ (aR Ud dr hr0 rfl vG (jA (kR ["name"] ["shapes"] [1] rfl (qL (vI zE (pv 0) (xA jC) xB)) rfl ⟨rfl,trivial⟩ ⟨⟨rfl,rfl,rfl,_,rfl⟩,trivial⟩ (fun _ _ _ _=>(qD rfl)) (fun _ _ _ _=>kQ) (fun _ _ _ _=>(bO hr.units1 (pv 1) (pv 0) (fun _ _=>rfl)))) jB)))) jL) (jD (jJ (aR Ub ac hr0 rfl vG (jA (bO hr.units1 (pv 1) (jH jX (pv 0) jC) (fun _ _=>rfl)) jB))))))),?_⟩;have look:∀i,i<T.length->∃s,sa[i]?=some s/\vX (dk T sa) (.inr (kS T i))=some (.ref s):=fun i hi=>by
  have hT:T[i]?=some T[i]:=η hi;have hs:sa[i]?=some (sa[i]'(by omega)):=η _;exact⟨_,hs,by rw[vW hT];exact aLp hnd hT hs⟩
 cases kd with
 |num w =>
  obtain⟨_,d2,_,d4⟩:=dig (w:=w) (by have:=hf.2;omega);exact⟨_,rfl,a,_,_,_,rfl,rfl,hl,rfl,rfl,_,rfl,qF ⟨_,rfl,a,_,_,_,rfl,rfl,hl,rfl,_,_,rfl,d4,by omega,fun x dx hx hdx _=>⟨x,dx,.int w,H,rfl,jR,fC hx hdx,hx,fun H1 g1 k1=>⟨rfl,q x H1 g1 (.num k1)⟩⟩⟩⟩
 |nest i =>
  have hx:=hn i hf;obtain⟨s,hs,hv⟩:=look i hf;exact⟨_,rfl,a,_,_,_,rfl,rfl,hl,rfl,rfl,_,rfl,qP (by simpa using cN hx (y:="num") (by decide)) ⟨_,rfl,a,_,_,_,rfl,rfl,hl,rfl,rfl,_,rfl,qP (by simpa using cN hx (y:="row") (by decide)) ⟨_,rfl,a,_,_,_,rfl,rfl,hl,rfl,rfl,_,rfl,qP (by simpa using cN hx (y:="pick") (by decide)) ⟨_,rfl,_,rfl,a,_,_,_,rfl,rfl,hl,rfl,d,.ref s,rfl,(by rw[←hv];exact bB.k (k:=wk (kS T i)) hd),fun x dx hx hdx _=>⟨x,dx,.ref s,H,rfl,jR,fC hx hdx,hx,fun H1 g1 k1=>⟨rfl,q x H1 g1 (.nest hs k1)⟩⟩⟩⟩⟩⟩
 |many m k =>
  obtain⟨_,d2,_,d4⟩:=dig (w:=m) (by have:=hf.2.1;omega);have hl':SqL K H a (V.str (ζ "row")::V.str (ζ (toString (m:Int)))::(k.words (kS T)).map V.str):=hl;refine⟨_,rfl,a,_,_,_,rfl,rfl,hl',at0,rfl,_,rfl,jU ⟨_,rfl,a,_,_,_,rfl,rfl,hl',at0,rfl,_,rfl,qF ⟨_,rfl,a,_,_,_,rfl,rfl,hl',at1,_,_,rfl,d4,by omega,_,rfl,_,rfl,a,_,rfl,hl',fun p hp=>?_⟩⟩⟩;rw[aOw];clear 1 p H1 g1 k1 hp;have hlk:k.lv=0:=by rcases hf.2.2 with⟨w,rfl,_⟩|⟨i,rfl,_⟩ <;> rfl
  refine⟨_,rfl,p,d,k,sa,T,rfl,(by rw[hlk];have : 1<r+1:=hlv;omega),SqL.of k1,g1 _ _ hd,hf.sub,hn,hnd,hsl,fun b H2 g2 ko=>?_⟩;exact fun x dx hx hdx _=>⟨x,dx,.int m,.ref b,H2,rfl,jR,fC hx hdx,hx,fun H3 g3 k3=>⟨rfl,q x H3 ((g1.trans g2).trans g3) (.many k3 (ko.same g3))⟩⟩
 |pick is =>
  have hl':SqL K H a (V.str (ζ "pick")::(is.map (kS T)).map V.str):=hl;have h2:=hf.2.1;have zl:((is.map (kS T)).map V.str).length=is.length:=by rw[δ,δ]
  refine⟨_,rfl,a,_,_,_,rfl,rfl,hl',at0,rfl,_,rfl,jU ⟨_,rfl,a,_,_,_,rfl,rfl,hl',at0,rfl,_,rfl,jU ⟨_,rfl,a,_,_,_,rfl,rfl,hl',at0,rfl,_,rfl,qF ⟨_,rfl,_,rfl,a,_,rfl,hl',fun p hp=>?_⟩⟩⟩⟩;rw[aBj];clear 1 p H1 g1 k1 hp;refine⟨p,rfl,⟨_,SqL.of k1⟩,vM (xs:=(is.map (kS T)).map V.str) (fun j ys H'=>H'=H1/\∃ss:List Addr,ys=ss.map V.ref/\ss.length=j/\∀(b i:Nat) (s:Addr),is[b]?=some i->ss[b]?=some s->sa[i]?=some s) ⟨rfl,[],rfl,rfl,fun b i s _ z=>by simp at z⟩ (fun j ys H' _ z=>?_) (kM (by omega)) (fun j x ys H' hx z=>?_) (fun ys H' z p2 hp2=>?_)⟩
  ·obtain⟨rfl,ss,rfl,hss,_⟩:=z;exact⟨SqL.of k1,by rw[δ];omega⟩
  ·obtain⟨rfl,ss,rfl,hss,hall⟩:=z;obtain⟨y,hy,rfl⟩:=yM hx;rw[gu]at hy;cases e:is[j]? with
   |none=>rw[e]at hy;cases hy
   |some i =>
    rw[e]at hy;cases hy;obtain⟨s,hs,hv⟩:=look i (hf.2.2.2 i (ι e));refine⟨_,rfl,_,rfl,d,.ref s,rfl,(by rw[←hv];exact bB.k (k:=wk (kS T i)) (g1 _ _ hd)),⟨rfl,ss++[s],by rw[τ];rfl,by rw[ξ,hss];rfl,fun b i' s' hb1 hb2=>?_⟩,_,rfl⟩;rcases bL hb2 with hb2|⟨eb,es⟩
    ·exact hall b i' s' hb1 hb2
    ·rw[eb,hss,e]at hb1;cases hb1;rw[es];exact hs
  ·obtain⟨rfl,ss,rfl,hss,hall⟩:=z;clear 1 p2 H2 g2 k2 hp2;exact fun x dx hx hdx _=>⟨x,dx,p2,_,H2,rfl,jR,fC hx hdx,hx,SqL.of k2,fun t H3 g3 k3 k4=>⟨rfl,q x H3 ((g1.trans g2).trans g3) (.pick k3 k4 (by rw[hss,zl]) hall)⟩⟩
theorem pF(F:Fun K "is_too_much" "is_too_much" aN f fd)(ao:j6 Ve "size" (mE (j7 0) K r sSz))(cy:j6 Ve "units" (aOv (j7 0) K r))(ak:j6 Ve "depth" (mE (j7 0) K r sDp)):j0 ["shape"] (spTM (j7 0) K r):=by
 w_cond oH;obtain⟨a,i,sa,S,rfl,e,hi,h8,hw,hg,⟨b1,b2,b3⟩,q⟩:=h;refine⟨_,(jE (kK (PW.pt (zQ (jW eW (jK kF rfl M.len iq (jA (qN (pv 0) rfl) jB)) (qW (v:=.int 6) rfl C.MOST_FIELDS ⟨_,rfl⟩)) (xZ (jW eW (yI (pv 0) Ue.cl ao hr vG) (qW (v:=.int 64) rfl C.MOST_CELLS ⟨_,rfl⟩))))) (jD (jJ vQ)) jL) (jD (jJ (pe_or (qT eW (jK kF rfl M.len iq (jA (yI (pv 0) Ue.cl cy hr vG) jB)) (qW (v:=.int 40) rfl C.MOST_UNITS ⟨_,rfl⟩) (vV _)) (vU (qT eW (yI (pv 0) Ue.cl ak hr vG) (qW (v:=.int 4) rfl C.MOST_DEPTH ⟨_,rfl⟩) (vV _))))))),?_⟩;obtain⟨s,hS,dx,t,ps,k1,k2,k3⟩:=hw.at e;have h6:=hg.few i s hS;have zl:(ps.map V.ref).length=s.2.length:=by rw[δ];exact k3.len
 refine⟨_,rfl,a,Ve,_,_,_,rfl,k1,Ue.cl,Ue.nd,rfl,t,_,rfl,.inr k2,_,_,rfl,rfl,_,rfl,qP (by rw[zl];simp;omega) ⟨_,rfl,a,dx,_,rfl,k1,rfl,a,i,sa,S,rfl,e,(by omega),hw,hg,fun H1 g1=>⟨_,_,rfl,rfl,_,rfl,qP (by have:sSz i (tabs S)<=64:=b1;simp;omega) ?_⟩⟩⟩;refine⟨_,rfl,a,dx,_,rfl,g1 _ _ k1,rfl,a,i,sa,S,rfl,e,hi,h8,hw.same g1,hg,fun l H2 g2 hl ⟨us,ku,ur⟩=>⟨l,_,rfl,.inl (SqL.of ku),_,_,rfl,rfl,_,rfl,qP (by rw[δ,ur.len];simp;omega) ?_⟩⟩;refine⟨_,rfl,a,dx,_,rfl,g2 _ _ (g1 _ _ k1),rfl,a,i,sa,S,rfl,e,(by omega),hw.same (g1.trans g2),hg,fun H3 g3=>⟨_,_,rfl,rfl,?_⟩⟩
 (try dsimp only)
 rw[decide_eq_false (by have:sDp i (tabs S)<=4:=b3;omega)];exact q H3 ((g1.trans g2).trans g3)
theorem pU(F:Fun K "with_field" "with_field" bN f fd)(cf:j4 "kind_in" (aFd (j7 0) K 2))(bb:j4 "whole_shapes" (spWh (j7 0) K))(bt:j5 cIz (aJc (j7 0) K))(cz:j4 "is_too_much" (spTM (j7 0) K r)):j0 ["told","line","words"] (spWF (j7 0) K r):=by
 w_cond aS;obtain⟨tl,a,z,x,sa,T,s,fn,kd,rfl,hl,hw,hws,hf,hn,hnd,hlen,hr1,h8,hs50,hg,hb,q⟩:=h;refine⟨_,(jE (jZ 3 aS.nd (jF cf hr (jA (vI zE (pv 2) (xA jC) xB) (jA (jF bb hr (jA (pv 0) jB)) jB)))) (jE (jZ 4 aS.nd (aR Ue bt hr0 rfl vG (jA (qN (jH jX (pv 0) (gN cF jC)) rfl) (jA (jV aKn (qN (jH jX (pv 0) (gN cF jC)) rfl) (kY (jA (kY (jA (jH jX (pv 2) jC) (jA (pv 3) jB))) jB))) jB)))) (jE (kK (kU (jF cz hr (jA (pv 4) jB))) (jD xL) jL) (jD (jJ (pv 4)))))),?_⟩;obtain⟨hw0,dx,t,ps,k1,k2,k3⟩:=hw.init;refine⟨_,rfl,_,rfl,a,_,rfl,hws,fun p hp=>?_⟩;rw[show zW ((fn::kd.words (kS T)).map V.str) (some 1) none=(kd.words (kS T)).map V.str from aBj _ _];clear 1 p H1 g1 kp hp;refine⟨_,rfl,tl,z,sa,T,s,rfl,g1 _ _ hl,hw.same g1,hnd,hlen,fun d H2 g2 hd kd2=>?_⟩;refine⟨p,d,kd,sa,T,rfl,(by cases kd <;> simp[Kd.lv]),g2.seq (SqL.of kp),kd2,hf,hn,hnd,hw0.1,fun k H3 g3 ko=>?_⟩;have g13:=(g1.trans g2).trans g3;refine⟨_,rfl,_,rfl,tl,_,_,_,rfl,rfl,SqL.of (g13 _ _ hl),bC _ _,z,Ve,_,_,_,rfl,(g13 _ _ k1),Ue.cl,Ue.nd,rfl,_,rfl,_,rfl,tl,_,_,_,rfl,rfl,SqL.of (g13 _ _ hl),bC _ _,z,Ve,_,_,_,rfl,(g13 _ _ k1),Ue.cl,Ue.nd,rfl,_,rfl,a,_,_,_,rfl,rfl,g13.seq hws,at0,_,rfl,vS,fun u hu=>?_⟩;clear 1 u H4 g4 k4 hu;refine⟨iF,fun v hv=>?_⟩;clear 1 v H5 g5 k5 hv;have hps:ps.length=s.2.length:=k3.len;refine⟨t,v,ps.map V.ref,[.ref u],rfl,rfl,(g4.trans g5).tp (g13.tp k2),SqT.of k5,(by simp),(by rw[ic,δ];simp;omega),fun fl H6 g6 hfl=>?_⟩;have g36:=(g4.trans g5).trans g6;refine fun y dy hy hdy _=>⟨y,dy,fl,s.1,ps++[u],s.2++[(fn,kd)],sa,H6,rfl,jR,fC hy hdy,hy,.inr (by rw[τ];exact hfl),(k3.same (g13.trans g36)).snoc ((g5.trans g6).tp (SqT.of k4)) (ko.same g36),(by rw[ξ];show s.2.length+1<=100;omega),fun t' ps' H7 g7 k7 st fo=>⟨rfl,?_⟩⟩;have gA:=(g13.trans g36).trans g7;have so:SO (j7 0) K H7 sa y (s.1,s.2++[(fn,kd)]):=⟨dy,t',ps',k7,st,fo⟩;have hsw:=(hw0.same gA).snoc so;have hsl:sa.length=T.length:=hw0.1;exact⟨_,rfl,y,T.length,sa++[y],_,rfl,(by rw[←hsl,gr (μ _),my];rfl),hr1,h8,hsw,hg,hb,fun H8 g8=>⟨_,rfl,jU ⟨_,rfl,q y H8 (gA.trans g8) (so.same g8)⟩⟩⟩
theorem oW{k r:Nat}(F:Fun K "read_shapes" "read_shapes" aX f fd)(cq:j4 "is_shape_line" (aOm K))(cm:j4 "need_new_shape" (aOf (j7 0) K))(bt:j5 cIz (aJc (j7 0) K))(dg:j4 "need_field" (spNF (j7 0) K))(dh:j4 "with_field" (spWF (j7 0) K r))(dc:j5 cIw (spIT K Vf "shapes")):j0 ["text"] (spRd (j7 0) Vf K r):=by
 w_cond vL;obtain⟨S,rfl,hW,hne,hr12,h8,q⟩:=h;refine⟨_,(jE (kK (vA (kU (jK pD rfl M.isinstance ie (jA (pv 0) (jA (qI (v:=.ty "str") rfl M.str boot_str rfl) jB))))) (jD xL) jL) (jE (jZ 1 vL.nd (aG rh PySem.F.slot_str_split PySem.F.type_str_split sB (pv 0) (jA jO jB))) (jE (jZ 2 vL.nd (qU jB)) (jE (xQ jv rfl (aFm rfl M.enumerate (jA (pv 1) jB)) (cO rfl (kI (qV 3 vL.nd) (kI (qV 4 vL.nd) qR))) (jE (jZ 5 vL.nd (aG rh PySem.F.slot_str_split PySem.F.type_str_split sB (pv 4) (jA jO jB))) (jD (kK (kU (jF cq hr (jA (pv 5) jB))) (jE (yJ (jF cm hr (jA (pv 2) (jA (pv 3) (jA (jH jX (pv 5) jC) jB))))) (jD (yJ (aG ou qd qe bG (pv 2) (jA (aR Ue bt hr0 rfl vG (jA (jH jX (pv 5) jC) (jA (qU jB) jB))) jB))))) (jE (yJ (jF dg hr (jA (pv 2) (jA (pv 3) (jA (pv 5) jB))))) (jD (uL (jF dh hr (jA (pv 2) (jA (pv 3) (jA (pv 5) jB)))) (sZ (pv 2) (gN cF jC) set_list)))))))) (jE (kK (vA (dC (qN (jH jX (pv 2) (gN cF jC)) rfl) (fun _=>rfl))) (jD xL) jL) (jD (jJ (aR Uf dc hr0 rfl vG (jA (pv 2) jB))))))))),?_⟩;obtain⟨h30,hrow,htl,hsp⟩:=aHx hW hne;have hok:=aEx hW;refine⟨_,rfl,_,_,"str",rfl,by decide,rfl,_,rfl,jU ⟨_,rfl,rfl,_,_,rfl,rfl,rfl,(by rw[ic];omega),fun p hp=>?_⟩⟩;rw[show pz (txt S) (ζ "\n")=_ from hsp];clear 1 p H1 g1 k1 hp;refine⟨gM,fun tl hq=>?_⟩;clear 1 tl H2 g2 k2 hq;have hq0:H tl=none:=g1.free hq;have npt:p≠tl:=jM k1 hq;have k12:=g2 _ _ k1;have zl:(((vB S).map fun it=>je spS (it.line (kS S))).map V.str).length=(vB S).length:=by rw[δ,δ]
 refine⟨_,rfl,p,_,rfl,SqL.of k12,aAk (xs:=((vB S).map fun it=>je spS (it.line (kS S))).map V.str) (fun i σ H'=>∃(o3 o4 o5:Option V) (sa:List Addr) (T:List Shp),σ = [some (.str (txt S)),some (.ref p),some (.ref tl),o3,o4,o5]/\But tl H2 H'/\H' tl=some (.lst (sa.map V.ref))/\SW (j7 0) K H' sa T/\mL S i T) ⟨_,_,_,[],[],rfl,But.refl,k2,SW.nil,mL.start S⟩ (fun i σ H' _ z=>?_) (fun i x σ H' p2 hx z hp2=>?_) (fun σ H' z=>?_)⟩
 ·obtain⟨o3,o4,o5,sa,T,rfl,g,_⟩:=z;exact SqL.of (g _ _ npt k12)
 ·obtain⟨o3,o4,o5,sa,T,rfl,g,kl,hw,hst⟩:=z;obtain⟨row,hrw,rfl⟩:=yM hx;rw[gu]at hrw;cases eit:(vB S)[i]? with
  |none=>rw[eit]at hrw;cases hrw
  |some it =>
  rw[eit]at hrw;cases hrw;have hit:=ι eit;obtain⟨r100,rsp⟩:=hrow it hit;obtain⟨ok1,ok2,ok3⟩:=hok it hit;obtain⟨S1,s,S2,eS,hnx⟩:=hst.next (θ.mp eit).1;clear 1 p2 H3 g3 k3 hp2;refine⟨p2,_,rfl,SqT.of k3,rfl,_,_,rfl,_,_,rfl,rfl,_,rfl,rfl,_,_,rfl,rfl,rfl,(by rw[ic];show(je L2.spS (it.line (kS S))).length+2<=_;omega),fun wa hwa=>?_⟩;rw[show pz (je spS (it.line (kS S))) (ζ " ")=_ from rsp];clear 1 wa H4 g4 k4 hwa;have g34:=g3.trans g4;refine⟨_,rfl,wa,it.line (kS S),rfl,⟨SqL.of k4,fun w hw=>by have:=(ok1 w hw).2;omega,by omega⟩,fun H5 g5=>⟨_,rfl,?_⟩⟩;have g35:=g34.trans g5;have kl5:=g35 _ _ kl;have hw5:=hw.same g35;have kw5:=g5 _ _ k4;have hsS:s∈S:=by rw[eS];exact gq _ (ψ ..)
  have hS1:∀t∈S1,t∈S:=fun t ht=>by rw[eS];exact ke _ ht
  have hlen:=hW.len;have hnd1:(S1.map (·.1)).Nodup/\s.1∉S1.map (·.1):=by
   have:=hW.nd;rw[eS,τ,xq]at this;exact⟨this.1,fun z=>this.2.2 _ z _ (ψ ..) rfl⟩
  have hl1:S1.length<5:=by rw[eS,ξ,gj]at hlen;omega
  rcases hnx with⟨ei,rfl,hst2⟩|⟨f1,n,kd,f2,ef,ei,rfl,hst2⟩
  ·rw[eit]at ei;cases ei;have hnm:=hW.nm s hsS;have hws:SqL K H5 wa [V.str (ζ "shape"),V.str s.1]:=SqL.of kw5;refine qZ (by show(decide (ζ "shape" = ζ "shape")&&qC s.1)=true;rw[hnm];decide) ⟨_,rfl,_,rfl,_,rfl,wa,_,_,_,rfl,rfl,hws,rfl,tl,_,s.1,sa,T,rfl,kl5,hw5,(fun t ht=>?_),hnd1.2,by omega,fun H6 g6=>?_⟩
   ·obtain⟨j,hj⟩:=jz.mp ht;exact hW.good.ne j t (by rw[eS,ig (θ.mp hj).1];exact hj)
   have kl6:=g6 _ _ kl5;refine⟨_,rfl,.inl ⟨rfl,_,SqL.of kl6⟩,_,rfl,wa,_,_,_,rfl,rfl,g6.seq hws,rfl,gM,fun el hel=>?_⟩;clear 1 el H7 g7 k7 hel;refine fun y dy hy hdy _=>⟨y,dy,el,s.1,[],[],sa,H7,rfl,jR,fC hy hdy,hy,.inl (SqL.of k7),.nil,by decide,fun t ps' H8 g8 k8 st fo=>⟨rfl,?_⟩⟩;have g58:=(g6.trans g7).trans g8;have kl8:=g58 _ _ kl5;have hsl:=hw.1;refine⟨tl,_,_,rfl,rfl,kl8,(by rw[δ];exact mw (show sa.length<=5 by omega) (by decide)),?_⟩;clear 0 tl H9 g9 k9;exact⟨_,_,_,sa++[y],_,rfl,(g.trans (But.of (g35.trans g58))).trans g9,by rw[τ];exact k9,((hw5.same g58).snoc (s:=(s.1,[])) ⟨dy,t,ps',k8,st,fo⟩).but g9 kl8,hst2⟩
  ·rw[eit]at ei;cases ei;obtain⟨sa0,z,rfl⟩:=aFi hw.1;have hfm:(n,kd)∈s.2:=by rw[ef];exact gq _ (ψ ..)
   have hnm:=hW.fnm s hsS _ hfm;have hi1:S[S1.length]?=some s:=by rw[eS,gr (μ _),my];rfl
   have hfit:=(hW.good.fit _ _ hi1 _ hfm).1;have hns:NOk (kS S1) S1.length:=aDh fun t ht=>hW.nm t (hS1 t ht);have ew:kd.words (kS S)=kd.words (kS S1):=mD (fun j hj=>by rw[eS];exact aKv hj) hfit.below;have hws:SqL K H5 wa ((n::kd.words (kS S1)).map V.str):=by rw[←ew];exact SqL.of kw5
   obtain⟨pg,pb,p5⟩:=hW.pre (f1:=f1++[(n,kd)]) (f2:=f2) eS (by rw[ef,kj];rfl) (by simp);rw[ξ,lj]at p5;have hfn:n∉f1.map (·.1):=fun z=>by
    have:=hW.fnd s hsS;rw[ef,τ,xq]at this;exact this.2.2 _ z _ (ψ ..) rfl
   refine qP (by rw[show aAn ((Itm.fd n kd).line (kS S))=false from aMh hnm];decide) ⟨_,rfl,_,rfl,_,rfl,tl,wa,z,_,sa0,S1,(s.1,f1),n,kd,rfl,kl5,hw5,hws,hnm,hfn,(by show f1.length<=100;omega),hfit,hns,hnd1.1,by omega,fun H6 g6=>?_⟩;refine⟨_,rfl,_,rfl,_,rfl,tl,wa,z,_,sa0,S1,(s.1,f1),n,kd,rfl,g6 _ _ kl5,hw5.same g6,g6.seq hws,hfit,hns,hnd1.1,by omega,by omega,h8,(by show f1.length<=50;omega),pg,pb,fun y H7 g7 so=>?_⟩;have g57:=g6.trans g7;have kl7:=g57 _ _ kl5;refine⟨_,rfl,_,rfl,tl,_,_,_,rfl,rfl,kl7,aIb _ _,?_⟩;rw[aKg];clear 0 tl H9 g9 k9;exact⟨_,_,_,sa0++[y],_,rfl,(g.trans (But.of (g35.trans g57))).trans g9,k9,((hw5.init.1.same g57).snoc so).but g9 kl7,hst2⟩
 ·obtain⟨o3,o4,o5,sa,T,rfl,g,kl,hw,hst⟩:=z;rw[zl]at hst;have eT:=hst.done;subst eT;have gH:jG H H':=But.from (g1.trans g2) hq0 g;rcases xw T with rfl|⟨T0,s,rfl⟩
  ·exact absurd rfl hne
  ·rw[xx]at *;obtain⟨sa0,z,rfl⟩:=aFi hw.1;obtain⟨hw0,dx,t,ps,m1,m2,m3⟩:=hw.init;have hs:=hW.good.ne T0.length s (by rw[gr (μ _),my];rfl);have hps:ps≠[]:=fun e=>hs (mv.mp (by rw[←m3.len,e];rfl));refine⟨_,rfl,_,rfl,tl,_,_,_,rfl,rfl,SqL.of kl,bC _ _,z,Ve,_,_,_,rfl,m1,Ue.cl,Ue.nd,rfl,true,.inr (.inl ⟨_,m2,by cases ps with|nil=>exact absurd rfl hps|cons _ _=>rfl⟩),jU ⟨_,rfl,?_⟩⟩;exact fun y dy hy hdy _=>⟨y,dy,tl,_,H',rfl,jR,fC hy hdy,hy,SqL.of kl,fun t H3 g3 k3 k4=>⟨rfl,q y dy t _ H3 (gH.trans g3) k3 k4 (hw.same g3)⟩⟩
theorem wQ{k r:Nat}(F:Fun K "_law_size" "_law_size" fZ f fd)(ah:j4 "_law_size" (tJ K vSz r)):j0 ["_law_kind_here","_law_shapes_here"] (tJ K vSz (r+1)):=by
 w_cond aBf;obtain⟨a,sl,kd,S,rfl,hk,hv,hf,hlk,hlx,hg,q⟩:=h;refine⟨_,(jE (kK (jW qH (jH jT (pv 0) jC) jO) (jD (jJ (jH jT (pv 0) jC))) jL) (jE (kK (jW qH (jH jT (pv 0) jC) jO) (jD (jJ (jV yP (jH jT (pv 0) jC) (jF ah hr (jA (jH jT (pv 0) jC) (jA (pv 1) jB)))))) jL) (jE (kK (jW qH (jH jT (pv 0) jC) jO) (jD (jJ (jV qM jC (jK (zI rfl) rfl M.max boot_max (jA (kR ["_law_at"] ["_law_shapes_here"] [1] rfl (qL (jH jT (pv 0) jC)) rfl ⟨rfl,trivial⟩ ⟨⟨rfl,rfl,rfl,_,rfl⟩,trivial⟩ (fun _ _ _ _=>(qD rfl)) (fun _ _ _ _=>kQ) (fun _ _ _ _=>(jF ah hr (jA (kY (jA jO (jA (pv 0) jB))) (jA (pv 1) jB))))) jB))))) jL) (jD (jJ (jK (aAx rfl) rfl M.sum (show lr "sum" = some (.builtin "sum") from by ac_rfl) (jA (kR ["_law_name","_law_inner"] ["_law_shapes_here"] [1] rfl (qL (jH jT (jH jX (pv 1) (jH jT (pv 0) jC)) jC)) rfl ⟨rfl,trivial⟩ ⟨⟨rfl,rfl,rfl,_,rfl⟩,trivial⟩ (fun _ _ _ _=>(xF (K:=K) (n:=2) rfl rfl (kI (qD rfl) (kI (yT rfl) qR)))) (fun _ _ _ _=>kQ) (fun _ _ _ _=>(jF ah hr (jA (pv 1) (jA (pv 2) jB))))) jB))))))),?_⟩;have back : 1<=r->∃r',r=r'+1:=fun h=>⟨r-1,by omega⟩;cases id hlk with
 | @num a w h1=>exact⟨_,rfl,a,_,_,_,rfl,rfl,h1,rfl,rfl,_,rfl,qF ⟨_,rfl,a,_,_,_,rfl,rfl,h1,rfl,q _ (jG.refl _)⟩⟩
 | @many a b n k h1 h2 =>
  have hv' : 1<=r:=hv;obtain⟨r,rfl⟩:=back hv';have hlv:k.lv=0:=by rcases hf.2.2 with⟨w,rfl,_⟩|⟨i,rfl,_⟩ <;> rfl
  refine⟨_,rfl,a,_,_,_,rfl,rfl,h1,rfl,rfl,_,rfl,jU ⟨_,rfl,a,_,_,_,rfl,rfl,h1,rfl,rfl,_,rfl,qF ⟨_,rfl,a,_,_,_,rfl,rfl,h1,rfl,_,rfl,a,_,_,_,rfl,rfl,h1,rfl,_,rfl,b,sl,k,S,rfl,hk.sub,(by omega),hf.sub,h2,hlx,hg,fun H' g=>?_⟩⟩⟩;refine⟨_,_,rfl,rfl,.inl ⟨by have:=hf.2.1;omega,by have:=hf.2.1;omega⟩,?_⟩;have q':=q H' g;rw[show vSz (Kd.many n k) (tabs S)=n*vSz k (tabs S) from rfl,Int.natCast_mul]at q';exact q'
 | @pick a l is h1 h2 =>
  have hs:=hf.1;have hs4:=hf.2.1;have hne:is≠[]:=fun z=>by rw[z]at hs;exact absurd hs (by decide)
  have hr3 : 3<=r:=by
   cases is with
   |nil=>exact absurd rfl hne
   |cons i _=>have:=hk i (ψ ..);omega
  obtain⟨r,rfl⟩:=back (by omega);have zl:(is.map fun n:Nat=>V.int n).length=is.length:=δ _;refine⟨_,rfl,a,_,_,_,rfl,rfl,h1,rfl,rfl,_,rfl,jU ⟨_,rfl,a,_,_,_,rfl,rfl,h1,rfl,rfl,_,rfl,jU ⟨_,rfl,a,_,_,_,rfl,rfl,h1,rfl,rfl,_,rfl,qF ⟨_,rfl,a,_,_,_,rfl,rfl,h1,rfl,l,rfl,⟨_,h2⟩,vM (xs:=is.map fun n:Nat=>V.int n) (fun j ys H'=>jG H H'/\ys=((is.take j).map fun i=>V.int (vSz (.nest i) (tabs S)))) ⟨jG.refl _,rfl⟩ (fun j ys H' _ z=>⟨z.1.seq h2,by rw[z.2,δ,Ω];exact jq _ _⟩) (kM (by omega)) (fun j x ys H' hx z=>?_) (fun ys H' z p hp=>?_)⟩⟩⟩⟩
  ·obtain⟨g,rfl⟩:=z;obtain⟨i,hi,rfl⟩:=oF hx;have him:=ι hi;refine⟨_,rfl,vS,fun t ht=>?_⟩;clear 1 t H3 g3 k3 ht;exact⟨_,rfl,t,sl,.nest i,S,rfl,(by have:=hk i him;show 2*i+2<=r;omega),gw _,hf.2.2.2 i him,.nest (SqT.of k3),hlx.same (g.trans g3),hg,fun H4 g4=>⟨⟨(g.trans g3).trans g4,(qE hi).symm⟩,_,rfl⟩⟩
  ·obtain⟨g,rfl⟩:=z;have g2:=vP hp (.lst ((is.take (is.map fun n:Nat=>V.int n).length).map fun i=>V.int (vSz (.nest i) (tabs S))));have kp:upd H' p (.lst ((is.take (is.map fun n:Nat=>V.int n).length).map fun i=>V.int (vSz (.nest i) (tabs S)))) p=some (.lst (((is.map fun i=>vSz (.nest i) (tabs S)).map fun n:Nat=>(n:Int)).map V.int)):=by
    rw[jR,zl,kL,jf,jf];rfl
   have q':=q _ (g.trans g2);refine⟨p,(is.map fun i=>vSz (.nest i) (tabs S)).map fun n:Nat=>(n:Int),rfl,SqL.of kp,(by simpa using hne),fun m h5 h6=>?_⟩;rw[aHi h5 h6];refine⟨_,_,rfl,rfl,?_⟩;rw[show vSz (Kd.pick is) (tabs S)=1+vZ (is.map fun i=>vSz (.nest i) (tabs S)) from rfl,uq]at q';exact q'
 | @nest a i h1 =>
  have hi:i<S.length:=hf;have hr2 : 2*i+2<=r:=hk;obtain⟨r,rfl⟩:=back (by omega);obtain⟨as,s,l,ps,m1,m2,m3,m4,m5⟩:=hlx.at hi;have hS:S[i]?=some S[i]:=η hi;have hfit:=hg.fit i _ hS;have htab:=fL hS fun f hf=>(hfit f hf).1.below;have zl:(ps.map V.ref).length=S[i].2.length:=by rw[δ];exact m5.len
  refine⟨_,rfl,a,_,_,_,rfl,rfl,h1,rfl,rfl,_,rfl,jU ⟨_,rfl,a,_,_,_,rfl,rfl,h1,rfl,rfl,_,rfl,jU ⟨_,rfl,a,_,_,_,rfl,rfl,h1,rfl,rfl,_,rfl,jU ⟨_,rfl,_,rfl,a,_,_,_,rfl,rfl,h1,rfl,sl,_,_,_,rfl,rfl,m1,zP m2,s,_,_,_,rfl,rfl,m3,rfl,l,rfl,⟨_,m4⟩,zU (xs:=ps.map V.ref) (fun j ys H'=>jG H H'/\ys=((S[i].2.take j).map fun f=>V.int (vSz f.2 (tabs S)))) ⟨jG.refl _,rfl⟩ (fun j ys H' _ z=>⟨z.1.seq m4,by rw[z.2,δ,Ω];exact jq _ _⟩) (kM (by have:=hg.few i _ hS;omega)) (fun j x ys H' os ho hx z=>?_) (fun ys H' z p hp=>?_)⟩⟩⟩⟩
  ·obtain⟨g,rfl⟩:=z;obtain⟨o1,o2,rfl⟩:=mK ho;obtain⟨u,hu,rfl⟩:=qG hx;obtain⟨nm',kd',kk,hfs,ht,hko⟩:=m5.get hu;have hm:=hfit _ (ι hfs);exact⟨u,_,rfl,g.tp ht,rfl,_,_,rfl,_,_,rfl,rfl,_,rfl,_,rfl,kk,sl,kd',S,rfl,hm.1.rk.mono (by omega),(by have:=kd'.lv_le;omega),hm.1.mono (jw hi),hko.same g,hlx.same g,hg,fun H2 g2=>⟨⟨g.trans g2,(qE hfs).symm⟩,[_,_],rfl,rfl⟩⟩
  ·obtain⟨g,rfl⟩:=z;have g2:=vP hp (.lst ((S[i].2.take (ps.map V.ref).length).map fun f=>V.int (vSz f.2 (tabs S))));have kp:upd H' p (.lst ((S[i].2.take (ps.map V.ref).length).map fun f=>V.int (vSz f.2 (tabs S)))) p=some (.lst (((S[i].2.map fun f=>vSz f.2 (tabs S)).map fun n:Nat=>(n:Int)).map V.int)):=by
    rw[jR,zl,kL,jf,jf];rfl
   have q':=q _ (g.trans g2);refine⟨p,(S[i].2.map fun f=>vSz f.2 (tabs S)).map fun n:Nat=>(n:Int),rfl,SqL.of kp,?_⟩;rw[sumI];rw[show vSz (.nest i) (tabs S)=(S[i].2.map fun f=>vSz f.2 (tabs S)).sum from htab.1]at q';exact q'
theorem tW(F:Fun K "_law_depth" "_law_depth" cU f fd)(aq:j4 "_law_depth" (tJ K vDp r)):j0 ["_law_kind_here","_law_shapes_here"] (tJ K vDp (r+1)):=by
 w_cond uI;obtain⟨a,sl,kd,S,rfl,hk,hv,hf,hlk,hlx,hg,q⟩:=h;refine⟨_,(jE (kK (jW qH (jH jT (pv 0) jC) jO) (jD (jJ jC)) jL) (jE (kK (jW qH (jH jT (pv 0) jC) jO) (jD (jJ (jF aq hr (jA (jH jT (pv 0) jC) (jA (pv 1) jB))))) jL) (jE (kK (jW qH (jH jT (pv 0) jC) jO) (jD (jJ (jK (zI rfl) rfl M.max boot_max (jA (kR ["_law_at"] ["_law_shapes_here"] [1] rfl (qL (jH jT (pv 0) jC)) rfl ⟨rfl,trivial⟩ ⟨⟨rfl,rfl,rfl,_,rfl⟩,trivial⟩ (fun _ _ _ _=>(qD rfl)) (fun _ _ _ _=>kQ) (fun _ _ _ _=>(jF aq hr (jA (kY (jA jO (jA (pv 0) jB))) (jA (pv 1) jB))))) jB)))) jL) (jD (jJ (jV qM jC (jK (zI rfl) rfl M.max boot_max (jA (kR ["_law_name","_law_inner"] ["_law_shapes_here"] [1] rfl (qL (jH jT (jH jX (pv 1) (jH jT (pv 0) jC)) jC)) rfl ⟨rfl,trivial⟩ ⟨⟨rfl,rfl,rfl,_,rfl⟩,trivial⟩ (fun _ _ _ _=>(xF (K:=K) (n:=2) rfl rfl (kI (qD rfl) (kI (yT rfl) qR)))) (fun _ _ _ _=>kQ) (fun _ _ _ _=>(jF aq hr (jA (pv 1) (jA (pv 2) jB))))) jB)))))))),?_⟩;have back : 1<=r->∃r',r=r'+1:=fun h=>⟨r-1,by omega⟩;cases id hlk with
 | @num a w h1=>exact⟨_,rfl,a,_,_,_,rfl,rfl,h1,rfl,rfl,_,rfl,qF (q _ (jG.refl _))⟩
 | @many a b n k h1 h2 =>
  have hv' : 1<=r:=hv;obtain⟨r,rfl⟩:=back hv';have hlv:k.lv=0:=by rcases hf.2.2 with⟨w,rfl,_⟩|⟨i,rfl,_⟩ <;> rfl
  refine⟨_,rfl,a,_,_,_,rfl,rfl,h1,rfl,rfl,_,rfl,jU ⟨_,rfl,a,_,_,_,rfl,rfl,h1,rfl,rfl,_,rfl,qF ⟨_,rfl,a,_,_,_,rfl,rfl,h1,rfl,_,rfl,b,sl,k,S,rfl,hk.sub,(by omega),hf.sub,h2,hlx,hg,fun H' g=>?_⟩⟩⟩;exact q H' g
 | @pick a l is h1 h2 =>
  have hs:=hf.1;have hs4:=hf.2.1;have hne:is≠[]:=fun z=>by rw[z]at hs;exact absurd hs (by decide)
  have hr3 : 3<=r:=by
   cases is with
   |nil=>exact absurd rfl hne
   |cons i _=>have:=hk i (ψ ..);omega
  obtain⟨r,rfl⟩:=back (by omega);have zl:(is.map fun n:Nat=>V.int n).length=is.length:=δ _;refine⟨_,rfl,a,_,_,_,rfl,rfl,h1,rfl,rfl,_,rfl,jU ⟨_,rfl,a,_,_,_,rfl,rfl,h1,rfl,rfl,_,rfl,jU ⟨_,rfl,a,_,_,_,rfl,rfl,h1,rfl,rfl,_,rfl,qF ⟨_,rfl,a,_,_,_,rfl,rfl,h1,rfl,l,rfl,⟨_,h2⟩,vM (xs:=is.map fun n:Nat=>V.int n) (fun j ys H'=>jG H H'/\ys=((is.take j).map fun i=>V.int (vDp (.nest i) (tabs S)))) ⟨jG.refl _,rfl⟩ (fun j ys H' _ z=>⟨z.1.seq h2,by rw[z.2,δ,Ω];exact jq _ _⟩) (kM (by omega)) (fun j x ys H' hx z=>?_) (fun ys H' z p hp=>?_)⟩⟩⟩⟩
  ·obtain⟨g,rfl⟩:=z;obtain⟨i,hi,rfl⟩:=oF hx;have him:=ι hi;refine⟨_,rfl,vS,fun t ht=>?_⟩;clear 1 t H3 g3 k3 ht;exact⟨_,rfl,t,sl,.nest i,S,rfl,(by have:=hk i him;show 2*i+2<=r;omega),gw _,hf.2.2.2 i him,.nest (SqT.of k3),hlx.same (g.trans g3),hg,fun H4 g4=>⟨⟨(g.trans g3).trans g4,(qE hi).symm⟩,_,rfl⟩⟩
  ·obtain⟨g,rfl⟩:=z;have g2:=vP hp (.lst ((is.take (is.map fun n:Nat=>V.int n).length).map fun i=>V.int (vDp (.nest i) (tabs S))));have kp:upd H' p (.lst ((is.take (is.map fun n:Nat=>V.int n).length).map fun i=>V.int (vDp (.nest i) (tabs S)))) p=some (.lst (((is.map fun i=>vDp (.nest i) (tabs S)).map fun n:Nat=>(n:Int)).map V.int)):=by
    rw[jR,zl,kL,jf,jf];rfl
   have q':=q _ (g.trans g2);refine⟨p,(is.map fun i=>vDp (.nest i) (tabs S)).map fun n:Nat=>(n:Int),rfl,SqL.of kp,(by simpa using hne),fun m h5 h6=>?_⟩;rw[aHi h5 h6];exact q'
 | @nest a i h1 =>
  have hi:i<S.length:=hf;have hr2 : 2*i+2<=r:=hk;obtain⟨r,rfl⟩:=back (by omega);obtain⟨as,s,l,ps,m1,m2,m3,m4,m5⟩:=hlx.at hi;have hS:S[i]?=some S[i]:=η hi;have hfit:=hg.fit i _ hS;have htab:=fL hS fun f hf=>(hfit f hf).1.below;have zl:(ps.map V.ref).length=S[i].2.length:=by rw[δ];exact m5.len
  refine⟨_,rfl,a,_,_,_,rfl,rfl,h1,rfl,rfl,_,rfl,jU ⟨_,rfl,a,_,_,_,rfl,rfl,h1,rfl,rfl,_,rfl,jU ⟨_,rfl,a,_,_,_,rfl,rfl,h1,rfl,rfl,_,rfl,jU ⟨_,rfl,_,rfl,a,_,_,_,rfl,rfl,h1,rfl,sl,_,_,_,rfl,rfl,m1,zP m2,s,_,_,_,rfl,rfl,m3,rfl,l,rfl,⟨_,m4⟩,zU (xs:=ps.map V.ref) (fun j ys H'=>jG H H'/\ys=((S[i].2.take j).map fun f=>V.int (vDp f.2 (tabs S)))) ⟨jG.refl _,rfl⟩ (fun j ys H' _ z=>⟨z.1.seq m4,by rw[z.2,δ,Ω];exact jq _ _⟩) (kM (by have:=hg.few i _ hS;omega)) (fun j x ys H' os ho hx z=>?_) (fun ys H' z p hp=>?_)⟩⟩⟩⟩
  ·obtain⟨g,rfl⟩:=z;obtain⟨o1,o2,rfl⟩:=mK ho;obtain⟨u,hu,rfl⟩:=qG hx;obtain⟨nm',kd',kk,hfs,ht,hko⟩:=m5.get hu;have hm:=hfit _ (ι hfs);exact⟨u,_,rfl,g.tp ht,rfl,_,_,rfl,_,_,rfl,rfl,_,rfl,_,rfl,kk,sl,kd',S,rfl,hm.1.rk.mono (by omega),(by have:=kd'.lv_le;omega),hm.1.mono (jw hi),hko.same g,hlx.same g,hg,fun H2 g2=>⟨⟨g.trans g2,(qE hfs).symm⟩,[_,_],rfl,rfl⟩⟩
  ·obtain⟨g,rfl⟩:=z;have g2:=vP hp (.lst ((S[i].2.take (ps.map V.ref).length).map fun f=>V.int (vDp f.2 (tabs S))));have kp:upd H' p (.lst ((S[i].2.take (ps.map V.ref).length).map fun f=>V.int (vDp f.2 (tabs S)))) p=some (.lst (((S[i].2.map fun f=>vDp f.2 (tabs S)).map fun n:Nat=>(n:Int)).map V.int)):=by
    rw[jR,zl,kL,jf,jf];rfl
   have q':=q _ (g.trans g2);refine⟨p,(S[i].2.map fun f=>vDp f.2 (tabs S)).map fun n:Nat=>(n:Int),rfl,SqL.of kp,(by simpa using hg.ne i _ hS),fun m h5 h6=>?_⟩;rw[aHi h5 h6];refine⟨_,_,rfl,rfl,?_⟩;rw[show vDp (.nest i) (tabs S)=1+vZ (S[i].2.map fun f=>vDp f.2 (tabs S)) from htab.2.1,uq]at q';exact q'
theorem wF(F:Fun K "_law_units" "_law_units" cY f fd)(bf:j4 "_law_units" (spLU K r))(ah:j4 "_law_size" (tJ K vSz (r+1)))(bu:j4 "_law_joined" spLJ):j0 ["_law_kind_here","_law_shapes_here","_law_path"] (spLU K (r+1)):=by
 w_cond vR;obtain⟨a,sl,p,kd,S,rfl,hp,hk,hv,hf,hlk,hlx,hg,q⟩:=h;refine⟨_,(jE (kK (jW qH (jH jT (pv 0) jC) jO) (jD (jJ (qU (jA (kY (jA (pv 2) (jA (jH jT (pv 0) jC) (jA jO jB)))) jB)))) jL) (jE (kK (jW qH (jH jT (pv 0) jC) jO) (jD (jJ (qU (jA (kY (jA (jF bu hr (jA (pv 2) (jA jO jB))) (jA jC (jA jO jB)))) (jA (kY (jA (pv 2) (jA (jV zY (jF ah hr (jA (pv 0) (jA (pv 1) jB))) jC) (jA jO jB)))) jB))))) jL) (jE (jZ 3 vR.nd (qU jB)) (jE (kK (jW qH (jH jT (pv 0) jC) jO) (jD (xQ jv rfl (qX rfl M.range (jA (jH jT (pv 0) jC) jB)) (qV 4 vR.nd) (jD (jZ 3 vR.nd (jV lJ (pv 3) (jF bf hr (jA (jH jT (pv 0) jC) (jA (pv 1) (jA (jF bu hr (jA (pv 2) (jA (qA bR rfl M.str boot_str (jA (pv 4) jB)) jB))) jB))))))))) (jD (xQ jv rfl (qL (jH jT (jH jX (pv 1) (jH jT (pv 0) jC)) jC)) (cO rfl (kI (qV 5 vR.nd) (kI (qV 6 vR.nd) qR))) (jD (jZ 3 vR.nd (jV lJ (pv 3) (jF bf hr (jA (pv 6) (jA (pv 1) (jA (jF bu hr (jA (pv 2) (jA (pv 5) jB))) jB)))))))))) (jD (jJ (pv 3))))))),?_⟩;have back : 1<=r->∃r',r=r'+1:=fun h=>⟨r-1,by omega⟩;have bd:=Kd.size_bd hg.sz (by decide) hf;have lens:((∃i,kd=.nest i)\/∃n q,kd=.many n q)->∀j,(((kd.parts S).take j).flatMap fun f=>un f.2 S (pj p f.1)).length<=6000:=fun hF j=>by
  have h1:(un kd S p).length<=_:=(hg.kd hf).2 p;rw[Kd.parts_un hg hf hF]at h1
  conv at h1=>lhs;rw[←nq j (kd.parts S)]
  rw[pe,ξ]at h1;omega
 have pjl:∀y:Str,y.length<=6->(pj p y).length<=p.length+7:=fun y hy=>by
  have e1:(ζ ".").length=1:=rfl;unfold pj
  split
  ·omega
  ·rw[ki,ki];omega
 cases id hlk with
 | @num a w h1 =>
  refine⟨_,rfl,a,_,_,_,rfl,rfl,h1,rfl,rfl,_,rfl,qF ⟨_,rfl,_,rfl,a,_,_,_,rfl,rfl,h1,rfl,pC,fun t ht=>?_⟩⟩;generalize e1:upd H t _=H1;obtain⟨g1,k1⟩:=qB e1 ht;refine⟨iF,fun l hl=>?_⟩;clear 1 l H2 g2 k2 hl;exact q l H2 (g1.trans g2) (g1.free hl) ⟨[t],k2,.cons (g2.tp (SqT.of k1)) .nil⟩
 | @pick a l is h1 h2 =>
  refine⟨_,rfl,a,_,_,_,rfl,rfl,h1,rfl,rfl,_,rfl,jU ⟨_,rfl,a,_,_,_,rfl,rfl,h1,rfl,rfl,_,rfl,qF ⟨_,rfl,p,_,rfl,(by omega),(by decide),(by decide),pC,fun t1 ht1=>?_⟩⟩⟩;generalize e1:upd H t1 _=H1;obtain⟨g1,k1⟩:=qB e1 ht1;refine⟨_,rfl,_,rfl,_,rfl,a,sl,.pick is,S,rfl,hk,hv,hf,hlk.same g1,hlx.same g1,hg,fun H2 g2=>⟨_,_,rfl,rfl,pC,fun t2 ht2=>?_⟩⟩;clear 1 t2 H3 g3 k3 ht2;refine⟨vS,fun lf hl=>?_⟩;clear 1 lf H4 g4 k4 hl;have ez:((vSz (Kd.pick is) (tabs S):Nat):Int)-1=((vZ (is.map fun i=>(tabs S).sz.getD i 0):Nat):Int):=by
   rw[show vSz (Kd.pick is) (tabs S)=1+vZ (is.map fun i=>(tabs S).sz.getD i 0) from rfl];omega
  have k3':H3 t2=some (.tup [.str p,.int ((vSz (Kd.pick is) (tabs S):Nat)-1),.str (ζ "pick")]):=k3;rw[ez]at k3';exact q lf H4 (((g1.trans g2).trans g3).trans g4) (((g1.trans g2).trans g3).free hl) ⟨[t1,t2],k4,.cons (((g2.trans g3).trans g4).tp (SqT.of k1)) (.cons (g4.tp (SqT.of k3')) .nil)⟩
 | @many a b n k h1 h2 =>
  have hv' : 1<=r:=hv;obtain⟨r,rfl⟩:=back hv';have hn6:n<=6:=hf.2.1;have hlv:k.lv=0:=by rcases hf.2.2 with⟨w,rfl,_⟩|⟨i,rfl,_⟩ <;> rfl
  refine⟨_,rfl,a,_,_,_,rfl,rfl,h1,rfl,rfl,_,rfl,jU ⟨_,rfl,a,_,_,_,rfl,rfl,h1,rfl,rfl,_,rfl,jU ⟨gM,fun l0 hl0=>?_⟩⟩⟩;generalize e1:upd H l0 _=H1;obtain⟨g1,k1⟩:=qB e1 hl0;refine⟨_,rfl,a,_,_,_,rfl,rfl,g1.tp h1,rfl,rfl,_,rfl,qF ⟨_,rfl,a,_,_,_,rfl,rfl,g1.tp h1,rfl,n,rfl,by omega,by omega,zG (n:=n) (fun j σ H'=>∃(o4 o5 o6:Option V) (lf:Addr),σ = [some (.ref a),some (.ref sl),some (.str p),some (.ref lf),o4,o5,o6]/\jG H H'/\H lf=none/\UL K H' lf ((((Kd.many n k).parts S).take j).flatMap fun f=>un f.2 S (pj p f.1))) ⟨_,_,_,l0,rfl,g1,hl0,[],k1,.nil⟩ (fun j σ H' hj z=>?_) (fun σ H' z=>?_)⟩⟩
  ·obtain⟨o4,o5,o6,lf,rfl,g,hlf,us,ku,ur⟩:=z;have hps:((Kd.many n k).parts S)[j]?=some (ζ (toString j),k):=by
    show((ir n).map _)[j]?=_;rw[gu,qw hj];rfl
   obtain⟨p1,p2,p3,p4⟩:=Kd.parts_ok hg hf hk (ι hps);refine⟨_,rfl,_,rfl,a,_,_,_,rfl,rfl,g.tp h1,rfl,_,rfl,_,rfl,_,rfl,_,rfl,Nat.lt_trans (cM (by omega)) (by decide),p,ζ (toString ((0:Int)+(j:Nat))),rfl,by omega,?_,?_,b,sl,pj p (ζ (toString ((0:Int)+(j:Nat)))),k,S,rfl,?_,p1,by omega,p2,h2.same g,hlx.same g,hg,fun l3 H3 g3 hl3 u3=>?_⟩
   ·rw[sy];exact Ψ p4 (by decide)
   ·rw[sy];exact p3
   ·rw[sy];have:=pjl (ζ (toString j)) p4;show(pj p (ζ (toString j))).length+_<=_;omega
   rw[sy]at u3;obtain⟨us3,k3,ur3⟩:=u3;have ku3:=g3 _ _ ku;have h6:=lens (.inr ⟨_,_,rfl⟩) (j+1);rw[eI hps,ξ,←ur.len,show(un k S (pj p (ζ (toString j)))).length=us3.length from ur3.len.symm]at h6;refine⟨lf,l3,_,_,rfl,rfl,ku3,k3,(by rw[ic,δ,δ];omega),fun l4 hl4=>?_⟩;clear 1 l4 H4 g4 k4 hl4;refine⟨_,_,_,l4,rfl,(g.trans g3).trans g4,(g.trans g3).free hl4,us++us3,by rw[τ];exact k4,?_⟩;rw[eI hps];exact(ur.same (g3.trans g4)).app (ur3.same g4)
  ·obtain⟨o4,o5,o6,lf,rfl,g,hlf,u⟩:=z;refine⟨_,rfl,q lf H' g hlf ?_⟩;rw[Kd.parts_un hg hf (.inr ⟨_,_,rfl⟩)];rw[mh (by show((ir n).map _).length<=n;rw[δ,jo];exact μ _)]at u;exact u
 | @nest a i h1 =>
  have hi:i<S.length:=hf;have hr2 : 2*i+2<=r:=hk;obtain⟨r,rfl⟩:=back (by omega);obtain⟨as,s,l,ps,m1,m2,m3,m4,m5⟩:=hlx.at hi;have hS:S[i]?=some S[i]:=η hi;have ep:(Kd.nest i).parts S=S[i].2:=by show(S.getD i _).2=_;rw[Θ,hS];rfl
  refine⟨_,rfl,a,_,_,_,rfl,rfl,h1,rfl,rfl,_,rfl,jU ⟨_,rfl,a,_,_,_,rfl,rfl,h1,rfl,rfl,_,rfl,jU ⟨gM,fun l0 hl0=>?_⟩⟩⟩;generalize e1:upd H l0 _=H1;obtain⟨g1,k1⟩:=qB e1 hl0;refine⟨_,rfl,a,_,_,_,rfl,rfl,g1.tp h1,rfl,rfl,_,rfl,jU ⟨_,rfl,_,rfl,a,_,_,_,rfl,rfl,g1.tp h1,rfl,sl,_,_,_,rfl,rfl,g1.seq m1,zP m2,s,_,_,_,rfl,rfl,g1.tp m3,rfl,l,rfl,⟨_,g1.seq m4⟩,xI (xs:=ps.map V.ref) (fun j σ H'=>∃(o4 o5 o6:Option V) (lf:Addr),σ = [some (.ref a),some (.ref sl),some (.str p),some (.ref lf),o4,o5,o6]/\jG H H'/\H lf=none/\UL K H' lf ((((Kd.nest i).parts S).take j).flatMap fun f=>un f.2 S (pj p f.1))) ⟨_,_,_,l0,rfl,g1,hl0,[],k1,.nil⟩ (fun j σ H' _ z=>?_) (fun j x σ H' hx z=>?_) (fun σ H' z=>?_)⟩⟩
  ·obtain⟨o4,o5,o6,lf,rfl,g,_⟩:=z;exact g.seq m4
  ·obtain⟨o4,o5,o6,lf,rfl,g,hlf,us,ku,ur⟩:=z;obtain⟨t,ht,rfl⟩:=qG hx;obtain⟨nm',kd',kk,hfs,htt,hko⟩:=m5.get ht;have hps:((Kd.nest i).parts S)[j]?=some (nm',kd'):=by rw[ep];exact hfs
   obtain⟨p1,p2,p3,p4⟩:=Kd.parts_ok hg hf hk (ι hps);have p4':nm'.length<=6:=p4;have:=pjl nm' p4';refine⟨t,_,rfl,g.tp htt,rfl,_,_,rfl,_,_,rfl,rfl,_,rfl,_,rfl,_,rfl,_,rfl,_,rfl,p,nm',rfl,by omega,by omega,p3,kk,sl,pj p nm',kd',S,rfl,by omega,p1,(by have:=kd'.lv_le;omega),p2,hko.same g,hlx.same g,hg,fun l3 H3 g3 hl3 zq=>?_⟩;obtain⟨us3,k3,ur3⟩:=zq;have ku3:=g3 _ _ ku;have h6:=lens (.inl ⟨_,rfl⟩) (j+1);rw[eI hps,ξ,←ur.len,←ur3.len]at h6;refine⟨lf,l3,_,_,rfl,rfl,ku3,k3,(by rw[ic,δ,δ];omega),fun l4 hl4=>?_⟩;clear 1 l4 H4 g4 k4 hl4;refine⟨_,_,_,l4,rfl,(g.trans g3).trans g4,(g.trans g3).free hl4,us++us3,by rw[τ];exact k4,?_⟩;rw[eI hps];exact(ur.same (g3.trans g4)).app (ur3.same g4)
  ·obtain⟨o4,o5,o6,lf,rfl,g,hlf,u⟩:=z;refine⟨_,rfl,q lf H' g hlf ?_⟩;rw[Kd.parts_un hg hf (.inl ⟨_,rfl⟩)];rw[mh (by rw[ep,δ,m5.len];exact μ _)]at u;exact u
theorem aBt{r:Nat}(F:Fun K "_law_fits" "_law_fits" fK f fd)(ah:j4 "_law_size" (tJ K vSz (r+1)))(bf:j4 "_law_units" (spLU K (r+1)))(aq:j4 "_law_depth" (tJ K vDp (r+1))):j0 ["_law_shapes_here"] (aJp K r):=by
 w_cond lU;obtain⟨sl,S,n,rfl,hn,hlx,hg,hr1,h8,q⟩:=h;refine⟨_,(jE (jZ 1 lU.nd (kY (jA jO (jA (jV zY (jK kF rfl M.len iq (jA (pv 0) jB)) jC) jB)))) (jE (kK (PW.pt (zQ (jW eW (jF ah hr (jA (pv 1) (jA (pv 0) jB))) jC) (xZ (jW eW (jK kF rfl M.len iq (jA (jF bf hr (jA (pv 1) (jA (pv 0) (jA jO jB)))) jB)) jC)))) (jD (jJ vQ)) jL) (jD (jJ (qT dL (jF aq hr (jA (pv 1) (jA (pv 0) jB))) jC (vV _)))))),?_⟩;obtain⟨as,ha,hW⟩:=id hlx;have hal:((as.map V.ref).length:Int)-1=((n:Nat):Int):=by rw[δ,hW.len,hn];omega
 refine⟨_,rfl,sl,_,rfl,.inl ha,_,_,rfl,rfl,vS,fun t ht=>?_⟩;clear 1 t H1 g1 k0 ht;have k1:H1 t=some (.tup [.str (ζ "shape"),.int (((as.map V.ref).length:Int)-1)]):=k0;rw[hal]at k1;have hnS:(Kd.nest n).Fit S.length:=by show n<S.length;omega
 have lk:LK K H1 t (.nest n):=.nest (SqT.of k1);refine⟨_,rfl,_,rfl,t,sl,.nest n,S,rfl,hr1,gw _,hnS,lk,hlx.same g1,hg,fun H2 g2=>⟨_,_,rfl,rfl,_,rfl,yG (fun c=>qZ rfl (q false H2 (g1.trans g2) (fun z=>by cases z))) (fun c=>?_)⟩⟩;refine⟨_,rfl,_,rfl,t,sl,Str.empty,.nest n,S,rfl,(by show 0+8*r<=200;omega),hr1,gw _,hnS,lk.same g2,hlx.same (g1.trans g2),hg,fun l H3 g3 hl ⟨us,ku,ur⟩=>⟨l,_,rfl,.inl (SqL.of ku),_,_,rfl,rfl,_,rfl,yG (fun c2=>q false H3 ((g1.trans g2).trans g3) (fun z=>by cases z)) (fun c2=>?_)⟩⟩;refine⟨_,rfl,_,rfl,t,sl,.nest n,S,rfl,hr1,gw _,hnS,lk.same (g2.trans g3),hlx.same ((g1.trans g2).trans g3),hg,fun H4 g4=>⟨_,_,rfl,rfl,?_⟩⟩;refine q _ H4 (((g1.trans g2).trans g3).trans g4) fun c3=>?_;have c1':¬ (64:Int)<((vSz (Kd.nest n) (tabs S):Nat):Int):=fun z=>c (decide_eq_true z);have c2':¬ (40:Int)<(((us.map V.ref).length:Nat):Int):=fun z=>c2 (decide_eq_true z);have c3':((vDp (Kd.nest n) (tabs S):Nat):Int)<=4:=of_decide_eq_true c3;rw[δ,ur.len]at c2';exact⟨by show vSz (Kd.nest n) (tabs S)<=64;omega,by omega,by show vDp (Kd.nest n) (tabs S)<=4;omega⟩
theorem wT{k:Nat}(F:Fun K "_law_kind" "_law_kind" gJ f fd)(aa:j4 "_law_take" cI):j0 ["_law_box_here","_law_known"] (aOg K):=by
 w_cond aH;obtain⟨p,n,xs,rfl,hn8,hs,hpx,hal,q⟩:=h;refine⟨_,(jE (jZ 2 aH.nd (jF aa hr (jA (pv 0) (jA jC jB)))) (jE (jZ 3 aH.nd (jV qM jC (jF aa hr (jA (pv 0) (jA jC jB))))) (jE (kK (PW.pt (zQ (jW iE (pv 2) jC) (xZ (jW qH (pv 1) jC)))) (jD (jJ (jH jX (qU (jA (kY (jA jO (jA (pv 3) jB))) (jA (kY (jA jO (jA (jV qM jC (jF aa hr (jA (pv 0) (jA jC jB)))) (jA (kY (jA jO (jA (pv 3) jB))) jB)))) jB))) (qA mG rfl M.int boot_int (jA (qT qH (pv 2) jC (vV _)) jB))))) jL) (jE (jZ 4 aH.nd (jF aa hr (jA (pv 0) (jA (pv 1) jB)))) (jE (kK (jW iE (pv 2) jC) (jD (jJ (kY (jA jO (jA (pv 4) jB))))) jL) (jE (kK (jW qH (pv 2) jC) (jD (jJ (kY (jA jO (jA (jV qM jC (jF aa hr (jA (pv 0) (jA jC jB)))) (jA (kY (jA jO (jA (pv 4) jB))) jB)))))) jL) (jE (kK (jW qH (pv 1) jC) (jD (jJ (kY (jA jO (jA (pv 3) jB))))) jL) (jD (jJ (kY (jA jO (jA (kR ["_law_k"] ["_law_known","_law_at"] [1,4] rfl (qX rfl M.range (jA (jK (sS rfl) rfl M.min boot_min (jA (pv 1) (jA (jV qM jC (jF aa hr (jA (pv 0) (jA jC jB)))) jB))) jB)) rfl ⟨rfl,⟨rfl,trivial⟩⟩ ⟨⟨rfl,rfl,rfl,_,rfl⟩,⟨⟨rfl,rfl,rfl,_,rfl⟩,trivial⟩⟩ (fun _ _ _ _=>(qD rfl)) (fun _ _ _ _=>kQ) (fun _ _ _ _=>(jV yR (jV qM (pv 2) (pv 0)) (pv 1)))) jB)))))))))))),?_⟩;refine⟨_,rfl,p,8,rfl,by decide,by decide,hs,fun v1 H1 hv1 d1=>⟨_,rfl,p,4,rfl,by decide,by decide,d1.1,fun v2 H2 hv2 d2=>⟨_,_,rfl,rfl,?_⟩⟩⟩;have dd:=d1.trans d2;have al2:=Al.drawn hal dd;have ew:(1:Int)+(v2:Nat)=((1+v2:Nat):Int):=by omega
 have tup:∀{H0 H1:Hp}{t:Addr}{o:HO},Al xs H0->H0 t=none->upd H0 t o=H1->Al xs H1/\jG H0 H1/\offs xs H1 t=some o:=fun al ht e=>by
  obtain⟨g,k⟩:=qB e ht;exact⟨al.same g,g,kN (al.new ht) k⟩
 dsimp only[yZ];refine joinC (decide (v1<3\/n=0)) (H':=H2) ?_ (fun Q' hQ=>?_)
 ·by_cases hc:v1<3\/n=0
  ·refine qZ (decide_eq_true hc) ⟨_,rfl,vS,fun t1 ht1=>?_⟩;generalize e3:upd H2 t1 _=H3;obtain⟨al3,g3,k3⟩:=tup al2 ht1 e3;refine⟨_,rfl,p,6,rfl,by decide,by decide,jG.st3 g3 d2.1,fun v3 H4 hv3 d4=>⟨_,_,rfl,rfl,_,rfl,vS,fun t2 ht2=>?_⟩⟩;have al4:=Al.drawn al3 d4;have k34:=d4.offs hpx _ _ k3;generalize e5:upd H4 t2 _=H5;obtain⟨al5,g5,k5⟩:=tup al4 ht2 e5;refine⟨pC,fun t3 ht3=>?_⟩;generalize e6:upd H5 t3 _=H6;obtain⟨al6,g6,k6⟩:=tup al5 ht3 e6;refine⟨vS,fun l hl=>?_⟩;clear 1 l H7 g7 k7 hl;have D7:Drawn p H H7:=(((dd.keep g3).trans d4).keep ((g5.trans g6).trans g7));have s57:jG (offs xs H5) (offs xs H7):=kH (g6.trans g7);have s67:jG (offs xs H6) (offs xs H7):=kH g7;have s47:jG (offs xs H4) (offs xs H7):=kH ((g5.trans g6).trans g7);rw[ew]at k34 k5;have e3':(1:Int)+(v3:Nat)=((1+v3:Nat):Int):=by omega
   (try dsimp only at k6)
   rw[e3']at k6
   by_cases h2:v1=2
   ·refine⟨_,rfl,rfl,_,rfl,l,_,_,.ref t3,rfl,rfl,SqL.of k7,(by rw[if_pos (by rw[h2];decide)];rfl),q t3 (.many (1+v3) (.num (1+v2))) H7 D7 ⟨by omega,by omega,.inl ⟨1+v2,rfl,by omega,by omega⟩⟩ (.many (SqT.of (s67 _ _ k6)) (.num (SqT.of (s57 _ _ k5))))⟩
   ·refine⟨_,rfl,rfl,_,rfl,l,_,_,.ref t1,rfl,rfl,SqL.of k7,(by rw[if_neg (by simp;omega)];rfl),q t1 (.num (1+v2)) H7 D7 ⟨by omega,by omega⟩ (.num (SqT.of (s47 _ _ k34)))⟩
  ·have hv3 : 3<=v1:=by omega
   have hn0 : 0<n:=by omega
   refine qP (by rw[decide_eq_false hc];decide) ⟨_,rfl,_,rfl,p,n,rfl,by omega,by omega,dd.1,fun v3 H3 hv3' d3=>?_⟩;have d23:=dd.trans d3;have al3:=Al.drawn al2 d3;refine⟨_,rfl,_,_,rfl,rfl,_,rfl,yG (fun c=>?_) (fun c=>?_)⟩
   ·refine⟨_,rfl,vS,fun t ht=>?_⟩;generalize e4:upd H3 t _=H4;obtain⟨al4,g4,k4⟩:=tup al3 ht e4;exact q t (.nest v3) H4 (d23.keep g4) (by show v3<n;omega) (.nest (SqT.of k4))
   ·refine⟨_,rfl,rfl,_,rfl,yG (fun c=>?_) (fun c=>?_)⟩
    ·refine⟨_,rfl,p,6,rfl,by decide,by decide,d3.1,fun v4 H4 hv4 d4=>⟨_,_,rfl,rfl,_,rfl,vS,fun t2 ht2=>?_⟩⟩;have al4:=Al.drawn al3 d4;generalize e5:upd H4 t2 _=H5;obtain⟨al5,g5,k5⟩:=tup al4 ht2 e5;refine⟨pC,fun t3 ht3=>?_⟩;generalize e6:upd H5 t3 _=H6;obtain⟨al6,g6,k6⟩:=tup al5 ht3 e6;have e4':(1:Int)+(v4:Nat)=((1+v4:Nat):Int):=by omega
     (try dsimp only at k6)
     rw[e4']at k6;exact q t3 (.many (1+v4) (.nest v3)) H6 ((d23.trans d4).keep (g5.trans g6)) ⟨by omega,by omega,.inr ⟨v3,rfl,by omega⟩⟩ (.many (SqT.of k6) (.nest (SqT.of (kH g6 _ _ k5))))
    ·refine⟨_,rfl,rfl,_,rfl,yG (fun c=>?_) (fun c=>?_)⟩
     ·refine⟨_,rfl,vS,fun t ht=>?_⟩;generalize e4:upd H3 t _=H4;obtain⟨al4,g4,k4⟩:=tup al3 ht e4;rw[ew]at k4;exact q t (.num (1+v2)) H4 (d23.keep g4) ⟨by omega,by omega⟩ (.num (SqT.of k4))
     ·have hn1:n≠1:=fun z=>c (by rw[z];decide);refine⟨_,rfl,_,rfl,p,3,rfl,by decide,by decide,d3.1,fun v4 H4 hv4 d4=>⟨_,_,rfl,rfl,_,_,rfl,?_⟩⟩;have al4:=Al.drawn al3 d4;obtain⟨m,hm,hm2,hm4,hmn⟩ : ∃m:Nat,(if (2:Int)+(v4:Nat)<(n:Nat) then (2:Int)+(v4:Nat) else (n:Nat))=(m:Nat)/\2<=m/\m<=4/\m<=n:=by
       by_cases z:(2:Int)+(v4:Nat)<(n:Nat)
       ·exact⟨2+v4,by rw[if_pos z];omega,by omega,by omega,by omega⟩
       ·exact⟨n,by rw[if_neg z],by omega,by omega,μ _⟩
      refine⟨_,rfl,(by rw[hm];omega),(by rw[hm];omega),?_⟩;rw[hm];refine xT (n:=m) (fun j ys H'=>H'=H4/\ys=((ir j).map fun k=>(v3+k) % n).map fun i:Nat=>V.int i) ⟨rfl,rfl⟩ (fun j ys H' _ z=>by rw[z.2,δ,δ,jo];exact μ _) (kM (by omega)) (fun j ys H' hj z=>?_) (fun ys H' z l hl=>?_)
      ·obtain⟨rfl,rfl⟩:=z;refine⟨_,rfl,_,rfl,_,_,rfl,rfl,_,rfl,_,_,rfl,rfl,(by show(0:Int)<(n:Nat);omega),⟨rfl,?_⟩,_,rfl⟩;rw[uj,τ,τ]
       congr 1
       show[V.int (((v3:Nat)+(0+(j:Nat))) % (n:Nat))]=[V.int (((v3+j) % n:Nat):Int)]
       congr 2
       rw[sy,←uq]
       first|exact(Int.natCast_emod _ _).symm|exact(Int.ofNat_emod _ _).symm|rfl
      ·obtain⟨rfl,rfl⟩:=z;generalize e5:upd H' l _=H5;obtain⟨al5,g5,k5⟩:=tup al4 hl e5;refine⟨vS,fun t ht=>?_⟩;generalize e6:upd H5 t _=H6;obtain⟨al6,g6,k6⟩:=tup al5 ht e6;refine q t (.pick ((ir m).map fun k=>(v3+k) % n)) H6 ((d23.trans d4).keep (g5.trans g6)) ⟨by rw[δ,jo];exact hm2,by rw[δ,jo];exact hm4,aGt hmn,fun i hi=>?_⟩ (.pick (SqT.of k6) (SqL.of (kH g6 _ _ k5)));obtain⟨k,_,rfl⟩:=ib.mp hi;exact Nat.mod_lt _ hn0
 ·refine⟨_,rfl,_,_,rfl,rfl,_,rfl,yG (fun c=>?_) (fun c=>?_)⟩
  ·have c':(v1:Int)<3:=of_decide_eq_true c;rw[decide_eq_true (show v1<3\/n=0 from .inl (by omega))]at hQ;exact hQ
  ·have c':¬ (v1:Int)<3:=fun z=>c (decide_eq_true z);refine⟨_,rfl,rfl,_,rfl,?_⟩;rw[show decide (V.int (n:Nat)=V.int 0)=decide (v1<3\/n=0) by
    by_cases z:n=0
    ·rw[decide_eq_true (show v1<3\/n=0 from .inr z),z];decide
    ·rw[decide_eq_false (show ¬ (v1<3\/n=0) by omega),decide_eq_false];intro e;injection e with e;omega]
   exact hQ
theorem lB(F:Fun K "_law_kind_text" "_law_kind_text" yO f fd)(az:j4 "_law_kind_text" (spKT K r)):j0 ["_law_kind_here","_law_shapes_here"] (spKT K (r+1)):=by
 w_cond lF;obtain⟨a,sl,kd,S,rfl,hlv,hf,hn,hlk,hlx,q⟩:=h;refine⟨_,(jE (kK (jW qH (jH jT (pv 0) jC) jO) (jD (jJ (jV qQ jO (qA bR rfl M.str boot_str (jA (jH jT (pv 0) jC) jB))))) jL) (jE (kK (jW qH (jH jT (pv 0) jC) jO) (jD (jJ (jV qQ (jV qQ (jV qQ jO (qA bR rfl M.str boot_str (jA (jH jT (pv 0) jC) jB))) jO) (jF az hr (jA (jH jT (pv 0) jC) (jA (pv 1) jB)))))) jL) (jE (kK (jW qH (jH jT (pv 0) jC) jO) (jD (jJ (aG rh xy ya nS jO (jA (jV lJ (qU (jA jO jB)) (kR ["_law_at"] ["_law_shapes_here"] [1] rfl (qL (jH jT (pv 0) jC)) rfl ⟨rfl,trivial⟩ ⟨⟨rfl,rfl,rfl,_,rfl⟩,trivial⟩ (fun _ _ _ _=>(qD rfl)) (fun _ _ _ _=>kQ) (fun _ _ _ _=>(jH (gO K rfl) (jH (aBi K rfl) (pv 1) (pv 0)) jC)))) jB)))) jL) (jD (jJ (jH jT (jH jX (pv 1) (jH jT (pv 0) jC)) jC)))))),?_⟩;have lg:∀i:Nat,i<=9->(((i:Nat):Int)).natAbs.log2<1920:=fun i hi=>Nat.lt_trans (cM (by omega)) (by decide);have jc:∀(x:Str) (ys:List Str),ys≠[]->je L2.spS (x::ys)=x++L2.spS++je L2.spS ys:=fun x ys h=>lM h;obtain⟨w6,w5⟩:=eE hn hf;cases id hlk with
 | @num a w h1 =>
  have hw:w<=4:=hf.2;have d2:=(dig (w:=w) (by omega)).2.1;refine⟨_,rfl,a,_,_,_,rfl,rfl,h1,rfl,rfl,_,rfl,qF ⟨_,rfl,a,_,_,_,rfl,rfl,h1,rfl,_,rfl,lg w (by omega),_,_,rfl,rfl,(by show 4+(ζ (toString ((w:Nat):Int))).length<=χ;rw[d2];decide),?_⟩⟩;have q':=q H (jG.refl _);rw[show(Kd.num w).words (kS S)=[ζ "num",ζ (toString ((w:Nat):Int))] from rfl,jc _ _ (by simp)]at q';exact q'
 | @many a b n k h1 h2 =>
  have hn6:n<=6:=hf.2.1;have d2:=(dig (w:=n) (by omega)).2.1;have hlk0:k.lv=0:=by rcases hf.2.2 with⟨w,rfl,_⟩|⟨i,rfl,_⟩ <;> rfl
  have kl:(je L2.spS (k.words (kS S))).length<=100:=by
   obtain⟨v6,v5⟩:=eE hn hf.sub;have h3:(je L2.spS (k.words (kS S))).length<=_:=nR (c:=32) (m:=6) v6;omega
  refine⟨_,rfl,a,_,_,_,rfl,rfl,h1,rfl,rfl,_,rfl,jU ⟨_,rfl,a,_,_,_,rfl,rfl,h1,rfl,rfl,_,rfl,qF ⟨_,rfl,a,_,_,_,rfl,rfl,h1,rfl,_,rfl,lg n (by omega),_,_,rfl,rfl,(by show 4+(ζ (toString ((n:Nat):Int))).length<=χ;rw[d2];decide),_,_,rfl,rfl,(by rw[ic,ki];show 4+(ζ (toString ((n:Nat):Int))).length+1<=_;omega),_,rfl,a,_,_,_,rfl,rfl,h1,rfl,_,rfl,b,sl,k,S,rfl,(by rw[hlk0];have : 1<r+1:=hlv;omega),hf.sub,hn,h2,hlx,fun H' g=>⟨_,_,rfl,rfl,(by rw[ic,ki,ki];show 4+(ζ (toString ((n:Nat):Int))).length+1+_<=_;omega),?_⟩⟩⟩⟩;have q':=q H' g;rw[show(Kd.many n k).words (kS S)=ζ "row" :: ζ (toString ((n:Nat):Int))::k.words (kS S) from rfl,jc _ _ (by simp),jc _ _ (Kd.words_ne _ _)]at q';rw[vw,vw];rw[vw,vw,←vw (ζ "row")]at q';exact q'
 | @pick a l is h1 h2 =>
  have hs4:=hf.2.1;have zl:(is.map fun n:Nat=>V.int n).length=is.length:=δ _;refine⟨_,rfl,a,_,_,_,rfl,rfl,h1,rfl,rfl,_,rfl,jU ⟨_,rfl,a,_,_,_,rfl,rfl,h1,rfl,rfl,_,rfl,jU ⟨_,rfl,a,_,_,_,rfl,rfl,h1,rfl,rfl,_,rfl,qF ⟨rfl,iF,fun l1 hl1=>?_⟩⟩⟩⟩;clear 1 l1 H1 g1 k1 hl1;refine⟨_,rfl,a,_,_,_,rfl,rfl,g1.tp h1,rfl,l,rfl,⟨_,g1.seq h2⟩,vM (xs:=is.map fun n:Nat=>V.int n) (fun j ys H'=>H'=H1/\ys=((is.take j).map (kS S)).map V.str) ⟨rfl,rfl⟩ (fun j ys H' _ z=>⟨by rw[z.1];exact g1.seq h2,by rw[z.2,δ,δ,Ω];exact jq _ _⟩) (kM (by omega)) (fun j x ys H' hx z=>?_) (fun ys H' z p hp=>?_)⟩
  ·obtain⟨rfl,rfl⟩:=z;obtain⟨i,hi,rfl⟩:=oF hx;have hiS:=hf.2.2.2 i (ι hi);obtain⟨as,s,l',ps,m1,m2,m3,m4,m5⟩:=hlx.at hiS;refine⟨_,rfl,_,rfl,sl,_,_,_,rfl,rfl,g1.seq m1,zP m2,s,_,_,_,rfl,rfl,g1.tp m3,rfl,⟨rfl,?_⟩,_,rfl⟩;rw[qE hi,τ,vW (η hiS)];rfl
  ·obtain⟨rfl,rfl⟩:=z;rw[zl,kL];clear 1 p H2 g2 k2 hp;refine⟨l1,p,_,_,rfl,rfl,g2 _ _ k1,k2,(by rw[ic,δ,δ];simp;omega),fun l3 hl3=>?_⟩;clear 1 l3 H3 g3 k3 hl3;refine⟨_,l3,ζ "pick" :: is.map (kS S),rfl,rfl,SqL.of k3,?_,q H3 ((g1.trans g2).trans g3)⟩;have hsum:((ζ "pick" :: is.map (kS S)).map (·.length)).sum<=(ζ "pick" :: is.map (kS S)).length*6:=lE w6;have hl5:(ζ "pick" :: is.map (kS S)).length<=5:=w5;have h1l:(ζ " ").length=1:=rfl;rw[h1l];omega
 | @nest a i h1 =>
  obtain⟨as,s,l',ps,m1,m2,m3,m4,m5⟩:=hlx.at hf;have q':=q H (jG.refl _);rw[show je L2.spS ((Kd.nest i).words (kS S))=kS S i from rfl,vW (η hf)]at q';exact⟨_,rfl,a,_,_,_,rfl,rfl,h1,rfl,rfl,_,rfl,jU ⟨_,rfl,a,_,_,_,rfl,rfl,h1,rfl,rfl,_,rfl,jU ⟨_,rfl,a,_,_,_,rfl,rfl,h1,rfl,rfl,_,rfl,jU ⟨_,rfl,_,rfl,a,_,_,_,rfl,rfl,h1,rfl,sl,_,_,_,rfl,rfl,m1,zP m2,s,_,_,_,rfl,rfl,m3,rfl,q'⟩⟩⟩⟩
theorem wW(F:Fun K "_law_text" "_law_text" fY f fd)(az:j4 "_law_kind_text" (spKT K 2)):j0 ["_law_shapes_here"] (spTx K):=by
 w_cond xV;obtain⟨sl,S,rfl,hlx,hW,hne,q⟩:=h;refine⟨_,(jE (jZ 1 xV.nd (qU jB)) (jE (xQ jv rfl (qL (pv 0)) (cO rfl (kI (qV 2 xV.nd) (kI (qV 3 xV.nd) qR))) (jE (yJ (aG ou qd qe bG (pv 1) (jA (jV qQ jO (pv 2)) jB))) (jD (xQ jv rfl (qL (pv 3)) (cO rfl (kI (qV 4 xV.nd) (kI (qV 5 xV.nd) qR))) (jD (yJ (aG ou qd qe bG (pv 1) (jA (jV qQ (jV qQ (pv 4) jO) (jF az hr (jA (pv 5) (jA (pv 0) jB)))) jB)))))))) (jD (jJ (aG rh xy ya nS jO (jA (pv 1) jB)))))),?_⟩;obtain⟨as,ha,hLW⟩:=id hlx;obtain⟨h30,hrow,_⟩:=aHx hW hne;have hn:=aDh hW.nm;have jc:∀(x:Str) (ys:List Str),ys≠[]->je L2.spS (x::ys)=x++L2.spS++je L2.spS ys:=fun x ys h=>lM h;refine⟨gM,fun ll hll=>?_⟩;clear 1 ll H1 g1 k1 hll;have zl:(as.map V.ref).length=S.length:=by rw[δ];exact hLW.len
 have few:∀A:List Itm,(∃B,vB S=A++B)->A.length<=40:=fun A ⟨B,e⟩=>by rw[e,ξ]at h30;omega
 refine⟨_,rfl,sl,rfl,⟨_,g1.seq ha⟩,xI (xs:=as.map V.ref) (fun i σ H'=>∃o2 o3 o4 o5,σ = [some (.ref sl),some (.ref ll),o2,o3,o4,o5]/\But ll H1 H'/\H' ll=some (.lst (((vB (S.take i)).map (pR S)).map V.str))) ⟨_,_,_,_,rfl,But.refl,k1⟩ (fun i σ H' _ z=>?_) (fun i x σ H' hx z=>?_) (fun σ H' z=>?_)⟩
 ·obtain⟨o2,o3,o4,o5,rfl,g,_⟩:=z;exact(But.from g1 hll g).seq ha
 ·obtain⟨o2,o3,o4,o5,rfl,g,kl⟩:=z;obtain⟨s,hs,rfl⟩:=qG hx;obtain⟨sh,hS,l,ps,m1,m2,m3⟩:=hLW.get hs;have hsS:=ι hS;have hi:i<S.length:=(θ.mp hS).1;have gH:=But.from g1 hll g;have eS:vB S=vB (S.take i)++(iI sh++vB (S.drop (i+1))):=by
   conv=>lhs;rw[(aBz hS).1]
   rw[zL];rfl
  have hnm:=hW.nm sh hsS;have hsl:=(vJ hnm).2;have l1:=few (vB (S.take i)) ⟨_,eS⟩;refine⟨s,_,rfl,gH.tp m1,rfl,_,_,rfl,_,_,rfl,rfl,_,rfl,.inl ⟨rfl,_,SqL.of kl⟩,_,rfl,_,_,rfl,rfl,(by show 6+sh.1.length<=χ;rw[ic];omega),ll,_,_,rfl,rfl,kl,(by rw[δ,δ];exact mw l1 (by decide)),?_⟩;clear 0 ll H2 g2 k2;have gg2:=g.trans g2;have er:(ζ "shape " ++ sh.1:Str)=pR S (.sh sh.1):=by
   show _=je L2.spS [ζ "shape",sh.1];rw[jc _ _ (by simp)];rfl
  have k2':H2 ll=some (.lst (((vB (S.take i)++(.sh sh.1::(sh.2.take 0).map fun f=>Itm.fd f.1 f.2)).map (pR S)).map V.str)):=by
   rw[k2,τ,τ];show some (HO.lst (_++[V.str (ζ "shape " ++ sh.1)]))=_;rw[er];rfl
  refine⟨_,rfl,l,rfl,⟨_,(But.from g1 hll gg2).seq m2⟩,xI (xs:=ps.map V.ref) (fun j σ H3=>∃o4 o5,σ = [some (.ref sl),some (.ref ll),some (.str sh.1),some (.ref l),o4,o5]/\But ll H1 H3/\H3 ll=some (.lst (((vB (S.take i)++(.sh sh.1::(sh.2.take j).map fun f=>Itm.fd f.1 f.2)).map (pR S)).map V.str))) ⟨_,_,rfl,gg2,k2'⟩ (fun j σ H3 _ z=>?_) (fun j x σ H3 hx z=>?_) (fun σ H3 z=>?_)⟩
  ·obtain⟨o4,o5,rfl,g3,_⟩:=z;exact(But.from g1 hll g3).seq m2
  ·obtain⟨o4,o5,rfl,g3,kl3⟩:=z;obtain⟨t,ht,rfl⟩:=qG hx;obtain⟨nm',kd',kk,hfs,htt,hko⟩:=m3.get ht;have hfm:=ι hfs;have hfit:kd'.Fit S.length:=(hW.good.fit i sh hS _ hfm).1.mono (jw hi);have hfn:=(vJ (hW.fnm sh hsS _ hfm)).2;have hfn':nm'.length<=6:=hfn;have gH3:=But.from g1 hll g3;have hit:Itm.fd nm' kd'∈vB S:=by
    rw[eS];refine gq _ (ke _ (ρ _ ?_));exact ib.mpr ⟨_,hfm,rfl⟩
   have r100:(je L2.spS (nm'::kd'.words (kS S))).length<=100:=(hrow _ hit).1;rw[jc _ _ (Kd.words_ne _ _),ki,ki]at r100;refine⟨t,_,rfl,gH3.tp htt,rfl,_,_,rfl,_,_,rfl,rfl,_,rfl,.inl ⟨rfl,_,SqL.of kl3⟩,_,rfl,_,_,rfl,rfl,(by show nm'.length+1<=χ;rw[ic];omega),_,rfl,_,rfl,kk,sl,kd',S,rfl,(by have:=kd'.lv_le;omega),hfit,hn,hko.same gH3,hlx.same gH3,fun H4 g4=>⟨_,_,rfl,rfl,(by rw[ic,ki];show nm'.length+1+_<=_;have:L2.spS.length=1:=rfl;omega),?_⟩⟩;have kl4:=g4 _ _ kl3;have l2:(vB (S.take i)++(.sh sh.1::(sh.2.take j).map fun f=>Itm.fd f.1 f.2)).length<=40:=few _ ⟨((sh.2.drop j).map fun f=>Itm.fd f.1 f.2)++vB (S.drop (i+1)),by
    rw[eS];unfold iI
    conv=>lhs;rw[←nq j sh.2]
    rw[τ];simp only[kj,oo]⟩
   refine⟨ll,_,_,rfl,rfl,kl4,(by rw[δ,δ];exact mw l2 (by decide)),?_⟩;clear 0 ll H5 g5 k5;refine⟨_,_,rfl,(g3.trans (But.of g4)).trans g5,?_⟩;rw[k5,qE hfs,←oo,←kj,τ (l₂:=[Itm.fd nm' kd']),τ (l₂:=List.map (pR S) [Itm.fd nm' kd'])];have er2:(nm'++ζ " " ++ je L2.spS (kd'.words (kS S)):Str)=pR S (.fd nm' kd'):=by
    show _=je L2.spS (nm'::kd'.words (kS S));rw[jc _ _ (Kd.words_ne _ _)];rfl
   show some (HO.lst (_++[V.str (nm'++ζ " " ++ je L2.spS (kd'.words (kS S)))]))=_;rw[er2];rfl
  ·obtain⟨o4,o5,rfl,g3,kl3⟩:=z;refine⟨_,_,_,_,rfl,g3,?_⟩;rw[kl3,δ,m3.len,kL];have e6:S.take (i+1)=S.take i++[sh]:=by rw[jk,hS];rfl
   rw[e6,zL,show vB [sh]=iI sh from qz ..];rfl
 ·obtain⟨o2,o3,o4,o5,rfl,g,kl⟩:=z;rw[zl,kL]at kl;refine⟨rfl,_,rfl,_,ll,(vB S).map (pR S),rfl,rfl,SqL.of kl,?_,?_⟩
  ·have hsum:(((vB S).map (pR S)).map (·.length)).sum<=((vB S).map (pR S)).length*100:=lE fun w hw=>by
    obtain⟨it,hit,rfl⟩:=ib.mp hw;exact(hrow it hit).1
   have h1l:(ζ "\n").length=1:=rfl;rw[δ]at hsum;rw[h1l,δ];omega
  ·have q':=q H' (But.from g1 hll g);rw[aIa]at q';exact q'
theorem wD(F:Fun K "_law_names" "_law_names" dO f fd)(aa:j4 "_law_take" cI):j0 ["_law_box_here"] (aOo K):=by
 w_cond yB;obtain⟨p,rfl,hs,q⟩:=h;refine⟨_,(PSx.h (kW (xC (jZ 1 yB.nd (jF aa hr (jA (pv 0) (jA jC jB))))) (kW (xC (jZ 2 yB.nd (jF aa hr (jA (pv 0) (jA jC jB))))) (kW (yA (jW qH (pv 1) jC) (kW (aGs (i:=3) yB.nd rfl (Or.inr rfl) (zF (jP (jY jO) (jP (jY jO) (jP (jY jO) (jP (jY jO) (jP (jY jO) (jP (jY jO) (jP (jY jO) (jP (jY jO) (jP (jY jO) (jP (jY jO) (jP (jY jO) (jP (jY jO) vH kP) kP) kP) kP) kP) kP) kP) kP) kP) kP) kP) kP))) (vC (xD (jY (kR ["_law_k"] ["_law_words","_law_at"] [3,2] rfl (qX rfl M.range (jA jC jB)) rfl ⟨rfl,⟨rfl,trivial⟩⟩ ⟨⟨rfl,rfl,rfl,_,rfl⟩,⟨⟨rfl,rfl,rfl,_,rfl⟩,trivial⟩⟩ (fun _ _ _ _=>(qD rfl)) (fun _ _ _ _=>kQ) (fun _ _ _ _=>(jV qQ (jH (aBi K rfl) (pv 1) (jV yR (jV qM (pv 2) (pv 0)) jC)) jO))))))) jL) (kW (yA (jW qH (pv 1) jC) (kW (xC (jZ 4 yB.nd (aG rh xy ya nS jO (jA (kR ["_law_k"] ["_law_box_here"] [0] rfl (qX rfl M.range (jA (jF aa hr (jA (pv 0) (jA jC jB))) jB)) rfl ⟨rfl,trivial⟩ ⟨⟨rfl,rfl,rfl,_,rfl⟩,trivial⟩ (fun _ _ _ _=>(qD rfl)) (fun _ _ _ _=>kQ) (fun _ _ _ _=>(jH aCv jO (jF aa hr (jA (pv 1) (jA jC jB)))))) jB)))) (vC (xD (jY (kR ["_law_k"] ["_law_tail","_law_at"] [4,2] rfl (qX rfl M.range (jA jC jB)) rfl ⟨rfl,⟨rfl,trivial⟩⟩ ⟨⟨rfl,rfl,rfl,_,rfl⟩,⟨⟨rfl,rfl,rfl,_,rfl⟩,trivial⟩⟩ (fun _ _ _ _=>(qD rfl)) (fun _ _ _ _=>kQ) (fun _ _ _ _=>(jV qQ (jV qQ (jH aCv jO (jV yR (jV qM (pv 2) (pv 0)) jC)) (pv 1)) jO))))))) jL) (vC (xD (jY (jV lJ (kR ["_law_k"] ["_law_at"] [2] rfl (qX rfl M.range (jA jC jB)) rfl ⟨rfl,trivial⟩ ⟨⟨rfl,rfl,rfl,_,rfl⟩,trivial⟩ (fun _ _ _ _=>(qD rfl)) (fun _ _ _ _=>kQ) (fun _ _ _ _=>(vI aOb jO xB (xA (jV qM jC (jV yR (jV qM (pv 1) (pv 0)) jC)))))) (qU (jA jO (jA jO (jA jO (jA jO (jA jO (jA jO jB kP) kP) kP) kP) kP) kP))))))))))),?_⟩;refine⟨_,rfl,p,3,rfl,by decide,by decide,hs,fun v1 H1 hv1 d1=>⟨_,rfl,p,12,rfl,by decide,by decide,d1.1,fun v2 H2 hv2 d2=>?_⟩⟩;have dd:=d1.trans d2;have h12:v2<12:=by omega
 refine⟨_,rfl,rfl,_,rfl,yG (fun c=>?_) (fun c=>?_)⟩
 ·refine⟨(by show 12<=χ;decide),fun l0 hl0=>?_⟩;clear 1 l0 H3 g3 k3 hl0;have k3':H3 l0=some (.lst (w0L.map V.str)):=k3;refine⟨12,rfl,by decide,by decide,xT (n:=12) (fun j ys H'=>H'=H3/\ys=((ir j).map fun k=>(w0L.getD ((v2+k) % 12) Str.empty)++ζ "q").map V.str) ⟨rfl,rfl⟩ (fun j ys H' _ z=>by rw[z.2,δ,δ,jo];exact μ _) (by decide) (fun j ys H' hj z=>?_) (fun ys H' z l hl=>?_)⟩
  ·obtain⟨rfl,rfl⟩:=z;have hlt:(v2+j) % 12<w0L.length:=Nat.mod_lt _ (by decide);have hw:w0L[(v2+j) % 12]?=some (w0L.getD ((v2+j) % 12) Str.empty):=by rw[Θ,η hlt];rfl
   have hlen:∀i:Fin 12,(w0L.getD i.val Str.empty).length<=5:=by ac_rfl
   have hl5:=hlen ⟨(v2+j) % 12,hlt⟩;refine⟨_,rfl,_,rfl,_,rfl,_,_,rfl,rfl,_,_,rfl,rfl,(by show(0:Int)<12;decide),l0,_,_,_,rfl,rfl,SqL.of k3',(by rw[show(((v2:Nat):Int)+((0:Int)+(j:Nat))) % 12=(((v2+j) % 12:Nat):Int) from modc (n:=12)];exact fE hw),_,_,rfl,rfl,(by rw[ic];have:(ζ "q").length=1:=rfl;have h5:(w0L.getD ((v2+j) % 12) Str.empty).length<=5:=hl5;omega),⟨rfl,?_⟩,_,rfl⟩;rw[uj,τ,τ];rfl
  ·obtain⟨rfl,rfl⟩:=z;clear 1 l H4 g4 k4 hl;exact q l (nm0 v2) H4 (dd.keep (g3.trans g4)) (dd.free (g3.free hl)) k4 (aQc h12) (nm0_c h12)
 ·refine⟨_,rfl,rfl,_,rfl,yG (fun c=>?_) (fun c=>?_)⟩
  ·refine⟨rfl,_,rfl,p,5,rfl,by decide,by decide,d2.1,fun v3 H3 hv3 d3=>⟨v3,rfl,by omega,by omega,xT (n:=v3) (fun j ys H'=>Drawn p H3 H'/\∃cs:List Nat,ys=cs.map (fun c=>V.str ⟨#[c]⟩)/\cs.length=j/\∀c∈cs,97<=c/\c<=122) ⟨Drawn.refl d3.1,[],rfl,rfl,fun c hc=>by cases hc⟩ (fun j ys H' _ z=>?_) (kM (by omega)) (fun j ys H' hj z=>?_) (fun ys H' z l hl=>?_)⟩⟩
   ·obtain⟨_,cs,rfl,hcl,_⟩:=z;rw[δ];omega
   ·obtain⟨d4,cs,rfl,hcl,hcs⟩:=z;refine⟨_,rfl,p,13,rfl,by decide,by decide,d4.1,fun v5 H5 hv5 d5=>?_⟩;have hz:∀i:Fin 13,∃c,(ζ "abdeilmnorstu").cps.toList[i.val]?=some c/\97<=c/\c<=122:=fun i=>by
     have:∀i:Fin 13,97<=(ζ "abdeilmnorstu").cps.toList.getD i.val 0/\(ζ "abdeilmnorstu").cps.toList.getD i.val 0<=122:=by ac_rfl
     have hl13:i.val<(ζ "abdeilmnorstu").cps.toList.length:=Γ i.isLt (by decide);have e:(ζ "abdeilmnorstu").cps.toList[i.val]?=some ((ζ "abdeilmnorstu").cps.toList.getD i.val 0):=by rw[Θ,η hl13];rfl
     exact⟨_,e,this i⟩
    obtain⟨c',hc1,hc2⟩:=hz ⟨v5,by omega⟩;refine⟨_,_,c',rfl,rfl,by decide,xP hc1,⟨d4.trans d5,cs++[c'],by rw[τ];rfl,by rw[ξ,hcl];rfl,fun x hx=>?_⟩,_,rfl⟩;rcases iz.mp hx with hx|hx
    ·exact hcs x hx
    ·rw[Φ.mp hx];exact hc2
   ·obtain⟨d4,cs,rfl,hcl,hcs⟩:=z;clear 1 l H5 g5 k5 hl;have hcl4:cs.length<=4:=by omega
    have dd5:=(dd.trans (d3.trans d4)).keep g5;have k5':H5 l=some (.lst ((cs.map fun c=>(⟨#[c]⟩ : Str)).map V.str)):=by rw[k5,jf];rfl
    refine⟨_,l,cs.map fun c=>⟨#[c]⟩,rfl,rfl,SqL.of k5',?_,?_⟩
    ·rw[jf,δ];have:(cs.map ((fun x:Str=>x.length)∘fun c=>(⟨#[c]⟩ : Str))).sum<=cs.length*1:=lE fun c hc=>μ _;have h0:(ζ "").length=0:=rfl;rw[h0];omega
    ·have tc:=wO cs;generalize je (ζ "") (cs.map fun c=>(⟨#[c]⟩ : Str))=tl at tc;have htl:tl.length=cs.length:=by rw[←tc];exact(jb).symm
     refine⟨12,rfl,by decide,by decide,xT (n:=12) (fun j ys H'=>H'=H5/\ys=((ir j).map fun k=>(⟨#[c1 v2 k]⟩ : Str)++tl++ζ "x").map V.str) ⟨rfl,rfl⟩ (fun j ys H' _ z=>by rw[z.2,δ,δ,jo];exact μ _) (by decide) (fun j ys H' hj z=>?_) (fun ys H' z l hl=>?_)⟩
     ·obtain⟨rfl,rfl⟩:=z;have hlt:(v2+j) % 12<c1L.cps.toList.length:=Γ (Nat.mod_lt _ (by decide)) (by decide);have hw:c1L.cps.toList[(v2+j) % 12]?=some (c1 v2 j):=by unfold c1;rw[Θ,η hlt];rfl
      refine⟨_,rfl,_,rfl,_,_,rfl,rfl,_,_,rfl,rfl,(by show(0:Int)<12;decide),_,_,c1 v2 j,rfl,rfl,by decide,(by rw[show(((v2:Nat):Int)+((0:Int)+(j:Nat))) % 12=(((v2+j) % 12:Nat):Int) from modc (n:=12)];exact xP hw),_,rfl,_,_,rfl,rfl,(by show 1+tl.length<=χ;rw[ic];omega),_,_,rfl,rfl,(by rw[ic,ki];show 1+tl.length+1<=_;omega),⟨rfl,?_⟩,_,rfl⟩;rw[uj,τ,τ];rfl
     ·obtain⟨rfl,rfl⟩:=z;clear 1 l H6 g6 k6 hl;exact q l (nm1 tl v2) H6 (dd5.keep g6) (dd5.free hl) k6 (aQb h12 (by omega) (by rw[tc];exact hcs)) nm1_c
  ·refine⟨6,rfl,by decide,by decide,xT (n:=6) (fun j ys H'=>H'=H2/\ys=((ir j).map fun k=>Txt.slice (ζ "zyxwvu") none (some (1+(((v2+k) % 6:Nat):Int)))).map V.str) ⟨rfl,rfl⟩ (fun j ys H' _ z=>by rw[z.2,δ,δ,jo];exact μ _) (by decide) (fun j ys H' hj z=>?_) (fun ys H' z l hl=>?_)⟩
   ·obtain⟨rfl,rfl⟩:=z;refine⟨_,rfl,_,rfl,_,_,rfl,rfl,_,_,rfl,rfl,(by show(0:Int)<6;decide),_,_,rfl,rfl,_,rfl,_,rfl,by decide,⟨rfl,?_⟩,_,rfl⟩;rw[uj,τ,τ,show(((v2:Nat):Int)+((0:Int)+(j:Nat))) % 6=(((v2+j) % 6:Nat):Int) from modc (n:=6)];rfl
   ·obtain⟨rfl,rfl⟩:=z;clear 1 l H3 g3 k3 hl;refine⟨(by show 6<=χ;decide),fun l2 hl2=>?_⟩;clear 1 l2 H4 g4 k4 hl2;refine⟨l,l2,_,_,rfl,rfl,g4 _ _ k3,k4,(by rw[δ,δ,jo];show 6+6<=χ;decide),fun l3 hl3=>?_⟩;clear 1 l3 H5 g5 k5 hl3;refine q l3 (nm2 v2) H5 (dd.keep ((g3.trans g4).trans g5)) (dd.free ((g3.trans g4).free hl3)) ?_ (aPq h12) (nm2_c h12);rw[k5];unfold nm2;rw[τ];rfl
theorem rH(F:Fun K "_law_shapes" "_law_shapes" cD f fd)(du:j4 "_law_names" (aOo K))(aa:j4 "_law_take" cI)(fb:j4 "_law_kind" (aOg K))(fc:j4 "_law_fits" (aJp K r)):j0 ["_law_box_here","_law_most"] (spSh K r):=by
 w_cond qS;obtain⟨p,rfl,hs,hr12,h8,q⟩:=h;refine⟨_,(jE (jZ 2 qS.nd (jF du hr (jA (pv 0) jB))) (jE (jZ 3 qS.nd (jF aa hr (jA (pv 0) (jA jC jB)))) (jE (jZ 4 qS.nd (qU jB)) (jE (xQ jv rfl (qX rfl M.range (jA (jV qM jC (jF aa hr (jA (pv 0) (jA (pv 1) jB)))) jB)) (qV 5 qS.nd) (jE (jZ 6 qS.nd (qU jB)) (jE (xQ jv rfl (qX rfl M.range (jA (jV qM jC (jF aa hr (jA (pv 0) (jA jC jB)))) jB)) (qV 7 qS.nd) (jE (jZ 8 qS.nd (kY (jA (jH jX (pv 2) (jV yR (jV qM (jV qM (pv 3) (jV yP (pv 7) jC)) (pv 5)) jC)) (jA (jF fb hr (jA (pv 0) (jA (pv 5) jB))) jB)))) (jD (kK (kU (jF fc hr (jA (jV lJ (pv 4) (qU (jA (kY (jA (jH jX (pv 2) (pv 5)) (jA (jV lJ (pv 6) (qU (jA (pv 8) jB))) jB))) jB))) jB))) (jD (yJ (aG ou qd qe bG (pv 6) (jA (pv 8) jB)))) jL)))) (jE (kK (jW (aKx hr.units) (pv 6) (qU jB)) (jD (jZ 6 qS.nd (qU (jA (kY (jA (jH jX (pv 2) (pv 3)) (jA (kY (jA jO (jA (jV qM jC (jF aa hr (jA (pv 0) (jA jC jB)))) jB))) jB))) jB)))) jL) (jD (yJ (aG ou qd qe bG (pv 4) (jA (kY (jA (jH jX (pv 2) (pv 5)) (jA (pv 6) jB))) jB)))))))) (jD (jJ (pv 4))))))),?_⟩;refine⟨_,rfl,p,rfl,hs,fun nl ns H1 d1 hnl knl ⟨hn12,hnd,hnb⟩ hnc=>⟨_,rfl,p,12,rfl,by decide,by decide,d1.1,fun v2 H2 hv2 d2=>⟨gM,fun sl hsl=>?_⟩⟩⟩;have nnp:nl≠p:=aFf hs hnl;have knl2:=d2.2 nl _ nnp knl;clear 1 sl H3 g3 k3 hsl;have nsp:sl≠p:=aFf d2.1 hsl;have nns:nl≠sl:=jM knl2 hsl;have hslH:H sl=none:=(d1.trans d2).free hsl;have nsAt:∀i,i<12->ns[i]?=some (ns.getD i Str.empty):=fun i hi=>by rw[Θ,η (by omega)];rfl
 have nsB:∀i,i<12->qC (ns.getD i Str.empty)=true:=fun i hi=>hnb _ (ι (nsAt i hi));have nsI:∀i j,i<12->j<12->ns.getD i Str.empty=ns.getD j Str.empty->i=j:=fun i j hi hj e=>by
  have hp:=pq.mp hnd;have ei:=θ.mp (nsAt i hi);have ej:=θ.mp (nsAt j hj);obtain⟨ai,bi⟩:=ei;obtain⟨aj,bj⟩:=ej;rcases Nat.lt_trichotomy i j with hl|hl|hl
  ·exact absurd (by rw[bi,bj];exact e) (hp i j ai aj hl)
  ·exact hl
  ·exact absurd (by rw[bi,bj];exact e.symm) (hp j i aj ai hl)
 refine⟨_,rfl,_,rfl,p,4,rfl,by decide,by decide,jG.st3 g3 d2.1,fun v3 H4 hv3 d4=>⟨_,_,rfl,rfl,_,rfl,(by omega),(by omega),?_⟩⟩;have D4:Drawn p H H4:=((d1.trans d2).keep g3).trans d4;have knl4:=d4.2 nl _ nnp (g3 _ _ knl2);have ksl4:=d4.2 sl _ nsp k3;rw[show((1:Int)+(v3:Nat)).toNat=1+v3 by omega];refine zG (n:=1+v3) (fun i σ H'=>∃(o5 o6 o7 o8:Option V) (as:List Addr) (S:List Shp),σ = [some (.ref p),some (.int 4),some (.ref nl),some (.int v2),some (.ref sl),o5,o6,o7,o8]/\St3 H' p/\(∀b o,b≠p->b≠sl->H4 b=some o->H' b=some o)/\H' sl=some (.lst (as.map V.ref))/\LW K (offs [p,sl] H') as S/\S.length=i/\S.map (·.1)=ns.take i/\Wel S/\Cln S) ⟨_,_,_,_,[],[],rfl,d4.1,fun _ _ _ _ e=>e,ksl4,.nil,rfl,rfl,Wel.nil,fun s hs=>by cases hs⟩ (fun i σ H' hi z=>?_) (fun σ H' z=>?_)
 ·obtain⟨o5,o6,o7,o8,as,S,rfl,st,fr,ksl,hLW,hSl,hSn,hWS,hCl⟩:=z;rw[sy];have hi5:i<5:=by omega
  have knl':=fr nl _ nnp nns knl4;refine⟨gM,fun fl hfl=>?_⟩;clear 1 fl H5 g5 k5 hfl;have nfp:fl≠p:=aFf st hfl;have nfs:fl≠sl:=kh (jM ksl hfl);have nfn:fl≠nl:=kh (jM knl' hfl);refine⟨_,rfl,p,6,rfl,by decide,by decide,jG.st3 g5 st,fun v4 H6 hv4 d6=>⟨_,_,rfl,rfl,_,rfl,(by omega),(by omega),?_⟩⟩;have kfl6:=d6.2 fl _ nfp k5;have knl6:=d6.2 nl _ nnp (g5 _ _ knl');have ksl6:=d6.2 sl _ nsp (g5 _ _ ksl);have hsame6:jG (offs [p,sl] H') (offs [p,sl,fl] H6):=fun b o e=>by
   have hb:b∉[p,sl]:=fun z=>by unfold offs at e;rw[if_pos z]at e;cases e
   have e':H' b=some o:=jQ _ _ e;have hbf:b≠fl:=jM e' hfl;have hbp:b≠p:=fun z=>hb (by rw[z];simp);refine kN (fun z=>?_) (d6.2 b o hbp (g5 _ _ e'));simp only[υ,il,or_false]at z hb;rcases z with z|z|z
   ·exact hb (.inl z)
   ·exact hb (.inr z)
   ·exact hbf z
  have hLW6:=hLW.same hsame6;rw[show((1:Int)+(v4:Nat)).toNat=1+v4 by omega];have nmi:=nsB i (by omega);have nmN:ns.getD i Str.empty∉S.map (·.1):=fun z=>by
   rw[hSn]at z;obtain⟨j,hj⟩:=jz.mp z;have hji:j<i:=by have:=(θ.mp hj).1;rw[Ω]at this;omega
   rw[oe hji,nsAt j (by omega)]at hj;have:=nsI j i (by omega) (by omega) (jg hj);omega
  refine zG (n:=1+v4) (fun j σ H7=>∃(o7 o8:Option V) (ps:List Addr) (fs:List (Str×Kd)),σ = [some (.ref p),some (.int 4),some (.ref nl),some (.int v2),some (.ref sl),some (.int i),some (.ref fl),o7,o8]/\St3 H7 p/\(∀b o,b≠p->b≠fl->H6 b=some o->H7 b=some o)/\H7 fl=some (.lst (ps.map V.ref))/\LF K (offs [p,sl,fl] H7) ps fs/\fs.length<=j/\(∀g∈fs,(g.2.Fit S.length/\qC g.1=true)/\∃m,m<j/\g.1=ns.getD ((v2+m*5+i) % 12) Str.empty)/\(fs.map (·.1)).Nodup/\(fs≠[]->aAb (S++[(ns.getD i Str.empty,fs)]) S.length)) ⟨_,_,[],[],rfl,d6.1,fun _ _ _ _ e=>e,kfl6,.nil,μ _,(fun g hg=>by cases hg),xi,fun z=>absurd rfl z⟩ (fun j σ H7 hj z=>?_) (fun σ H7 z=>?_)
  ·obtain⟨o7,o8,ps,fs,rfl,st7,fr7,kfl7,hLF,hfl7,hfs,hfn,hsm⟩:=z;rw[sy];have knl7:=fr7 nl _ nnp (kh nfn) knl6;have ksl7:=fr7 sl _ nsp (kh nfs) ksl6;have em:(((v2:Nat):Int)+((j:Nat):Int)*5+((i:Nat):Int)) % 12=(((v2+j*5+i) % 12:Nat):Int):=by omega
   have hm12:(v2+j*5+i) % 12<12:=Nat.mod_lt _ (by decide);have al7:Al [p,sl,fl] H7:=fun b hb=>by
    simp only[υ,il,or_false]at hb;rcases hb with rfl|rfl|rfl
    ·exact fB st7
    ·exact⟨_,ksl7⟩
    ·exact⟨_,kfl7⟩
   refine⟨_,rfl,_,rfl,_,rfl,_,_,rfl,rfl,.inl ⟨by omega,by omega⟩,_,_,rfl,rfl,_,rfl,_,_,rfl,rfl,_,_,rfl,rfl,(by show(0:Int)<12;decide),nl,_,_,_,rfl,rfl,SqL.of knl7,(by rw[em];exact fE (nsAt _ hm12)),_,rfl,_,rfl,p,i,[p,sl,fl],rfl,by omega,st7,by simp,al7,fun a kd H8 d8 hfit lk=>?_⟩;rw[←hSl]at hfit;have al8:=Al.drawn al7 d8;refine⟨vS,fun t ht=>?_⟩;clear 1 t H9 g9 k9 ht;have al9:=al8.same g9;have kt:offs [p,sl,fl] H9 t=_:=kN (al8.new ht) k9;have s79:jG (offs [p,sl,fl] H7) (offs [p,sl,fl] H9):=(d8.offs (by simp)).trans (kH g9);have knl9:=g9 _ _ (d8.2 nl _ nnp knl7);have ksl9:=g9 _ _ (d8.2 sl _ nsp ksl7);have kfl9:=g9 _ _ (d8.2 fl _ nfp kfl7);have lk9:=lk.same (kH g9);have hLF9:=(hLF.same s79).snoc (SqT.of kt) lk9;have s69:jG (offs [p,sl,fl] H6) (offs [p,sl,fl] H9):=xW fun b o hb e=>by
    simp only[υ,il,or_false,not_or]at hb;exact g9 _ _ (d8.2 b o hb.1 (fr7 b o hb.1 hb.2.2 e))
   have hLW9:=hLW6.same s69;have hpl:ps.length=fs.length:=hLF.len;have hal:=hLW.len;refine⟨_,rfl,_,rfl,_,rfl,nl,_,_,_,rfl,rfl,SqL.of knl9,fE (nsAt i (by omega)),_,rfl,_,rfl,iF,fun u1 hu1=>?_⟩;clear 1 u1 HA gA kA hu1;refine⟨fl,u1,_,_,rfl,rfl,gA _ _ kfl9,kA,(by rw[ic,δ];simp;omega),fun u2 hu2=>?_⟩;clear 1 u2 HB gB kB hu2;refine⟨vS,fun u3 hu3=>?_⟩;clear 1 u3 HC gC kC hu3;refine⟨iF,fun u4 hu4=>?_⟩;clear 1 u4 HD gD kD hu4;have g9D:=((gA.trans gB).trans gC).trans gD;refine⟨sl,u4,_,_,rfl,rfl,g9D _ _ ksl9,kD,(by rw[ic,δ];simp;omega),fun u5 hu5=>?_⟩;clear 1 u5 HE gE kE hu5;have g9E:=g9D.trans gE;have sE:jG (offs [p,sl,fl] H9) HE:=jQ.trans g9E;have kB':HB u2=some (.lst ((ps++[t]).map V.ref)):=by rw[kB,τ];rfl
   have lsE:LS K HE u3 (ns.getD i Str.empty,fs++[(ns.getD ((v2+j*5+i) % 12) Str.empty,kd)]):=⟨u2,ps++[t],(gD.trans gE).tp (SqT.of kC),SqL.of ((gC.trans (gD.trans gE)) _ _ kB'),hLF9.same sE⟩;have lxE:LX K HE u5 (S++[(ns.getD i Str.empty,fs++[(ns.getD ((v2+j*5+i) % 12) Str.empty,kd)])]):=⟨as++[u3],SqL.of (by rw[kE,τ];rfl),(hLW9.same sE).snoc lsE⟩;have hfs':∀f∈fs,f.2.Fit S.length/\qC f.1=true:=fun f hf=>(hfs f hf).1;have hnew:=nsB _ hm12;have hgd:=aHk (nm:=ns.getD i Str.empty) hWS hsm (by omega) hfs' (f:=(ns.getD ((v2+j*5+i) % 12) Str.empty,kd)) hfit hnew;refine⟨u5,_,S.length,rfl,(by rw[ξ];rfl),lxE,hgd,(by omega),h8,fun b HF gF hb=>⟨_,rfl,?_⟩⟩;have g9F:=g9E.trans gF;have kflF:=g9F _ _ kfl9;have frF:∀b o,b≠p->b≠fl->H6 b=some o->HF b=some o:=fun b o h1 h2 e=>g9F _ _ (g9 _ _ (d8.2 b o h1 (fr7 b o h1 h2 e)));have stF:St3 HF p:=jG.st3 (g9.trans g9F) d8.1;cases b with
   |false =>
    refine jU ⟨_,_,ps,fs,rfl,stF,frF,kflF,(hLF.same s79).same (kH g9F),by omega,fun g hg=>?_,hfn,hsm⟩;obtain⟨a1,m,hm,e⟩:=hfs g hg;exact⟨a1,m,by omega,e⟩
   |true =>
    refine qZ rfl ⟨_,rfl,.inl ⟨rfl,_,SqL.of kflF⟩,_,rfl,fl,_,_,rfl,rfl,kflF,(by rw[δ];exact mw (show ps.length<=6 by omega) (by decide)),?_⟩;clear 0 fl HG gG kG;have sFG:jG (offs [p,sl,fl] HF) (offs [p,sl,fl] HG):=xW fun b o hb e=>by
     simp only[υ,il,or_false,not_or]at hb;exact gG b o hb.2.2 e
    have hnin:ns.getD ((v2+j*5+i) % 12) Str.empty∉fs.map (·.1):=fun z=>by
     obtain⟨g,hg,eg⟩:=ib.mp z;obtain⟨_,m,hm,e⟩:=hfs g hg;rw[e]at eg;have:=nsI _ _ (Nat.mod_lt _ (by decide)) hm12 eg;omega
    obtain⟨x3,y3,z3,est⟩:=stF;refine⟨_,_,ps++[t],fs++[(ns.getD ((v2+j*5+i) % 12) Str.empty,kd)],rfl,⟨x3,y3,z3,gG p _ (kh nfp) est⟩,fun b o h1 h2 e=>gG b o h2 (frF b o h1 h2 e),by rw[kG,τ];rfl,(hLF9.same (kH g9F)).same sFG,by rw[ξ,lj];omega,fun g hg=>?_,?_,fun _=>hb rfl⟩
    ·rcases iz.mp hg with hg|hg
     ·obtain⟨a1,m,hm,e⟩:=hfs g hg;exact⟨a1,m,by omega,e⟩
     ·rw[Φ.mp hg];exact⟨⟨hfit,hnew⟩,j,by omega,rfl⟩
    ·rw[τ,xq];refine⟨hfn,uc _ _,fun a ha b hb e=>hnin ?_⟩;rw[←show b=ns.getD ((v2+j*5+i) % 12) Str.empty from Φ.mp hb,←e];exact ha
  ·obtain⟨o7,o8,ps,fs,rfl,st7,fr7,kfl7,hLF,hfl7,hfs,hfn,hsm⟩:=z;have knl7:=fr7 nl _ nnp (kh nfn) knl6;have ksl7:=fr7 sl _ nsp (kh nfs) ksl6;have s67:jG (offs [p,sl,fl] H6) (offs [p,sl,fl] H7):=xW fun b o hb e=>by
    simp only[υ,il,or_false,not_or]at hb;exact fr7 b o hb.1 hb.2.2 e
   have sub:jG (offs [p,sl,fl] H7) (offs [p,sl] H7):=oB fun b hb=>by
    simp only[υ,il,or_false]at hb ⊢;rcases hb with hb|hb
    ·exact .inl hb
    ·exact .inr (.inl hb)
   have hLW7:=(hLW6.same s67).same sub;have fr47:∀b o,b≠p->b≠sl->H' b=some o->H7 b=some o:=fun b o h1 h2 e=>fr7 b o h1 (jM e hfl) (d6.2 b o h1 (g5 _ _ e))
   (try dsimp only)
   refine aOt (fun σ' H8=>∃(o7 o8:Option V) (fl':Addr) (ps':List Addr) (fs':List (Str×Kd)),σ'=[some (.ref p),some (.int 4),some (.ref nl),some (.int v2),some (.ref sl),some (.int i),some (.ref fl'),o7,o8]/\St3 H8 p/\(∀b o,b≠p->b≠sl->H' b=some o->H8 b=some o)/\H8 sl=some (.lst (as.map V.ref))/\SqL K (offs [p,sl] H8) fl' (ps'.map V.ref)/\LF K (offs [p,sl] H8) ps' fs'/\LW K (offs [p,sl] H8) as S/\Wel (S++[(ns.getD i Str.empty,fs')])/\∀f∈fs',f.1∉bdN) (fun σ' H8 z=>?_) (fun nx hnx=>?_)
   ·obtain⟨o7,o8,fl',ps',fs',rfl,st8,fr8,ksl8,kfl8,hLF8,hLW8,hW8,hc8⟩:=z;have knl8:=fr8 nl _ nnp nns knl';refine⟨_,rfl,.inl ⟨rfl,_,SqL.of ksl8⟩,_,rfl,_,rfl,nl,_,_,_,rfl,rfl,SqL.of knl8,fE (nsAt i (by omega)),_,rfl,vS,fun t ht=>?_⟩;clear 1 t H9 g9 k9 ht;have al8:Al [p,sl] H8:=fun b hb=>by
     simp only[υ,il,or_false]at hb;rcases hb with rfl|rfl
     ·exact fB st8
     ·exact⟨_,ksl8⟩
    have kt:offs [p,sl] H9 t=_:=kN (al8.new ht) k9;have s89:jG (offs [p,sl] H8) (offs [p,sl] H9):=kH g9;have hls:LS K (offs [p,sl] H9) t (ns.getD i Str.empty,fs'):=⟨fl',ps',SqT.of kt,s89.seq kfl8,hLF8.same s89⟩;have ksl9:=g9 _ _ ksl8;refine⟨sl,_,_,rfl,rfl,ksl9,(by rw[δ,hLW.len];exact mw (show S.length<=5 by omega) (by decide)),?_⟩;clear 0 sl HA gA kA;have s9A:jG (offs [p,sl] H9) (offs [p,sl] HA):=xW fun b o hb e=>by
     simp only[υ,il,or_false,not_or]at hb;exact gA b o hb.2 e
    obtain⟨x3,y3,z3,est⟩:=jG.st3 g9 st8;refine⟨_,_,_,_,as++[t],_,rfl,⟨x3,y3,z3,gA p _ (kh nsp) est⟩,fun b o h1 h2 e=>gA b o h2 (g9 _ _ (fr8 b o h1 h2 (fr b o h1 h2 e))),by rw[kA,τ];rfl,((hLW8.same s89).snoc hls).same s9A,by rw[ξ,hSl];rfl,?_,hW8,hCl.snoc (hnc _ (ι (nsAt i (by omega)))) hc8⟩;rw[τ,hSn,jk,nsAt i (by omega)];rfl
   ·refine⟨_,rfl,gM,fun e he=>?_⟩;clear 1 e H8 g8 k8 he;have st8:=jG.st3 g8 st7;refine⟨fl,e,_,rfl,rfl,SqL.of (g8 _ _ kfl7),SqL.of k8,_,rfl,yG (fun c=>?_) (fun c=>?_)⟩
    ·refine⟨_,rfl,_,rfl,nl,_,_,_,rfl,rfl,SqL.of (g8 _ _ knl7),fE (nsAt v2 (by omega)),_,rfl,p,4,rfl,by decide,by decide,st8,fun v5 H9 hv5 d9=>⟨_,_,rfl,rfl,vS,fun t1 ht1=>?_⟩⟩;have al9:Al [p,sl] H9:=fun b hb=>by
      simp only[υ,il,or_false]at hb;rcases hb with rfl|rfl
      ·exact fB d9.1
      ·exact⟨_,d9.2 _ _ nsp (g8 _ _ ksl7)⟩
     clear 1 t1 HA gA kA ht1;refine⟨vS,fun t2 ht2=>?_⟩;clear 1 t2 HB gB kB ht2;refine⟨iF,fun l1 hl1=>?_⟩;clear 1 l1 HC gC kC hl1;have alA:=al9.same gA;have alB:=alA.same gB;have k1:offs [p,sl] HA t1=_:=kN (al9.new ht1) kA;have k2:offs [p,sl] HB t2=_:=kN (alA.new ht2) kB;have k3:offs [p,sl] HC l1=_:=kN (alB.new hl1) kC
     (try dsimp only at k1)
     rw[show(1:Int)+(v5:Nat)=((1+v5:Nat):Int) by omega]at k1;have sAC:jG (offs [p,sl] HA) (offs [p,sl] HC):=kH (gB.trans gC);have sBC:jG (offs [p,sl] HB) (offs [p,sl] HC):=kH gC;have s7C:jG (offs [p,sl] H7) (offs [p,sl] HC):=(kH g8).trans ((d9.offs (by simp)).trans (kH ((gA.trans gB).trans gC)));have g9C:=(gA.trans gB).trans gC;have hs4:S.length<=3:=by omega
     refine hnx _ _ ⟨_,_,l1,[t2],[(ns.getD v2 Str.empty,Kd.num (1+v5))],rfl,jG.st3 g9C d9.1,fun b o h1 h2 e=>g9C _ _ (d9.2 b o h1 (g8 _ _ (fr47 b o h1 h2 e))),g9C _ _ (d9.2 _ _ nsp (g8 _ _ ksl7)),SqL.of k3,.cons (SqT.of (sBC _ _ k2)) (.num (SqT.of (sAC _ _ k1))) .nil,hLW7.same s7C,hWS.snoc nmi nmN hs4 (by simp) (by show 1<=6;decide) (fun f hf=>?_) (uc _ _) (aLo (by omega)),fun f hf=>by rw[Φ.mp hf];exact hnc _ (ι (nsAt v2 (by omega)))⟩;rw[Φ.mp hf];exact⟨⟨by omega,by omega⟩,nsB v2 (by omega)⟩
    ·have hps:ps≠[]:=fun z=>c (by rw[z];rfl);have hfsne:fs≠[]:=fun z=>hps (mv.mp (by rw[hLF.len,z];rfl));have hflo:offs [p,sl] H8 fl=_:=kN (by simp only[υ,il,or_false,not_or];exact⟨nfp,nfs⟩) (g8 _ _ kfl7);exact hnx _ _ ⟨_,_,fl,ps,fs,rfl,st8,fun b o h1 h2 e=>g8 _ _ (fr47 b o h1 h2 e),g8 _ _ ksl7,SqL.of hflo,(hLF.same sub).same (kH g8),hLW7.same (kH g8),hWS.snoc nmi nmN (by omega) hfsne (by omega) (fun f hf=>(hfs f hf).1) hfn (hsm hfsne),fun f hf=>by obtain⟨_,m,_,e⟩:=hfs f hf;rw[e];exact hnc _ (ι (nsAt _ (Nat.mod_lt _ (by decide))))⟩
 ·obtain⟨o5,o6,o7,o8,as,S,rfl,st,fr,ksl,hLW,hSl,hSn,hWS,hCl⟩:=z;have fD:Drawn p H H':=⟨st,fun b o h e=>by
   have hb:b≠sl:=jM e hslH;exact fr b o h hb (D4.2 b o h e)⟩
  exact⟨_,rfl,q sl S H' fD hslH ⟨as,SqL.of (kN (by simpa using nsp) ksl),hLW.same (oB fun b hb=>by simp only[υ,il,or_false]at hb ⊢;exact .inl hb)⟩ hWS (fun z=>by rw[z]at hSl;simp at hSl;omega) hCl⟩
theorem aBu{k:Nat}(F:Fun K "bound_of" "bound_of" gK f fd):j0 ["width"] spBd:=by
 w_cond aBx;obtain⟨w,rfl,hw,q⟩:=h;refine⟨_,(jD (jJ (jV fM jC (jV yP jC (pv 0))))),?_⟩;have e:∀w:Fin 5,(1:Int)*2 ^ (8*((w.val:Nat):Int)).toNat=((256 ^ w.val:Nat):Int):=by decide
 have e':=e ⟨w,by omega⟩;refine⟨_,rfl,_,_,rfl,rfl,.inl ⟨by omega,by omega⟩,_,_,rfl,rfl,⟨by omega,by omega,by omega⟩,?_⟩;dsimp only at e' ⊢;rw[e'];exact q
theorem aBd(F:Fun K "_law_word" "_law_word" fW f fd)(aa:j4 "_law_take" cI):j0 ["_law_box_here","_law_width"] aOh:=by
 w_cond lX;obtain⟨p,w,rfl,h1,h4,hs,q⟩:=h;refine⟨_,(PSx.h (kW (xC (jZ 2 lX.nd (jV zY (jV fM jC (jV yP jC (pv 1))) jC))) (vC (xD (wU (jP (jY jC) (jP (jY (pv 2)) (jP (jY jC) (jP (jY (jV yR jC (jV qM (pv 2) jC))) (jP (jY (jF aa hr (jA (pv 0) (jA (jV qM (pv 2) jC) jB)))) (jP (jY (jF aa hr (jA (pv 0) (jA (jV qM (pv 2) jC) jB)))) vH hV) hV) zJ) kP) tN) kP) (jY (jF aa hr (jA (pv 0) (jA jC jB)))) (fun _ _=>rfl)))))),?_⟩;have e:∀w:Fin 5,(1:Int)*2 ^ (8*((w.val:Nat):Int)).toNat=((256 ^ w.val:Nat):Int)/\256 ^ w.val<=4294967296/\(1<=w.val->256<=256 ^ w.val):=by decide
 obtain⟨e',b1,b2⟩:=e ⟨w,by omega⟩;have b2':=b2 h1;dsimp only at e' b1 b2';generalize 256 ^ w=M at *;refine⟨_,rfl,_,_,rfl,rfl,.inl ⟨by omega,by omega⟩,_,_,rfl,rfl,⟨by omega,by omega,by omega⟩,_,_,rfl,rfl,?_⟩
 (try dsimp only)
 rw[e'];have eM:(M:Int)-1+1=M:=by omega
 refine⟨_,rfl,_,rfl,_,_,rfl,rfl,_,_,rfl,rfl,(by rw[eM];omega),_,rfl,_,rfl,_,_,rfl,rfl,p,_,rfl,(by rw[eM];omega),(by rw[eM];omega),hs,fun v1 H1 hv1 d1=>⟨_,rfl,_,rfl,_,_,rfl,rfl,p,_,rfl,(by rw[eM];omega),(by rw[eM];omega),d1.1,fun v2 H2 hv2 d2=>⟨(by show 6<=χ;decide),fun ml hml=>?_⟩⟩⟩;clear 1 ml H3 g3 k3 hml;have nm:ml≠p:=aFf d2.1 hml;refine⟨_,rfl,p,6,rfl,by decide,by decide,jG.st3 g3 d2.1,fun v3 H4 hv3 d4=>?_⟩;have k4:=d4.2 ml _ nm k3;have D4:Drawn p H H4:=((d1.trans d2).keep g3).trans d4;have m256:∃n:Nat,(256:Int) % (M-1+1)=n/\n<M:=⟨256 % M,by rw[eM];exact(Int.natCast_emod 256 M).symm,Nat.mod_lt _ (by omega)⟩;obtain⟨n3,e3',l3⟩:=m256;obtain⟨n,hat,hn⟩ : ∃n:Nat,atI [V.int 0,V.int ((M:Int)-1),V.int 1,V.int (256 % ((M:Int)-1+1)),V.int v1,V.int v2] (v3:Int)=some (.int n)/\n<M:=by
  rw[e3',show(M:Int)-1=((M-1:Nat):Int) by omega]
  match v3,hv3 with
  |0,_=>exact⟨0,rfl,by omega⟩
  |1,_=>exact⟨M-1,rfl,by omega⟩
  |2,_=>exact⟨1,rfl,by omega⟩
  |3,_=>exact⟨n3,rfl,l3⟩
  |4,_=>exact⟨v1,rfl,by omega⟩
  |5,_=>exact⟨v2,rfl,by omega⟩
  |n+6,h=>exact absurd h (by omega)
 exact⟨ml,_,_,_,rfl,rfl,SqL.of k4,hat,q n H4 hn D4⟩
theorem tZ{k r:Nat}(F:Fun K "_law_drawn" "_law_drawn" dX f fd)(ff:j4 "_law_word" aOh)(aa:j4 "_law_take" cI)(ar:j4 "_law_drawn" (spDr K r)):j0 ["_law_box_here","_law_kind_here","_law_shapes_here"] (spDr K (r+1)):=by
 w_cond xY;obtain⟨p,a,sl,kd,S,r0,ys,er,rfl,hs,hpy,al,hk,hf,hlkO,hlxO,hW,q⟩:=h;cases er;refine⟨_,(jE (kK (jW qH (jH jT (pv 1) jC) jO) (jD (jJ (jF ff hr (jA (pv 0) (jA (jH jT (pv 1) jC) jB))))) jL) (jE (kK (jW qH (jH jT (pv 1) jC) jO) (jD (jJ (kR ["_law_k"] ["_law_box_here","_law_shapes_here","_law_kind_here"] [0,2,1] rfl (qX rfl M.range (jA (jH jT (pv 1) jC) jB)) rfl ⟨rfl,⟨rfl,⟨rfl,trivial⟩⟩⟩ ⟨⟨rfl,rfl,rfl,_,rfl⟩,⟨⟨rfl,rfl,rfl,_,rfl⟩,⟨⟨rfl,rfl,rfl,_,rfl⟩,trivial⟩⟩⟩ (fun _ _ _ _=>(qD rfl)) (fun _ _ _ _=>kQ) (fun _ _ _ _=>(jF ar hr (jA (pv 1) (jA (jH (gO K rfl) (pv 3) jC) (jA (pv 2) jB)))))))) jL) (jE (kK (jW qH (jH jT (pv 1) jC) jO) (jE (jZ 3 xY.nd (jF aa hr (jA (pv 0) (jA (jK kF rfl M.len iq (jA (jH jT (pv 1) jC) jB)) jB)))) (jD (jJ (kY (jA (pv 3) (jA (jF ar hr (jA (pv 0) (jA (kY (jA jO (jA (jH jX (jH jT (pv 1) jC) (pv 3)) jB))) (jA (pv 2) jB)))) jB)))))) jL) (jE (jZ 4 xY.nd zO) (jE (xQ jv rfl (qL (jH jT (jH jX (pv 2) (jH jT (pv 1) jC)) jC)) (cO rfl (kI (qV 5 xY.nd) (kI (qV 6 xY.nd) qR))) (jD (eF hr.units1 (pv 4) (pv 5) (jF ar hr (jA (pv 0) (jA (pv 6) (jA (pv 2) jB)))) rfl))) (jD (jJ (pv 4)))))))),?_⟩;cases id hlkO with
 | @num a w h1O =>
  have h1:=jQ.tp h1O;refine⟨_,rfl,a,_,_,_,rfl,rfl,h1,rfl,rfl,_,rfl,qF ⟨_,rfl,_,rfl,a,_,_,_,rfl,rfl,h1,rfl,p,w,rfl,hf.1,hf.2,hs,fun v H1 hv d1=>q (.int v) (.int v) H1 d1 (.int v) ?_ (fun b eb=>by cases eb)⟩⟩;cases r <;> exact⟨v,rfl,hv⟩
 | @pick a ll is h1O h2O =>
  have h1:=jQ.tp h1O;have h2:=jQ.seq h2O;cases r with
  |zero=>exact(kf _ (hk _ (ju (show 0<is.length by have:=hf.1;omega)))).elim
  |succ r =>
  have hlen:=hf.2.1;have hlen2:=hf.1;refine⟨_,rfl,a,_,_,_,rfl,rfl,h1,rfl,rfl,_,rfl,jU ⟨_,rfl,a,_,_,_,rfl,rfl,h1,rfl,rfl,_,rfl,jU ⟨_,rfl,a,_,_,_,rfl,rfl,h1,rfl,rfl,_,rfl,qF ⟨_,rfl,_,rfl,a,_,_,_,rfl,rfl,h1,rfl,ll,_,rfl,.inl h2,?_⟩⟩⟩⟩;rw[δ];refine⟨p,is.length,rfl,by omega,by omega,hs,fun j H1 hj d1=>?_⟩;have hjl:j<is.length:=by exact_mod_cast hj
  obtain⟨i',hi'⟩ : ∃s,is[j]?=some s:=⟨_,η hjl⟩;have hil:i'<S.length:=hf.2.2.2 i' (ι hi');have hki:=hk i' (ι hi');have s1:jG (offs ys H) (offs ys H1):=d1.offs hpy;have al1:=Al.drawn al d1;refine⟨_,rfl,_,rfl,_,rfl,a,_,_,_,rfl,rfl,jQ.tp (s1.tp h1O),rfl,_,rfl,ll,_,_,_,rfl,rfl,jQ.seq (s1.seq h2O),aCy hi',vS,fun tk htk=>?_⟩;clear 1 tk H2 g2 k2 htk;have s2:=s1.trans (kH (xs:=ys) g2);refine⟨_,rfl,p,tk,sl,.nest i',S,r,ys,rfl,rfl,jG.st3 g2 d1.1,hpy,al1.same g2,(by show 2*i'+2<=r;omega),hil,.nest (SqT.of (kN (al1.new htk) k2)),hlxO.same s2,hW,fun v d H3 d3 hdt hcn hfr=>⟨vS,fun t ht=>?_⟩⟩;clear 1 t H4 g4 k4 ht;have D3:Drawn p H H3:=(d1.keep g2).trans d3;exact q (.ref t) (.tuple [.int j,d]) H4 (D3.keep g4) (.tup (SqT.of (kN ((Al.drawn al D3).new ht) k4)) (.cons (.int _) (.cons (hdt.same (kH g4)) .nil))) ⟨j,i',d,hi',rfl,hcn⟩ (fun b eb=>by cases eb;exact D3.free ht)
 | @many a b n k h1O h2O =>
  have h1:=jQ.tp h1O;cases r with
  |zero=>exact(yN (.inr ⟨_,_,rfl⟩) hk).elim
  |succ r =>
  have hpd:(Kd.many n k).Pd:=.inr ⟨_,_,rfl⟩;have hn6:n<=6:=hf.2.1;have pl:((Kd.many n k).parts S).length=n:=by show((ir n).map _).length=n;rw[δ,jo]
  refine⟨_,rfl,a,_,_,_,rfl,rfl,h1,rfl,rfl,_,rfl,jU ⟨_,rfl,a,_,_,_,rfl,rfl,h1,rfl,rfl,_,rfl,qF ⟨_,rfl,a,_,_,_,rfl,rfl,h1,rfl,n,rfl,by omega,by omega,mB (n:=n) (fun j zs H'=>Drawn p H H'/\∃es,Dts true K (offs ys H') zs es/\yC (Can S r) (((Kd.many n k).parts S).take j) es) ⟨⟨hs,fun _ _ _ z=>z⟩,[],.nil,iu⟩ (fun j zs H' hj z=>?_) (kM (by omega)) (fun j zs H' hj z=>?_) (fun zs H' z l hl hns=>?_)⟩⟩⟩
  ·obtain⟨_,es,hdt,hcl⟩:=z;rw[hdt.length,←hcl.len,Ω];omega
  ·obtain⟨D,es,hdt,hcl⟩:=z;have hps:((Kd.many n k).parts S)[j]?=some (ζ (toString j),k):=by
    show((ir n).map _)[j]?=_;rw[gu,qw hj];rfl
   obtain⟨p1,p2,_⟩:=Kd.parts_ok hW.good hf hk (ι hps);have sO:jG (offs ys H) (offs ys H'):=D.offs hpy;refine⟨_,rfl,_,rfl,a,_,_,_,rfl,rfl,jQ.tp (sO.tp h1O),rfl,_,rfl,p,b,sl,k,S,r,ys,rfl,rfl,D.1,hpy,Al.drawn al D,p1,p2,h2O.same sO,hlxO.same sO,hW,fun v d H3 d3 hdv hcn hfr=>⟨⟨D.trans d3,es++[d],(hdt.same (d3.offs hpy)).snoc hdv,?_⟩,_,rfl⟩⟩;rw[jk,hps];exact hcl.app ⟨hcn,iu⟩
  ·obtain⟨D,es,hdt,hcl⟩:=z;clear 1 l H3 g3 k3 hl;rw[mh (by rw[pl];exact μ _)]at hcl;exact q (.ref l) (.list es) H3 (D.keep g3) (.lst (SqL.of (kN ((Al.drawn al D).new hl) k3)) (fun _=>hns) (hdt.same (kH g3))) ⟨es,rfl,hcl⟩ (fun b eb=>by cases eb;exact D.free hl)
 | @nest a i h1O =>
  have h1:=jQ.tp h1O;cases r with
  |zero=>exact(yN (.inl ⟨_,rfl⟩) hk).elim
  |succ r =>
  have hi:i<S.length:=hf;have hS:S[i]?=some S[i]:=η hi;have ep:=qY hS;obtain⟨as,s,lf,ps,m1,m2,m3,m4,m5⟩:=hlxO.at hi;have few:=hW.good.few i _ hS;refine⟨_,rfl,a,_,_,_,rfl,rfl,h1,rfl,rfl,_,rfl,jU ⟨_,rfl,a,_,_,_,rfl,rfl,h1,rfl,rfl,_,rfl,jU ⟨_,rfl,a,_,_,_,rfl,rfl,h1,rfl,rfl,_,rfl,jU (fun l0 hl0=>?_)⟩⟩⟩;clear 1 l0 H1 g1 k1 hl0;have n0y:l0∉ys:=al.new hl0;have n0p:l0≠p:=fun z=>n0y (z ▸ hpy);have alB:∀{H':Hp}{o0:HO},aAw p l0 H1 H'->H' l0=some o0->St3 H' p->Al (l0::ys) H':=fun {H' o0} g k0 st b hb=>by
   rcases υ.mp hb with rfl|hb
   ·exact⟨_,k0⟩
   ·by_cases hbl:b=p
    ·exact hbl ▸ fB st
    ·obtain⟨o,ho'⟩:=al b hb;exact⟨o,g b o hbl (fun z=>n0y (z ▸ hb)) (g1 _ _ ho')⟩
  refine⟨_,rfl,_,rfl,a,_,_,_,rfl,rfl,g1.tp h1,rfl,sl,_,_,_,rfl,rfl,g1.seq (jQ.seq m1),zP m2,s,_,_,_,rfl,rfl,g1.tp (jQ.tp m3),rfl,lf,rfl,⟨_,g1.seq (jQ.seq m4)⟩,xI (xs:=ps.map V.ref) (fun j σ H'=>∃(o3 o5 o6:Option V) (es:List ν) (zs:List V),σ = [some (.ref p),some (.ref a),some (.ref sl),o3,some (.ref l0),o5,o6]/\aAw p l0 H1 H'/\St3 H' p/\H' l0=some (.dK (kz ((((Kd.nest i).parts S).map (·.1)).take j) zs))/\zs.length=j/\Dts true K (offs (l0::ys) H') zs es/\yC (Can S r) (((Kd.nest i).parts S).take j) es) ⟨_,_,_,[],[],rfl,fun _ _ _ _ z=>z,jG.st3 g1 hs,k1,rfl,.nil,iu⟩ (fun j σ H' _ z=>?_) (fun j x' σ H' hx z=>?_) (fun σ H' z=>?_)⟩
  ·obtain⟨o3,o5,o6,es,zs,rfl,g,_⟩:=z;exact jQ.seq ((aAw.offs g1 hl0 hpy g).seq m4)
  ·obtain⟨o3,o5,o6,es,zs,rfl,g,st,k0,hzj,hdt,hcl⟩:=z;obtain⟨t0,ht0,rfl⟩:=qG hx;obtain⟨nm',kd',kk,hfs,htt,hko⟩:=m5.get ht0;have hps:((Kd.nest i).parts S)[j]?=some (nm',kd'):=by rw[ep];exact hfs
   obtain⟨p1,p2,_⟩:=Kd.parts_ok hW.good hf hk (ι hps);have sO:=aAw.offs g1 hl0 hpy g;have hjl:j<((Kd.nest i).parts S).length:=(θ.mp hps).1;have hkl:((((Kd.nest i).parts S).map (·.1)).take j).length=zs.length:=by rw[Ω,δ,hzj];omega
   have nk:(((Kd.nest i).parts S).map (·.1))[j]?=some nm':=by rw[gu,hps];rfl
   refine⟨t0,_,rfl,jQ.tp (sO.tp htt),rfl,_,_,rfl,_,_,rfl,rfl,_,rfl,_,rfl,_,rfl,p,kk,sl,kd',S,r,l0::ys,rfl,rfl,st,ρ _ hpy,alB g k0 st,p1,p2,hko.same sO,hlxO.same sO,hW,fun v d H3 d3 hdv hcn hfr=>?_⟩;have k3:=d3.2 l0 _ n0p k0;refine⟨_,rfl,_,rfl,l0,_,rfl,.inl ⟨_,.inr nm',k3,rfl,(by rw[vY hkl,hkl,hzj];rw[ep]at hjl;exact Γ hjl (Ψ few (by decide))),rfl⟩,?_⟩;rw[aDa (v:=v) (hW.pnd hf i rfl) hzj nk];clear 0 l0 H4 g4 k4;have s34:jG (offs (l0::ys) H3) (offs (l0::ys) H4):=xW fun b o hb e=>g4 b o (fun z=>hb (by rw[z];simp)) e;obtain⟨x3,y3,z3,est⟩:=d3.1;refine⟨o3,some (.str nm'),some (.ref kk),es++[d],zs++[v],rfl,fun b o h1 h2 e=>g4 b o h2 (d3.2 b o h1 (g b o h1 h2 e)),⟨x3,y3,z3,g4 p _ (kh n0p) est⟩,k4,by rw[ξ,hzj];rfl,((hdt.same (d3.offs (ρ _ hpy))).snoc hdv).same s34,?_⟩;rw[jk,hps];exact hcl.app ⟨hcn,iu⟩
  ·obtain⟨o3,o5,o6,es,zs,rfl,g,st,k0,hzj,hdt,hcl⟩:=z;have en:(ps.map V.ref).length=((Kd.nest i).parts S).length:=by rw[ep,δ,m5.len]
   rw[en,kL]at hcl;rw[en,←δ (·.1),kL]at k0;have D:Drawn p H H':=⟨st,fun b o h e=>g b o h (jM e hl0) (g1 _ _ e)⟩;exact⟨_,rfl,q (.ref l0) (.dict (aZ ((Kd.nest i).parts S) es)) H' D (aRb (kN n0y k0) (by rw[hzj,en]) (hdt.same aFq)) ⟨es,rfl,hcl⟩ (fun b eb=>by cases eb;exact hl0)⟩
theorem pL{k:Nat}(F:Fun K "main" "Shapes.main" aL f fd):j0 ["self"] (spMn Vf K):=by
 w_cond pH;obtain⟨o,dx,t,sa,i,s,rfl,h1,h2,h3,h4,q⟩:=h;refine⟨_,(jD (jJ (jH jT (qN (pv 0) rfl) (gN cF jC)))),?_⟩;exact⟨_,rfl,o,Vf,_,_,_,rfl,h1,Uf.cl,Uf.nd,rfl,_,rfl,t,_,_,_,rfl,rfl,h2,aNf h3 h4,q⟩
theorem aAl{k:Nat}(F:Fun K "is_whole" "is_whole" fN f fd):j0 ["thing"] (wK P w K):=by
 w_cond aAr;obtain⟨x,t,rfl,ht,q⟩:=h;refine⟨_,(jD (jJ (vK (jK kZ rfl M.isinstance ie (jA (pv 0) (jA (qI (v:=.ty "int") rfl M.int boot_int rfl) jB))) (vU (aJk (jK kZ rfl M.isinstance ie (jA (pv 0) (jA (qI (v:=.ty "bool") rfl M.bool boot_bool rfl) jB)))))))),?_⟩;refine⟨_,rfl,x,_,t,rfl,by decide,ht,_,rfl,yG (fun c=>⟨_,rfl,x,_,t,rfl,by decide,ht,_,rfl,?_⟩) (fun c=>?_)⟩
 ·rw[isa1 c];exact q
 ·rw[isa2 c];exact q
theorem sX{k:Nat}(F:Fun K "_law_whole" "_law_whole" dD f fd):j0 ["_law_found"] (wK P w K):=by
 w_cond uS;obtain⟨x,t,rfl,ht,q⟩:=h;refine⟨_,(jD (jJ (vK (jK kZ rfl M.isinstance ie (jA (pv 0) (jA (qI (v:=.ty "int") rfl M.int boot_int rfl) jB))) (vU (aJk (jK kZ rfl M.isinstance ie (jA (pv 0) (jA (qI (v:=.ty "bool") rfl M.bool boot_bool rfl) jB)))))))),?_⟩;refine⟨_,rfl,x,_,t,rfl,by decide,ht,_,rfl,yG (fun c=>⟨_,rfl,x,_,t,rfl,by decide,ht,_,rfl,?_⟩) (fun c=>?_)⟩
 ·rw[isa1 c];exact q
 ·rw[isa2 c];exact q
theorem rN(F:Fun K "is_between" "is_between" bY f fd)(fg:j4 "is_whole" (wK P w K)):j0 ["thing","low","high"] (aLc P w K):=by
 w_cond pP;obtain⟨x,lo,hi,d,rfl,hd,q⟩:=h;refine⟨_,(jD (jJ (vK (jF fg hr (jA (pv 0) jB)) (vU (gP dL dL (pv 1) (pv 0) (pv 2)))))),?_⟩;refine⟨_,rfl,x,tyD d,rfl,hd.ty,_,rfl,?_⟩;cases hT:(tyD d == "int") with
 |true =>
  obtain⟨v,rfl⟩:=ty_int hT;obtain rfl:=hd.intI;have q':Q (.bl (decide (lo<=v)&&decide (v<=hi))) H:=q;refine qZ rfl ⟨_,rfl,_,rfl,_,_,rfl,rfl,_,rfl,?_⟩;cases hc:decide (lo<=v) with
  |true=>rw[hc]at q';exact qZ rfl ⟨_,rfl,_,_,rfl,rfl,q'⟩
  |false=>rw[hc]at q';exact qP ο q'
 |false =>
  rw[tR hT]at q;exact qP ο q
theorem aDy(F:Fun K "is_word" "is_word" lK f fd)(fh:j4 "bound_of" spBd)(bv:j4 "is_between" (aLc P w K)):j0 ["thing","width"] (aOp P w K):=by
 w_cond aDl;obtain⟨x,n,d,rfl,hw,hd,q⟩:=h;refine⟨_,(jD (jJ (jF bv hr (jA (pv 0) (jA jC (jA (jV zY (jF fh hr (jA (pv 1) jB)) jC) jB)))))),?_⟩;refine⟨_,rfl,_,rfl,n,rfl,hw,_,_,rfl,rfl,x,0,_,d,rfl,hd,?_⟩;rw[←nN]at q;exact q
theorem mJ(F:Fun K "is_number_of" "is_number_of" zK f fd)(bv:j4 "is_between" (aLc P w K)):j0 ["pick","thing"] (aOi P w (j7 0) K):=by
 w_cond mM;obtain⟨a,x,is,sa,d,rfl,ho,hd,q⟩:=h;refine⟨_,(jD (jJ (jF bv hr (jA (pv 1) (jA jC (jA (jV zY (jK kF rfl M.len iq (jA (qN (pv 0) rfl) jB)) jC) jB)))))),?_⟩;cases ho with
 |pick h1 h2 h3 h4 =>
  refine⟨_,rfl,_,rfl,a,Vd,_,_,_,rfl,h1,Ud.cl,Ud.nd,rfl,_,_,rfl,.inr h2,_,_,rfl,rfl,x,0,_,d,rfl,hd,?_⟩;rw[δ,h3];rw[←nN]at q;exact q
theorem mF(F:Fun K "may_have" "may_have" fR f fd)(KS:KdS K (j7 0))(fw:j4 "is_word" (aOp P w K))(di:j4 "has_fields" (mI P w (j7 0) K r Kd.isNest))(dw:j4 "has_count" (mI P w (j7 0) K r Kd.isMany))(dz:j4 "is_choice" (mI P w (j7 0) K r Kd.isPick)):j0 ["kind","thing"] (mI P w (j7 0) K r aIy):=by
 w_cond aAc;obtain⟨a,x,kd,sa,S,d,rfl,hF,hk,hf,ho,hw,hW,hd,q⟩:=h;refine⟨_,(jE (kK (kU (jK (bF (K:=K) rfl) rfl M.isinstance ie (jA (pv 0) (jA (qW (v:=.ref Va) rfl Ua.m rfl) jB)))) (jD (jJ (jF fw hr (jA (pv 1) (jA (qN (pv 0) rfl) jB))))) jL) (jE (kK (kU (jK (bF (K:=K) rfl) rfl M.isinstance ie (jA (pv 0) (jA (qW (v:=.ref Vb) rfl Ub.m rfl) jB)))) (jD (jJ (jF di hr (jA (pv 0) (jA (pv 1) jB))))) jL) (jE (kK (kU (jK (bF (K:=K) rfl) rfl M.isinstance ie (jA (pv 0) (jA (qW (v:=.ref Vc) rfl Uc.m rfl) jB)))) (jD (jJ (jF dw hr (jA (pv 0) (jA (pv 1) jB))))) jL) (jD (jJ (jF dz hr (jA (pv 0) (jA (pv 1) jB)))))))),?_⟩;cases kd with
 |num n =>
  refine⟨_,rfl,.ref a,Va,_,_,rfl,KS.ty ho,KS.kit _ (.num 0),_,rfl,qZ rfl ?_⟩;rw[aFg]at q;cases ho with
  |num h1=>exact⟨_,rfl,_,rfl,a,Va,_,_,_,rfl,h1,Ua.cl,Ua.nd,rfl,x,n,d,rfl,hf.2,hd,q H (jG.refl _)⟩
 |nest i =>
  exact⟨_,rfl,.ref a,Va,_,_,rfl,KS.ty ho,KS.kit _ (.num 0),_,rfl,qP ο ⟨_,rfl,.ref a,Vb,_,_,rfl,KS.ty ho,KS.kit _ (.nest 0),_,rfl,qZ rfl ⟨_,rfl,_,rfl,a,x,_,sa,S,d,rfl,rfl,hk,hf,ho,hw,hW,hd,q⟩⟩⟩
 |many n k =>
  exact⟨_,rfl,.ref a,Va,_,_,rfl,KS.ty ho,KS.kit _ (.num 0),_,rfl,qP ο ⟨_,rfl,.ref a,Vb,_,_,rfl,KS.ty ho,KS.kit _ (.nest 0),_,rfl,qP ο ⟨_,rfl,.ref a,Vc,_,_,rfl,KS.ty ho,KS.kit _ (.many 0 (.num 0)),_,rfl,qZ rfl ⟨_,rfl,_,rfl,a,x,_,sa,S,d,rfl,rfl,hk,hf,ho,hw,hW,hd,q⟩⟩⟩⟩
 |pick is =>
  exact⟨_,rfl,.ref a,Va,_,_,rfl,KS.ty ho,KS.kit _ (.num 0),_,rfl,qP ο ⟨_,rfl,.ref a,Vb,_,_,rfl,KS.ty ho,KS.kit _ (.nest 0),_,rfl,qP ο ⟨_,rfl,.ref a,Vc,_,_,rfl,KS.ty ho,KS.kit _ (.many 0 (.num 0)),_,rfl,qP ο ⟨_,rfl,_,rfl,a,x,_,sa,S,d,rfl,rfl,hk,hf,ho,hw,hW,hd,q⟩⟩⟩⟩
theorem iG(F:Fun K "is_record" "is_record" dU f fd)(ac:j5 cIv (aDg Vb "shape"))(ba:j4 "may_have" (mI P w (j7 0) K r aIy)):j0 ["shape","thing"] (spRq P w (j7 0) K r):=by
 w_cond uP;obtain⟨s,x,i,sa,S,d,rfl,e,hi,hw,hW,hd,q⟩:=h;refine⟨_,(jD (jJ (jF ba hr (jA (aR Ub ac hr0 rfl vG (jA (pv 0) jB)) (jA (pv 1) jB))))),?_⟩;have hil:i<S.length:=by rw[←hw.1];exact(θ.mp e).1
 refine⟨_,rfl,fun y dx hy hdx _=>⟨y,dx,.ref s,H,rfl,jR,fC hy hdx,hy,fun H1 g1 k1=>⟨rfl,_,rfl,y,x,.nest i,sa,S,d,rfl,rfl,hi,hil,.nest e k1,hw.same g1,hW,hd.same g1,fun H2 g2=>q H2 (g1.trans g2)⟩⟩⟩
theorem tY(F:Fun K "is_choice" "is_choice" cV f fd)(cv:j4 "is_number_of" (aOi P w (j7 0) K))(bz:j4 "is_record" (spRq P w (j7 0) K r)):j0 ["kind","thing"] (mI P w (j7 0) K (r+1) Kd.isPick):=by
 w_cond wC;obtain⟨a,x,kd,sa,S,d,rfl,hF,hk,hf,ho,hw,hW,hd,q⟩:=h;refine⟨_,(jE (kK (PW.pt (zQ (vA (kU (jK kZ rfl M.isinstance ie (jA (pv 1) (jA (qI (v:=.ty "tuple") rfl M.tuple ug rfl) jB))))) (xZ (jW lV (jK kF rfl M.len iq (jA (pv 1) jB)) jC)))) (jD (jJ vQ)) jL) (jD (jJ (vK (jF cv hr (jA (pv 0) (jA (jH jT (pv 1) jC) jB))) (vU (jF bz hr (jA (jH jT (qN (pv 0) rfl) (jH jT (pv 1) jC)) (jA (jH jT (pv 1) jC) jB)))))))),?_⟩;cases id ho with
 | @pick a dx t is ss h1 h2 h3 h4 =>
  refine⟨_,rfl,x,_,tyD d,rfl,by decide,hd.ty,_,rfl,?_⟩;cases hT:isa (tyD d) "tuple" with
  |false =>
   rw[aFs ((lA hT (.inr (.inr rfl))).2.2 rfl)]at q;exact qZ rfl (aBb (q H (jG.refl _)))
  |true =>
  obtain⟨ds,rfl⟩:=aFt hT;obtain⟨ad,xs,rfl,hx,dts⟩:=hd.tupI
  ·have lx:=dts.length;refine qP ο ⟨_,rfl,ad,_,rfl,.inr hx,rfl,_,rfl,?_⟩
   by_cases hl:ds.length=2
   case neg =>
    rw[rR hl]at q;exact qZ (by rw[lx];simp;omega) (q H (jG.refl _))
   obtain⟨x0,x1,d0,d1,rfl,rfl,hd0,hd1⟩:=Dqs.two dts hl;refine qP (by simp) ⟨_,rfl,_,rfl,ad,_,_,_,rfl,rfl,hx,rfl,a,x0,is,sa,d0,rfl,ho,hd0,_,rfl,?_⟩;cases hb:oC (is.length:Int) d0 with
   |false =>
    rw[mZ hb]at q;exact qP ο (q H (jG.refl _))
   |true =>
   obtain⟨j,rfl,hj⟩:=aNl hb;obtain rfl:=hd0.intI;have hi:is[j]?=some is[j]:=η hj;have hsj:ss[j]?=some ss[j]:=η (by omega);have hsa:=h4 j _ _ hi hsj;rw[wL hi]at q;refine qZ rfl ?_;refine⟨_,rfl,a,Vd,_,_,_,rfl,h1,Ud.cl,Ud.nd,rfl,_,rfl,ad,_,_,_,rfl,rfl,hx,rfl,t,_,_,_,rfl,rfl,h2,?_,_,rfl,ad,_,_,_,rfl,rfl,hx,rfl,ss[j],x1,is[j],sa,S,d1,rfl,hsa,?_,hw,hW,hd1,q⟩
   ·exact zP hsj
   ·have:=hk _ (ι hi);omega
 |_=>cases hF
theorem rK(F:Fun K "has_fields" "has_fields" cK f fd)(ba:j4 "may_have" (mI P w (j7 0) K r aIy)):j0 ["kind","thing"] (mI P w (j7 0) K (r+1) Kd.isNest):=by
 w_cond eZ;obtain⟨a,x,kd,sa,S,d,rfl,hF,hk,hf,ho,hw,hW,hd,q⟩:=h;refine⟨_,(jE (jZ 2 eZ.nd (qN (qN (pv 0) rfl) rfl)) (jE (kK (PW.pt (zQ (vA (kU (jK kZ rfl M.isinstance ie (jA (pv 1) (jA (qI (v:=.ty "dict") rfl M.dict boot_dict rfl) jB))))) (xZ (jW lV (jK (aHa (P:=P) (w:=w) rfl rfl) rfl M.len iq (jA (pv 1) jB)) (jK kF rfl M.len iq (jA (pv 2) jB)))))) (jD (jJ vQ)) jL) (jE (kK (vA (kU (jK (yK rfl) rfl M.all boot_all (jA (kR ["name","inner"] ["thing"] [1] rfl (fV (pv 2)) rfl ⟨rfl,trivial⟩ ⟨⟨rfl,rfl,rfl,_,rfl⟩,trivial⟩ (fun _ _ _ _=>(xF (K:=K) (n:=2) rfl rfl (kI (qD rfl) (kI (yT rfl) qR)))) (fun _ _ _ _=>kQ) (fun _ _ _ _=>(qT (aNz (P:=P) (w:=w) (K:=K) rfl rfl rfl hr.units1) (pv 0) (pv 2) (by with_unfolding_all rfl)))) jB)))) (jD (jJ vQ)) jL) (jD (jJ (jK (yK rfl) rfl M.all boot_all (jA (kR ["name","inner"] ["thing"] [1] rfl (fV (pv 2)) rfl ⟨rfl,trivial⟩ ⟨⟨rfl,rfl,rfl,_,rfl⟩,trivial⟩ (fun _ _ _ _=>(xF (K:=K) (n:=2) rfl rfl (kI (qD rfl) (kI (yT rfl) qR)))) (fun _ _ _ _=>kQ) (fun _ _ _ _=>(jF ba hr (jA (pv 1) (jA (bO hr.units1 (pv 2) (pv 0) (fun _ _=>rfl)) jB))))) jB))))))),?_⟩;cases id ho with
 | @nest a dx s i e h1 =>
  obtain⟨sh,hs,so⟩:=hw.at e;obtain⟨dx2,t,ps,k1,k2,k3⟩:=id so;have pn:=qY hs;have hm:=ι hs;have zl:(ps.map V.ref).length=sh.2.length:=by rw[δ];exact k3.len
  have few:=hW.good.few i sh hs;have h6:(ps.map V.ref).length<χ:=kM (by omega);refine⟨_,rfl,a,Vb,_,_,_,rfl,h1,Ub.cl,Ub.nd,rfl,s,Ve,_,_,_,rfl,k1,Ue.cl,Ue.nd,rfl,_,rfl,x,_,tyD d,rfl,by decide,hd.ty,_,rfl,?_⟩;cases hT:isa (tyD d) "dict" with
  |false =>
   rw[aFh ((lA hT (.inl rfl)).1 rfl)]at q;exact qZ rfl (aBb (q H (jG.refl _)))
  |true =>
  obtain⟨kvs,rfl⟩:=aEv hT;obtain⟨ad,u,ks,os,rfl,D⟩:=hd.dv;rw[aAo,pn]at q;have lv:(ks.map V.str++os).length=kvs.length:=by rw[D.len,ξ,δ]
  refine qP ο ⟨_,rfl,ad,u,_,rfl,D.h,D.ky,_,rfl,t,_,rfl,.inr k2,rfl,_,rfl,?_⟩
  by_cases hl:kvs.length=sh.2.length
  case neg =>
   rw[decide_eq_false hl]at q;exact qZ (by rw[zl,lv];simp;omega) (q H (jG.refl _))
  rw[decide_eq_true hl,ow]at q;refine qP (by rw[zl,lv];simp;omega) ⟨_,rfl,t,rfl,⟨_,k2⟩,zH (xs:=ps.map V.ref) (fun j ys H'=>H'=H/\ys=((sh.2.take j).map fun f=>(lkD kvs f.1).isSome).map V.bl) ⟨rfl,rfl⟩ (fun j ys H' _ z=>⟨by rw[z.1];exact k2,by rw[z.2,δ,δ,Ω];exact jq _ _⟩) h6 (fun j x ys H' os' ho' hx z=>?_) (fun ys H' z p hp=>?_)⟩
  ·obtain⟨rfl,rfl⟩:=z;obtain⟨o1,o2,rfl⟩:=mK ho';obtain⟨u',hu,rfl⟩:=qG hx;obtain⟨nm,kd,k,hf2,ht,_⟩:=k3.get hu;refine⟨u',_,rfl,ht,rfl,_,_,rfl,_,_,rfl,rfl,_,rfl,_,rfl,D.inq _ (jG.refl _) nm _ ⟨⟨rfl,?_⟩,[_,_],rfl,rfl⟩⟩;rw[qE hf2,τ,←D.lk];rfl
  ·obtain⟨rfl,rfl⟩:=z;clear 1 p H1 g1 kp hp;rw[zl,kL]at kp;refine⟨p,_,rfl,SqL.of kp,_,rfl,?_⟩;rw[pK];cases hA:sh.2.all (fun f=>(lkD kvs f.1).isSome) with
   |false =>
    rw[hA]at q;exact qZ rfl (q H1 g1)
   |true =>
   rw[hA,ow]at q;obtain⟨rfl,hks⟩:=DV.full D (hW.fnd _ hm) hl hA;refine jU ⟨_,rfl,t,rfl,⟨_,g1.tp k2⟩,zH (xs:=ps.map V.ref) (fun j ys H2=>jG H1 H2/\ys=((sh.2.take j).map fun f=>((lkD kvs f.1).map (xE S r f.2)).getD false).map V.bl) ⟨jG.refl _,rfl⟩ (fun j ys H2 _ z=>⟨z.1.tp (g1.tp k2),by rw[z.2,δ,δ,Ω];exact jq _ _⟩) h6 (fun j x ys H2 os' ho' hx z=>?_) (fun ys H2 z p2 hp2=>?_)⟩
   ·obtain⟨g2,rfl⟩:=z;obtain⟨o1,o2,rfl⟩:=mK ho';obtain⟨u',hu,rfl⟩:=qG hx;obtain⟨nm,kd,k,hf2,ht,hko⟩:=k3.get hu;have g12:=g1.trans g2;obtain⟨ad',u2,ks2,os2,ea,D2⟩:=(hd.same g12).dv;cases ea;have hm2:nm∈ks2:=by
     have:=D2.lk nm;rw[D.lk nm,decide_eq_true (hks _ (ι hf2))]at this;exact of_decide_eq_true this.symm
    have eo:os2=[]:=(DV.full D2 (hW.fnd _ hm) hl hA).1;obtain⟨v,dv,hv,hlk,hdv⟩:=D2.get eo nm hm2;have hko':=hko.more (sa.drop i);rw[nq]at hko';obtain⟨p1,p2,_⟩:=Kd.parts_ok hW.good hf hk (f:=(nm,kd)) (by rw[pn];exact ι hf2);refine⟨u',_,rfl,g12.tp ht,rfl,_,_,rfl,_,_,rfl,rfl,_,rfl,_,rfl,_,rfl,ad,v,rfl,hv,k,v,kd,sa,S,dv,rfl,rfl,p1,p2,hko'.same g12,hw.same g12,hW,hdv,fun H3 g3=>⟨⟨g2.trans g3,?_⟩,[_,_],rfl,rfl⟩⟩;rw[qE hf2,τ];show _=_++[V.bl (((lkD kvs nm).map (xE S r kd)).getD false)];rw[hlk];rfl
   ·obtain⟨g2,rfl⟩:=z;clear 1 p2 H3 g3 kp3 hp2;rw[zl,kL]at kp3;refine⟨p2,_,rfl,SqL.of kp3,?_⟩;rw[pK];exact q H3 ((g1.trans g2).trans g3)
 |_=>cases hF
theorem uE(F:Fun K "has_count" "has_count" dP f fd)(ba:j4 "may_have" (mI P w (j7 0) K r aIy)):j0 ["kind","thing"] (mI P w (j7 0) K (r+1) Kd.isMany):=by
 w_cond uB;obtain⟨a,x,kd,sa,S,d,rfl,hF,hk,hf,ho,hw,hW,hd,q⟩:=h;refine⟨_,(jE (kK (PW.pt (zQ (vA (kU (jK kZ rfl M.isinstance ie (jA (pv 1) (jA (qI (v:=.ty "list") rfl M.list rl rfl) jB))))) (xZ (jW lV (jK kF rfl M.len iq (jA (pv 1) jB)) (qN (pv 0) rfl))))) (jD (jJ vQ)) jL) (jD (jJ (jK (yK rfl) rfl M.all boot_all (jA (kR ["item"] ["kind"] [0] rfl (qL (pv 1)) rfl ⟨rfl,trivial⟩ ⟨⟨rfl,rfl,rfl,_,rfl⟩,trivial⟩ (fun _ _ _ _=>(qD rfl)) (fun _ _ _ _=>kQ) (fun _ _ _ _=>(jF ba hr (jA (nA (K:=K) rfl (pv 1) rfl) (jA (pv 0) jB))))) jB))))),?_⟩;cases id ho with
 | @many a dx b' n k h1 h2 =>
  refine⟨_,rfl,x,_,tyD d,rfl,by decide,hd.ty,_,rfl,?_⟩;cases hT:isa (tyD d) "list" with
  |false =>
   rw[aEt ((lA hT (.inr (.inl rfl))).2.1 rfl)]at q;exact qZ rfl (aBb (q H (jG.refl _)))
  |true =>
  obtain⟨ds,rfl⟩:=aFy hT;obtain⟨ad,xs,rfl,hx,hz,dts⟩:=hd.lstI
  ·have lx:=dts.length;have hn:n<=6:=hf.2.1;have q':∀H',jG H H'->Q (.bl (decide (ds.length=n)&&ds.all (xE S r k))) H':=q;refine qP ο ⟨_,rfl,ad,xs,rfl,.inl hx,_,rfl,a,Vc,_,_,_,rfl,h1,Uc.cl,Uc.nd,rfl,rfl,_,rfl,?_⟩
   by_cases hl:ds.length=n
   case neg =>
    rw[decide_eq_false hl]at q';exact qZ (by rw[lx];simp;omega) (q' H (jG.refl _))
   rw[decide_eq_true hl,ow]at q';refine qP (by rw[lx,hl];simp) ⟨_,rfl,ad,rfl,⟨_,hx⟩,vM (xs:=xs) (fun j ys H'=>jG H H'/\ys=((ds.take j).map (xE S r k)).map V.bl) ⟨jG.refl _,rfl⟩ (fun j ys H' _ z=>⟨z.1.seq hx,by rw[z.2,δ,δ,Ω];exact jq _ _⟩) (kM (by omega)) (fun j v ys H' hv z=>?_) (fun ys H' z p hp=>?_)⟩
   ·obtain⟨g,rfl⟩:=z;obtain⟨dv,hdv,hdq⟩:=dts.getX hv;have hj:j<n:=by rw[←hl];exact(θ.mp hdv).1
    have hpj:((Kd.many n k).parts S)[j]?=some (ζ (toString j),k):=by
     show((ir n).map _)[j]?=_;rw[gu,qw hj];rfl
    obtain⟨p1,p2,_⟩:=Kd.parts_ok hW.good hf hk (ι hpj);refine⟨_,rfl,a,Vc,_,_,_,rfl,g _ _ h1,Uc.cl,Uc.nd,rfl,_,rfl,b',v,k,sa,S,dv,rfl,rfl,p1,p2,h2.same g,hw.same g,hW,hdq.same g,fun H3 g3=>⟨⟨g.trans g3,?_⟩,_,rfl⟩⟩;rw[qE hdv,τ];rfl
   ·obtain⟨g,rfl⟩:=z;clear 1 p H3 g3 kp3 hp;rw[lx,kL]at kp3;refine⟨p,_,rfl,SqL.of kp3,?_⟩;rw[pK];exact q' H3 (g.trans g3)
 |_=>cases hF
theorem aHu(F:Fun K "_law_is" "_law_is" oG f fd)(bg:j4 "_law_whole" (wK P w K))(aw:j4 "_law_is" (aJj P w K r)):j0 ["_law_kind_here","_law_shapes_here","_law_thing"] (aJj P w K (r+1)):=by
 w_cond sI;obtain⟨a,sl,x,kd,S,r0,d,er,rfl,hk,hf,hlk,hlx,hW,hd,q⟩:=h;cases er;refine⟨_,(jE (kK (jW qH (jH jT (pv 0) jC) jO) (jD (jJ (vK (jF bg hr (jA (pv 2) jB)) (vU (gP dL iE jC (pv 2) (jV fM jC (jV yP jC (jH jT (pv 0) jC)))))))) jL) (jE (kK (jW qH (jH jT (pv 0) jC) jO) (jE (kK (PW.pt (zQ (vA (kU (jK kZ rfl M.isinstance ie (jA (pv 2) (jA (qI (v:=.ty "list") rfl M.list rl rfl) jB))))) (xZ (jW lV (jK kF rfl M.len iq (jA (pv 2) jB)) (jH jT (pv 0) jC))))) (jD (jJ vQ)) jL) (jD (jJ (jK (yK rfl) rfl M.all boot_all (jA (kR ["_law_one"] ["_law_shapes_here","_law_kind_here"] [1,0] rfl (qL (pv 2)) rfl ⟨rfl,⟨rfl,trivial⟩⟩ ⟨⟨rfl,rfl,rfl,_,rfl⟩,⟨⟨rfl,rfl,rfl,_,rfl⟩,trivial⟩⟩ (fun _ _ _ _=>(qD rfl)) (fun _ _ _ _=>kQ) (fun _ _ _ _=>(jF aw hr (jA (jH (gO K rfl) (pv 2) jC) (jA (pv 1) (jA (pv 0) jB)))))) jB))))) jL) (jE (kK (jW qH (jH jT (pv 0) jC) jO) (jE (kK (PW.pt (zQ (vA (kU (jK kZ rfl M.isinstance ie (jA (pv 2) (jA (qI (v:=.ty "tuple") rfl M.tuple ug rfl) jB))))) (zQ (jW lV (jK kF rfl M.len iq (jA (pv 2) jB)) jC) (xZ (vA (kU (jF bg hr (jA (jH jT (pv 2) jC) jB)))))))) (jD (jJ vQ)) jL) (jD (jJ (vK (gP dL iE jC (jH jT (pv 2) jC) (jK kF rfl M.len iq (jA (jH jT (pv 0) jC) jB))) (vU (jF aw hr (jA (kY (jA jO (jA (jH jX (jH jT (pv 0) jC) (jH jT (pv 2) jC)) jB))) (jA (pv 1) (jA (jH jT (pv 2) jC) jB))))))))) jL) (jE (jZ 3 sI.nd (jH jT (jH jX (pv 1) (jH jT (pv 0) jC)) jC)) (jE (kK (vA (kU (jK kZ rfl M.isinstance ie (jA (pv 2) (jA (qI (v:=.ty "dict") rfl M.dict boot_dict rfl) jB))))) (jD (jJ vQ)) jL) (jE (kK (jW (aIp hr.units) (jK gR rfl M.sorted (show lr "sorted" = some (.builtin "sorted") from by ac_rfl) (jA (aEk (kR ["_law_name"] [] [] rfl (aGb (P:=P) (w:=w) rfl rfl (pv 2)) rfl trivial trivial (fun _ _ _ _=>(qD rfl)) (fun _ _ _ _=>kQ) (fun _ _ _ _=>(jK (cC (P:=P) (w:=w) (K:=K) rfl rfl rfl hr.gd hr.units) rfl M.repr (show lr "repr" = some (.builtin "repr") from by ac_rfl) (jA (pv 0) jB))))) jB)) (jK gR rfl M.sorted (show lr "sorted" = some (.builtin "sorted") from by ac_rfl) (jA (kR ["_law_one"] [] [] rfl (qL (pv 3)) rfl trivial trivial (fun _ _ _ _=>(qD rfl)) (fun _ _ _ _=>kQ) (fun _ _ _ _=>(jK (cC (P:=P) (w:=w) (K:=K) rfl rfl rfl hr.gd hr.units) rfl M.repr (show lr "repr" = some (.builtin "repr") from by ac_rfl) (jA (jH (gO K rfl) (pv 0) jC) jB)))) jB))) (jD (jJ vQ)) jL) (jD (jJ (jK (yK rfl) rfl M.all boot_all (jA (kR ["_law_name","_law_inner"] ["_law_shapes_here","_law_thing"] [1,2] rfl (qL (pv 3)) rfl ⟨rfl,⟨rfl,trivial⟩⟩ ⟨⟨rfl,rfl,rfl,_,rfl⟩,⟨⟨rfl,rfl,rfl,_,rfl⟩,trivial⟩⟩ (fun _ _ _ _=>(xF (K:=K) (n:=2) rfl rfl (kI (qD rfl) (kI (yT rfl) qR)))) (fun _ _ _ _=>kQ) (fun _ _ _ _=>(jF aw hr (jA (pv 1) (jA (pv 2) (jA (bO hr.units1 (pv 3) (pv 0) (fun _ _=>rfl)) jB)))))) jB)))))))))),?_⟩;cases id hlk with
 | @num a n h1 =>
  refine⟨_,rfl,a,_,_,_,rfl,rfl,h1,rfl,rfl,_,rfl,qF ⟨_,rfl,x,tyD d,rfl,hd.ty,_,rfl,?_⟩⟩;rw[aFg]at q;have q0:=q H (jG.refl _);cases hT:(tyD d == "int") with
  |false =>
   have:oC ((256 ^ n:Nat):Int) d=false:=by rw[←nN];exact tR hT
   rw[this]at q0;exact qP ο q0
  |true =>
  obtain⟨v,rfl⟩:=ty_int hT;obtain rfl:=hd.intI;have e:∀w:Fin 5,(1:Int)*2 ^ (8*((w.val:Nat):Int)).toNat=((256 ^ w.val:Nat):Int):=by decide
  have e':=e ⟨n,by have:=hf.2;omega⟩;have hn4:=hf.2;rw[←nN]at q0;have q1:Q (.bl (decide (0<=v)&&decide (v<=((256 ^ n:Nat):Int)-1))) H:=q0;refine qZ rfl ⟨_,rfl,_,_,rfl,rfl,_,rfl,?_⟩;cases hc:decide (0<=v) with
  |false=>rw[hc]at q1;exact qP ο q1
  |true =>
   rw[hc,ow]at q1;refine qZ rfl ⟨_,rfl,a,_,_,_,rfl,rfl,h1,rfl,_,_,rfl,rfl,.inl ⟨by omega,by omega⟩,_,_,rfl,rfl,⟨by omega,by omega,by omega⟩,_,_,rfl,rfl,?_⟩;dsimp only at e' ⊢;rw[e'];refine(congrArg (fun b=>Q (V.bl b) H) ?_).mpr q1;exact decide_eq_decide.mpr ⟨fun z=>by omega,fun z=>by omega⟩
 | @many a b n k h1 h2 =>
  cases r with
  |zero=>exact(yN (.inr ⟨_,_,rfl⟩) hk).elim
  |succ r =>
  refine⟨_,rfl,a,_,_,_,rfl,rfl,h1,rfl,rfl,_,rfl,jU ⟨_,rfl,a,_,_,_,rfl,rfl,h1,rfl,rfl,_,rfl,qF ⟨_,rfl,x,_,tyD d,rfl,by decide,hd.ty,_,rfl,?_⟩⟩⟩;cases hT:isa (tyD d) "list" with
  |false =>
   rw[aEt ((lA hT (.inr (.inl rfl))).2.1 rfl)]at q;exact qZ rfl (aBb (q H (jG.refl _)))
  |true =>
  obtain⟨ds,rfl⟩:=aFy hT;obtain⟨ad,xs,rfl,hx,hz,dts⟩:=hd.lstI
  ·have lx:=dts.length;have hn:n<=6:=hf.2.1;have q':∀H',jG H H'->Q (.bl (decide (ds.length=n)&&ds.all (xE S r k))) H':=q;refine qP ο ⟨_,rfl,ad,xs,rfl,.inl hx,_,rfl,a,_,_,_,rfl,rfl,h1,rfl,rfl,_,rfl,?_⟩
   by_cases hl:ds.length=n
   case neg =>
    rw[decide_eq_false hl]at q';exact qZ (by rw[lx];simp;omega) (q' H (jG.refl _))
   rw[decide_eq_true hl,ow]at q';refine qP (by rw[lx,hl];simp) ⟨_,rfl,ad,rfl,⟨_,hx⟩,vM (xs:=xs) (fun j ys H'=>jG H H'/\ys=((ds.take j).map (xE S r k)).map V.bl) ⟨jG.refl _,rfl⟩ (fun j ys H' _ z=>⟨z.1.seq hx,by rw[z.2,δ,δ,Ω];exact jq _ _⟩) (kM (by omega)) (fun j v ys H' hv z=>?_) (fun ys H' z p hp=>?_)⟩
   ·obtain⟨g,rfl⟩:=z;obtain⟨dv,hdv,hdq⟩:=dts.getX hv;have hj:j<n:=by rw[←hl];exact(θ.mp hdv).1
    have hpj:((Kd.many n k).parts S)[j]?=some (ζ (toString j),k):=by
     show((ir n).map _)[j]?=_;rw[gu,qw hj];rfl
    obtain⟨p1,p2,_⟩:=Kd.parts_ok hW.good hf hk (ι hpj);refine⟨_,rfl,a,_,_,_,rfl,rfl,g.tp h1,rfl,_,rfl,_,rfl,b,sl,v,k,S,r,dv,rfl,rfl,p1,p2,h2.same g,hlx.same g,hW,hdq.same g,fun H3 g3=>⟨⟨g.trans g3,?_⟩,_,rfl⟩⟩;rw[qE hdv,τ];rfl
   ·obtain⟨g,rfl⟩:=z;clear 1 p H3 g3 kp3 hp;rw[lx,kL]at kp3;refine⟨p,_,rfl,SqL.of kp3,?_⟩;rw[pK];exact q' H3 (g.trans g3)
 | @pick a ll is h1 h2 =>
  cases r with
  |zero=>exact(kf _ (hk _ (ju (show 0<is.length by have:=hf.1;omega)))).elim
  |succ r =>
  refine⟨_,rfl,a,_,_,_,rfl,rfl,h1,rfl,rfl,_,rfl,jU ⟨_,rfl,a,_,_,_,rfl,rfl,h1,rfl,rfl,_,rfl,jU ⟨_,rfl,a,_,_,_,rfl,rfl,h1,rfl,rfl,_,rfl,qF ⟨_,rfl,x,_,tyD d,rfl,by decide,hd.ty,_,rfl,?_⟩⟩⟩⟩;cases hT:isa (tyD d) "tuple" with
  |false =>
   rw[aFs ((lA hT (.inr (.inr rfl))).2.2 rfl)]at q;exact qZ rfl (aBb (q H (jG.refl _)))
  |true =>
  obtain⟨ds,rfl⟩:=aFt hT;obtain⟨ad,xs,rfl,hx,dts⟩:=hd.tupI
  ·have lx:=dts.length;refine qP ο ⟨_,rfl,ad,_,rfl,.inr hx,rfl,_,rfl,?_⟩
   by_cases hl:ds.length=2
   case neg =>
    rw[rR hl]at q;exact qZ (by rw[lx];simp;omega) (aBb (q H (jG.refl _)))
   obtain⟨x0,x1,d0,d1,rfl,rfl,hd0,hd1⟩:=Dqs.two dts hl;refine qP (by simp) ⟨_,rfl,ad,_,_,_,rfl,rfl,hx,rfl,x0,tyD d0,rfl,hd0.ty,_,rfl,?_⟩;cases hT0:(tyD d0 == "int") with
   |false =>
    have hb:oC (is.length:Int) d0=false:=by rw[←nN];exact tR hT0
    rw[mZ hb]at q;exact qZ rfl (q H (jG.refl _))
   |true =>
   obtain⟨v,rfl⟩:=ty_int hT0;obtain rfl:=hd0.intI;refine qP ο ⟨_,rfl,ad,_,_,_,rfl,rfl,hx,rfl,_,_,rfl,rfl,_,rfl,?_⟩;cases hc:decide (0<=v) with
   |false =>
    have hb:oC (is.length:Int) (.int v)=false:=decide_eq_false fun z=>(of_decide_eq_false hc) z.1;rw[mZ hb]at q;exact qP ο ⟨_,rfl,qP ο (q H (jG.refl _))⟩
   |true =>
   obtain⟨j,rfl⟩:=xc (of_decide_eq_true hc);refine qZ rfl ⟨_,rfl,a,_,_,_,rfl,rfl,h1,rfl,ll,_,rfl,.inl h2,_,_,rfl,rfl,_,rfl,?_⟩;rw[δ]
   by_cases hj:j<is.length
   case neg =>
    have hb:oC (is.length:Int) (.int j)=false:=decide_eq_false fun z=>hj (by omega);rw[mZ hb]at q;rw[show decide ((j:Int)<(is.length:Int))=false from decide_eq_false (by omega)];exact qP ο (q H (jG.refl _))
   have hi:is[j]?=some is[j]:=η hj;have hil:is[j]<S.length:=hf.2.2.2 _ (ι hi);have hki:=hk _ (ι hi);rw[wL hi]at q;refine qZ (by simp;omega) ⟨_,rfl,a,_,_,_,rfl,rfl,h1,rfl,_,rfl,ad,_,_,_,rfl,rfl,hx,rfl,ll,_,_,_,rfl,rfl,h2,aCy hi,vS,fun tk htk=>?_⟩;generalize e2:upd H tk _=H2;obtain⟨g2,k2⟩:=qB e2 htk;exact⟨_,rfl,_,rfl,ad,_,_,_,rfl,rfl,g2.tp hx,rfl,tk,sl,x1,.nest is[j],S,r,d1,rfl,rfl,(by show 2*is[j]+2<=r;omega),hil,.nest (SqT.of k2),hlx.same g2,hW,hd1.same g2,fun H3 g3=>q H3 (g2.trans g3)⟩
 | @nest a i h1 =>
  cases r with
  |zero=>exact(yN (.inl ⟨_,rfl⟩) hk).elim
  |succ r =>
  have hi:i<S.length:=hf;have hS:S[i]?=some S[i]:=η hi;have ep:=qY hS;have hm:=ι hS;obtain⟨as,s,lf,ps,m1,m2,m3,m4,m5⟩:=hlx.at hi;have few:=hW.good.few i _ hS;have en:(ps.map V.ref).length=S[i].2.length:=by rw[δ,m5.len]
  have h6:(ps.map V.ref).length<χ:=kM (by omega);refine⟨_,rfl,a,_,_,_,rfl,rfl,h1,rfl,rfl,_,rfl,jU ⟨_,rfl,a,_,_,_,rfl,rfl,h1,rfl,rfl,_,rfl,jU ⟨_,rfl,a,_,_,_,rfl,rfl,h1,rfl,rfl,_,rfl,jU ⟨_,rfl,_,rfl,a,_,_,_,rfl,rfl,h1,rfl,sl,_,_,_,rfl,rfl,m1,zP m2,s,_,_,_,rfl,rfl,m3,rfl,_,rfl,x,_,tyD d,rfl,by decide,hd.ty,_,rfl,?_⟩⟩⟩⟩;cases hT:isa (tyD d) "dict" with
  |false =>
   rw[aFh ((lA hT (.inl rfl)).1 rfl)]at q;exact qZ rfl (q H (jG.refl _))
  |true =>
  obtain⟨kvs,rfl⟩:=aEv hT;obtain⟨ad,u,ks,os,rfl,D⟩:=hd.dv;rw[aAo,ep]at q;have hnm:(S[i].2.map (·.1)).Nodup:=hW.fnd _ hm;have hlow:∀f∈S[i].2,Low f.1/\f.1.length<=6:=fun f hf'=>sY hW hm hf';have few2:=D.few;refine qP ο ⟨_,rfl,ad,u,_,rfl,D.h,D.mu,D.ky,fun o=>rW (fun j ys H'=>H'=upd H ad (.frz o u)/\ys=(((ks.map V.str++os).take j).map shV).map V.str) ⟨rfl,rfl⟩ (fun j ys H' _ z=>⟨by rw[z.1];exact jR,by rw[z.2,δ,δ];exact nh _ _⟩) (kM (by rw[ξ,δ];omega)) (fun j y ys H' hy z=>?_) (fun ys H' z p hp=>?_)⟩
  ·obtain⟨rfl,rfl⟩:=z;obtain⟨c1,c2,c3,c4,_⟩:=D.key o (ι hy);refine⟨_,rfl,y,kyD y,rfl,c1,c2,c3,c4,⟨rfl,?_⟩,_,rfl⟩;rw[qE hy,τ];rfl
  obtain⟨rfl,rfl⟩:=z;rw[kL];generalize e1:upd (upd H ad (.frz o u)) p _=H1;generalize e2:upd H1 ad u=H2;obtain⟨g2,k2,kz⟩:=nY D.h hp e1 e2;refine .inr ⟨ad,o,u,kz,aPa D.h D.mu,?_⟩;rw[e2];refine⟨p,_,rfl,SqL.of k2,by rw[δ,ξ,δ];omega,fun l1 s1 hp1 hs1 hl1=>?_⟩;clear 1 l1 H3 g3 k3 hl1;have g13:=g2.trans g3;refine⟨_,rfl,lf,rfl,⟨_,g13.seq m4⟩,vM (xs:=ps.map V.ref) (fun j ys H'=>H'=H3/\ys=((S[i].2.take j).map fun f=>ul f.1).map V.str) ⟨rfl,rfl⟩ (fun j ys H' _ z=>⟨by rw[z.1];exact g13.seq m4,by rw[z.2,δ,δ];exact nh _ _⟩) h6 (fun j y ys H' hy z=>?_) (fun ys H' z p2 hp2=>?_)⟩
  ·obtain⟨rfl,rfl⟩:=z;obtain⟨t0,ht0,rfl⟩:=qG hy;obtain⟨nm',kd',kk,hfs,htt,_⟩:=m5.get ht0;obtain⟨lo1,lo2⟩:=hlow _ (ι hfs);refine⟨_,rfl,t0,_,_,_,rfl,rfl,g13.tp htt,rfl,_,.str nm',rfl,.str nm',rfl,gw _,aLb lo1 (Ψ lo2 (by decide)),⟨rfl,?_⟩,_,rfl⟩;rw[qE hfs,τ,ν.shown_str];rfl
  obtain⟨rfl,rfl⟩:=z;rw[en,kL];clear 1 p2 H4 g4 k4 hp2;refine⟨p2,_,rfl,SqL.of k4,by rw[δ];omega,fun l2 s2 hp2' hs2 hl2=>?_⟩;clear 1 l2 H5 g5 k5 hl2;have g45:=g4.trans g5;have G:=g13.trans g45;have sm1:∀x∈s1,Sml x:=fun x hx=>by
   obtain⟨y,hy,rfl⟩:=ib.mp (hp1.subset hx);exact(D.key o hy).2.2.2.2
  have sm2:∀x∈s2,Sml x:=fun x hx=>by
   obtain⟨f,hf',rfl⟩:=ib.mp (hp2'.subset hx);exact aEy (hlow f hf').1
  refine⟨.list (s1.map .str),.list (s2.map .str),.lst (SqL.of (g45 _ _ k3)) (nV s1),.lst (SqL.of k5) (nV s2),lR sm1,lR sm2,_,rfl,?_⟩;have key:ν.eqv (.list (s1.map .str)) (.list (s2.map .str))=(decide (kvs.length=S[i].2.length)&&S[i].2.all fun f=>(lkD kvs f.1).isSome):=by
   show ν.eqvAll (s1.map .str) (s2.map .str)=_;rw[aCc,aCf (names:=S[i].2.map (·.1)) D.nd hnm D.lo (fun k hk'=>by obtain⟨f,hf',rfl⟩:=ib.mp hk';exact(hlow f hf').1) (fun o' ho'=>(aIg (P:=P) (w:=w) (D.ok o' ho')).2.2.2.2.1) hp1 hs1 (by rw[jf];exact hp2') hs2,D.len,δ,List.all_map]
   congr 1
   exact congrArg (fun g=>S[i].2.all g) (funext fun f=>(D.lk f.1).symm)
  rw[key];cases hA:(decide (kvs.length=S[i].2.length)&&S[i].2.all fun f=>(lkD kvs f.1).isSome) with
  |false =>
   rw[hA]at q;exact qZ rfl (q H5 G)
  |true =>
  rw[hA,ow]at q;obtain⟨hl',hA'⟩:=jd.mp hA;have hl:=of_decide_eq_true hl';refine qP ο ⟨_,rfl,lf,rfl,⟨_,G.seq m4⟩,zU (xs:=ps.map V.ref) (fun j ys H6=>jG H5 H6/\ys=((S[i].2.take j).map fun f=>((lkD kvs f.1).map (xE S r f.2)).getD false).map V.bl) ⟨jG.refl _,rfl⟩ (fun j ys H6 _ z=>⟨z.1.seq (G.seq m4),by rw[z.2,δ,δ,Ω];exact jq _ _⟩) h6 (fun j x ys H6 os' ho' hx z=>?_) (fun ys H6 z p3 hp3=>?_)⟩
  ·obtain⟨g6,rfl⟩:=z;obtain⟨o1,o2,rfl⟩:=mK ho';obtain⟨t0,ht0,rfl⟩:=qG hx;obtain⟨nm',kd',kk,hfs,htt,hko⟩:=m5.get ht0;have g16:=G.trans g6;obtain⟨ad',u2,ks2,os2,ea,D2⟩:=(hd.same g16).dv;cases ea;obtain⟨eo,hks⟩:=DV.full D2 hnm hl hA';obtain⟨v,dv,hv,hlk',hdv⟩:=D2.get eo nm' (hks _ (ι hfs));obtain⟨p1,p2,_⟩:=Kd.parts_ok hW.good hf hk (f:=(nm',kd')) (by rw[ep];exact ι hfs);refine⟨t0,_,rfl,g16.tp htt,rfl,_,_,rfl,_,_,rfl,rfl,_,rfl,_,rfl,_,rfl,_,rfl,ad,v,rfl,hv,kk,sl,v,kd',S,r,dv,rfl,rfl,p1,p2,hko.same g16,hlx.same g16,hW,hdv,fun H7 g7=>⟨⟨g6.trans g7,?_⟩,[_,_],rfl,rfl⟩⟩;rw[qE hfs,τ];show _=_++[V.bl (((lkD kvs nm').map (xE S r kd')).getD false)];rw[hlk'];rfl
  ·obtain⟨g6,rfl⟩:=z;clear 1 p3 H7 g7 k7 hp3;rw[en,kL]at k7;refine⟨p3,_,rfl,SqL.of k7,?_⟩;rw[pK];exact q H7 ((G.trans g6).trans g7)
theorem aAp(F:Fun K "gathered" "gathered" fQ f fd)(KS:KdS K (j7 0))(bh:∀C sp,aKo (j7 0) K C sp->aB P w K mg base CX0 k "parted" C sp):j0 ["kind","values"] (aPb (j7 0) K):=by
 w_cond aBa;obtain⟨a,vl,kd,sa,S,xs,ds,fs,rfl,hpd,hf,ho,hw,hW,hv,htr,nvl,hl,q⟩:=h;refine⟨_,(jE (kK (kU (jK (bF (K:=K) rfl) rfl M.isinstance ie (jA (pv 0) (jA (qW (v:=.ref Vc) rfl Uc.m rfl) jB)))) (jD (jJ (pv 1))) jL) (jD (jJ (wS ["name","inner","value"] [] [] rfl (aFc rfl M.zip (jA (yF (pv 0) bh hr vG) (jA (pv 1) jB))) rfl trivial trivial (fun _ _ _ _=>(xF (K:=K) (n:=2) rfl rfl (kI (xF (K:=K) (n:=2) rfl rfl (kI (qD rfl) (kI (yT rfl) qR))) (kI (nG (i:=2) (show List.Nodup (["name","inner","value"]:List Str) from by ac_rfl) rfl (Or.inl rfl)) qR)))) (fun _ _ _ _=>kQ) (fun _ _ _ _=>(pv 0)) (fun _ _ _ _=>(pv 2)))))),?_⟩;rcases id hpd with⟨i,rfl⟩|⟨n,k,rfl⟩
 ·refine⟨_,rfl,.ref a,Vc,_,_,rfl,KS.ty ho,KS.kit _ (.many 0 (.num 0)),_,rfl,qP ο ?_⟩;refine⟨false,false,_,rfl,aDe (sV (by simp)) hpd hf ho hw hW.good fun l2 H2 g2 hl2 zq=>?_⟩;obtain⟨tt,k2,zl,pr⟩:=zq;have kv2:=g2 _ _ hv;have lx:xs.length=ds.length:=htr.len;have zx:xs.length=(tt.map V.ref).length:=by rw[δ,lx,zl,hl]
  have e0:(((Kd.nest i).parts S).map (·.1)).length=xs.length:=by rw[δ,lx,hl]
  refine⟨_,rfl,l2,vl,_,_,rfl,SqL.of k2,SqL.of kv2,aCt (fun D j zs H'=>jG H2 H'/\H2 D=none/\H' D=some (.dK zs)/\zs=kz ((((Kd.nest i).parts S).map (·.1)).take j) (xs.take j)) zx (fun D hD=>⟨(jG.refl H2).putn hD,hD,jR,rfl⟩) (fun D j zs H' _ z=>⟨z.1.seq (SqL.of k2),z.1.seq (SqL.of kv2)⟩) (fun D j x y zs H' p os ho' hx hy z hp=>?_) (fun D zs H' z=>?_)⟩
  ·obtain⟨g,hD,kD,rfl⟩:=z;obtain⟨t,ht,rfl⟩:=qG hx;obtain⟨y',kd',kk,hps,hq,hko⟩:=pr _ _ ht;obtain⟨o1,o2,o3,rfl⟩:=len3 ho';clear 1 p H3 g3 k3 hp;have nk:(((Kd.nest i).parts S).map (·.1))[j]?=some y':=by rw[gu,hps];rfl
   refine⟨p,_,rfl,SqT.of k3,rfl,_,_,rfl,t,_,rfl,(g.trans g3).tp hq,rfl,?_⟩;refine⟨_,_,rfl,_,_,rfl,rfl,_,_,rfl,rfl,_,rfl,_,rfl,.inr y',rfl,g3 _ _ kD,?_,⟨(g.trans g3).putn hD,hD,jR,aRj (hW.pnd hf i rfl) e0 nk hy⟩,[_,_,_],rfl,rfl⟩;have h6:=(xU hW.good hpd hf).2;rw[vY (by rw[Ω,Ω,e0]),Ω,δ];exact mw (Ψ (Nat.min_le_right _ _) h6) (by decide)
  ·obtain⟨g,hD,kD,rfl⟩:=z;rw[←zx,kL,←e0,kL]at kD;have hD0:=g2.free hD;refine q (.ref D) D H' (g2.trans g) ?_ (.inr hD0);show Tr true K H' (.ref D) (.dict (aZ ((Kd.nest i).parts S) ds)) (D::fs);rw[zX];exact .dct kD e0 (htr.same (g2.trans g)) (htr.mu.not hD0)
 ·exact⟨_,rfl,.ref a,Vc,_,_,rfl,KS.ty ho,KS.kit _ (.many 0 (.num 0)),_,rfl,qZ rfl ⟨_,rfl,q _ vl H (jG.refl _) (.lst hv htr nvl) (.inl rfl)⟩⟩
theorem aBy(F:Fun K "blank_of" "blank_of" fH f fd)(KS:KdS K (j7 0))(bh:∀C sp,aKo (j7 0) K C sp->aB P w K mg base CX0 k "parted" C sp)(fj:j4 "gathered" (aPb (j7 0) K))(bp:j4 "blank" (aFv (j7 0) K r))(ce:j4 "blank_of" (aFn (j7 0) K r)):j0 ["kind"] (aFn (j7 0) K (r+1)):=by
 w_cond aBe;obtain⟨a,kd,sa,S,r0,er,rfl,hk,hf,ho,hw,hW,q⟩:=h;cases er;refine⟨_,(jE (kK (kU (jK (bF (K:=K) rfl) rfl M.isinstance ie (jA (pv 0) (jA (qW (v:=.ref Va) rfl Ua.m rfl) jB)))) (jD (jJ jC)) jL) (jE (kK (kU (jK (bF (K:=K) rfl) rfl M.isinstance ie (jA (pv 0) (jA (qW (v:=.ref Vd) rfl Ud.m rfl) jB)))) (jD (jJ (kY (jA jC (jA (jF bp hr (jA (jH jT (qN (pv 0) rfl) jC) jB)) jB))))) jL) (jD (jJ (jF fj hr (jA (pv 0) (jA (kR ["step","inner"] [] [] rfl (qL (yF (pv 0) bh hr vG)) rfl trivial trivial (fun _ _ _ _=>(xF (K:=K) (n:=2) rfl rfl (kI (qD rfl) (kI (yT rfl) qR)))) (fun _ _ _ _=>kQ) (fun _ _ _ _=>(jF ce hr (jA (pv 1) jB)))) jB))))))),?_⟩;rcases Kd.three kd with hpd|⟨w,rfl⟩|⟨is,rfl⟩
 ·obtain⟨n1,n2⟩:=Kd.Pd.sam hpd;cases r with
  |zero=>exact(yN hpd hk).elim
  |succ r =>
  rw[aFw hpd]at q;refine⟨_,rfl,.ref a,Va,_,_,rfl,KS.ty ho,KS.kit _ (.num 0),_,rfl,qP (by rw[n1];decide) ⟨_,rfl,.ref a,Vd,_,_,rfl,KS.ty ho,KS.kit _ (.pick []),_,rfl,qP (by rw[n2];decide) ⟨_,rfl,_,rfl,aDe (sV (by simp)) hpd hf ho hw hW.good fun l2 H2 g2 hl2 zq=>?_⟩⟩⟩;obtain⟨tt,k2,zl,pr⟩:=zq;have few:=(xU hW.good hpd hf).2;refine⟨l2,rfl,⟨_,SqL.of k2⟩,zU (xs:=tt.map V.ref) (fun j ys H'=>jG H2 H'/\∃fs,Trs true K H' ys (((kd.parts S).take j).map fun f=>blD S r f.2) fs/\New H2 fs) ⟨jG.refl _,[],.nil,fun b hb=>by cases hb⟩ (fun j ys H' _ z=>⟨z.1.seq (SqL.of k2),?_⟩) (kM (by rw[δ];omega)) (fun j x ys H' os ho' hx z=>?_) (fun ys H' z p hp=>?_)⟩
  ·obtain⟨_,fs,h1,_⟩:=z;rw[h1.len,δ];exact nh _ _
  ·obtain⟨g,fs,htr,hnew⟩:=z;obtain⟨o1,o2,rfl⟩:=mK ho';obtain⟨t,ht,rfl⟩:=qG hx;obtain⟨y,kd',kk,hps,hq,hko⟩:=pr _ _ ht;obtain⟨p1,p2,_⟩:=Kd.parts_ok hW.good hf hk (ι hps);refine⟨t,_,rfl,g.tp hq,rfl,_,_,rfl,_,_,rfl,rfl,_,rfl,kk,kd',sa,S,r,rfl,rfl,p1,p2,hko.same g,hw.same (g2.trans g),hW,fun v gs H3 g3 hn3 h3=>⟨⟨g.trans g3,fs++gs,?_,hnew.app (hn3.back g)⟩,[_,_],rfl,rfl⟩⟩;rw[qE hps];exact Trs.snoc h3 (htr.same g3) (hn3.dis htr.mu)
  ·obtain⟨g,fs,htr,hnew⟩:=z;rw[δ,zl,kL]at htr;clear 1 p H3 g3 k3 hp;have g13:=(g2.trans g).trans g3;exact⟨a,p,kd,sa,S,ys,_,fs,rfl,hpd,hf,ho.same g13,hw.same g13,hW,k3,htr.same g3,htr.mu.not hp,(by rw[δ]),fun v b H4 g4 h4 hb=>q v (b::fs) H4 (g13.trans g4) (New.cons (hb.elim (fun z=>by rw[z];exact(g2.trans g).free hp) fun z=>g13.free z) (hnew.back g2)) h4⟩
 ·have e:blD S r (.num w)=.int (0:Nat):=by cases r <;> rfl
  rw[e]at q;exact⟨_,rfl,.ref a,Va,_,_,rfl,KS.ty ho,KS.kit _ (.num 0),_,rfl,qZ rfl (q (.int (0:Nat)) [] H (jG.refl _) (fun b hb=>by cases hb) (.int _))⟩
 ·cases r with
  |zero=>exact(kf _ (hk _ (ju (show 0<is.length by have:=hf.1;omega)))).elim
  |succ r =>
  have h0 : 0<is.length:=by have:=hf.1;omega
  have hi:is[0]?=some is[0]:=η h0;have eg:is.getD 0 0=is[0]:=by rw[Θ,hi];rfl
  have eb:blD S (r+1) (.pick is)=.tuple [.int (0:Nat),blD S r (.nest is[0])]:=by
   show vt [.int (0:Nat),blD S r (.nest (is.getD 0 0))]=_;rw[eg]
  rw[eb]at q;have hki:=hk _ (ι hi);cases id ho with
  | @pick a dx t is ss h1 h2 h3 h4 =>
   obtain⟨sj,hsj⟩ : ∃s,ss[0]?=some s:=⟨_,η (by omega)⟩;have hsa:=h4 0 _ _ hi hsj;refine⟨_,rfl,.ref a,Va,_,_,rfl,KS.ty ho,KS.kit _ (.num 0),_,rfl,qP ο ⟨_,rfl,.ref a,Vd,_,_,rfl,KS.ty ho,KS.kit _ (.pick []),_,rfl,qZ rfl ⟨_,rfl,a,Vd,_,_,_,rfl,h1,Ud.cl,Ud.nd,rfl,t,_,_,_,rfl,rfl,h2,zP (i:=0) hsj,sj,is[0],sa,S,r,rfl,rfl,hsa,(by omega),hw,hW,fun v fs H3 g3 hn3 h3=>⟨vS,fun t5 ht5=>?_⟩⟩⟩⟩;clear 1 t5 H5 g5 k5 ht5;exact q (.ref t5) fs H5 (g3.trans g5) hn3 (.tup (SqT.of k5) (h3.same g5))
theorem aIx{r:Nat}(F:Fun K "blank" "blank" tQ f fd)(ac:j5 cIv (aDg Vb "shape"))(ce:j4 "blank_of" (aFn (j7 0) K (r+1))):j0 ["shape"] (aFv (j7 0) K (r+1)):=by
 w_cond aIk;obtain⟨s,i,sa,S,r0,er,rfl,e0,hi,hw,hW,q⟩:=h;cases er;refine⟨_,(jD (jJ (jF ce hr (jA (aR Ub ac hr0 rfl vG (jA (pv 0) jB)) jB)))),?_⟩;have hil:i<S.length:=by rw[←hw.1];exact(θ.mp e0).1
 exact⟨_,rfl,fun y dx hy hdx _=>⟨y,dx,.ref s,H,rfl,jR,fC hy hdx,hy,fun H1 g1 k1=>⟨rfl,y,.nest i,sa,S,r,rfl,rfl,hi,hil,.nest e0 k1,hw.same g1,hW,fun v fs H2 g2 hn h2=>q v fs H2 (g1.trans g2) (hn.back g1) h2⟩⟩⟩
theorem oA(F:Fun K "_law_answers" "_law_answers" aK f fd)(bz:j4 "is_record" (spRq P w (j7 0) K r)):j0 ["_law_shape","_law_thing","_law_due"] (aCz P w (j7 0) K r):=by
 w_cond dZ;obtain⟨s,x,b,i,sa,S,d,rfl,e,hi,hw,hW,hd,hb,q⟩:=h;refine⟨_,(jE (jZ 3 dZ.nd (jF bz hr (jA (pv 0) (jA (pv 1) jB)))) (jD (jJ (vK (jK kZ rfl M.isinstance ie (jA (pv 3) (jA (qI (v:=.ty "bool") rfl M.bool boot_bool rfl) jB))) (vU (qT qH (pv 3) (pv 2) (vV _))))))),?_⟩;subst hb;exact⟨_,rfl,_,rfl,s,x,i,sa,S,d,rfl,e,hi,hw,hW,hd,fun H1 g1=>⟨_,rfl,_,_,"bool",rfl,by decide,.inl rfl,_,rfl,qF ⟨_,rfl,_,rfl,rfl,(by rw[decide_eq_true rfl];exact q H1 g1)⟩⟩⟩
theorem uC(F:Fun K "_law_blank" "_law_blank" dA f fd)(au:j4 "_law_blank" (spLB K r)):j0 ["_law_kind_here","_law_shapes_here"] (spLB K (r+1)):=by
 w_cond zD;obtain⟨a,sl,kd,S,r0,er,rfl,hk,hf,hlk,hlx,hW,q⟩:=h;cases er;refine⟨_,(jE (kK (jW qH (jH jT (pv 0) jC) jO) (jD (jJ jC)) jL) (jE (kK (jW qH (jH jT (pv 0) jC) jO) (jD (jJ (kR ["_law_k"] ["_law_shapes_here","_law_kind_here"] [1,0] rfl (qX rfl M.range (jA (jH jT (pv 0) jC) jB)) rfl ⟨rfl,⟨rfl,trivial⟩⟩ ⟨⟨rfl,rfl,rfl,_,rfl⟩,⟨⟨rfl,rfl,rfl,_,rfl⟩,trivial⟩⟩ (fun _ _ _ _=>(qD rfl)) (fun _ _ _ _=>kQ) (fun _ _ _ _=>(jF au hr (jA (jH (gO K rfl) (pv 2) jC) (jA (pv 1) jB))))))) jL) (jE (kK (jW qH (jH jT (pv 0) jC) jO) (jD (jJ (kY (jA jC (jA (jF au hr (jA (kY (jA jO (jA (jH jX (jH jT (pv 0) jC) jC) jB))) (jA (pv 1) jB))) jB))))) jL) (jE (jZ 2 zD.nd zO) (jE (xQ jv rfl (qL (jH jT (jH jX (pv 1) (jH jT (pv 0) jC)) jC)) (cO rfl (kI (qV 3 zD.nd) (kI (qV 4 zD.nd) qR))) (jD (eF hr.units1 (pv 2) (pv 3) (jF au hr (jA (pv 4) (jA (pv 1) jB))) rfl))) (jD (jJ (pv 2)))))))),?_⟩;cases id hlk with
 | @num a n h1 =>
  have e:blD S r (.num n)=.int (0:Nat):=by cases r <;> rfl
  rw[e]at q;exact⟨_,rfl,a,_,_,_,rfl,rfl,h1,rfl,rfl,_,rfl,qF (q (.int (0:Nat)) [] H (jG.refl _) (fun b hb=>by cases hb) (.int _))⟩
 | @pick a ll is h1 h2 =>
  cases r with
  |zero=>exact(kf _ (hk _ (ju (show 0<is.length by have:=hf.1;omega)))).elim
  |succ r =>
  have h0 : 0<is.length:=by have:=hf.1;omega
  have hi:is[0]?=some is[0]:=η h0;have eg:is.getD 0 0=is[0]:=by rw[Θ,hi];rfl
  have eb:blD S (r+1) (.pick is)=.tuple [.int (0:Nat),blD S r (.nest is[0])]:=by
   show vt [.int (0:Nat),blD S r (.nest (is.getD 0 0))]=_;rw[eg]
  rw[eb]at q;have hil:is[0]<S.length:=hf.2.2.2 _ (ι hi);have hki:=hk _ (ι hi);refine⟨_,rfl,a,_,_,_,rfl,rfl,h1,rfl,rfl,_,rfl,jU ⟨_,rfl,a,_,_,_,rfl,rfl,h1,rfl,rfl,_,rfl,jU ⟨_,rfl,a,_,_,_,rfl,rfl,h1,rfl,rfl,_,rfl,qF ⟨_,rfl,a,_,_,_,rfl,rfl,h1,rfl,ll,_,_,_,rfl,rfl,h2,aCy (j:=0) hi,vS,fun tk htk=>?_⟩⟩⟩⟩;clear 1 tk H2 g2 k2 htk;refine⟨_,rfl,tk,sl,.nest is[0],S,r,rfl,rfl,(by show 2*is[0]+2<=r;omega),hil,.nest (SqT.of k2),hlx.same g2,hW,fun v fs H3 g3 hn3 h3=>⟨vS,fun t5 ht5=>?_⟩⟩;clear 1 t5 H5 g5 k5 ht5;exact q (.ref t5) fs H5 ((g2.trans g3).trans g5) (hn3.back g2) (.tup (SqT.of k5) (h3.same g5))
 | @many a b n k h1 h2 =>
  cases r with
  |zero=>exact(yN (.inr ⟨_,_,rfl⟩) hk).elim
  |succ r =>
  have hn6:n<=6:=hf.2.1;have pl:((Kd.many n k).parts S).length=n:=by show((ir n).map _).length=n;rw[δ,jo]
  rw[aFw (.inr ⟨n,k,rfl⟩)]at q;refine⟨_,rfl,a,_,_,_,rfl,rfl,h1,rfl,rfl,_,rfl,jU ⟨_,rfl,a,_,_,_,rfl,rfl,h1,rfl,rfl,_,rfl,qF ⟨_,rfl,a,_,_,_,rfl,rfl,h1,rfl,n,rfl,by omega,by omega,xT (n:=n) (fun j zs H'=>jG H H'/\∃fs,Trs true K H' zs ((((Kd.many n k).parts S).take j).map fun f=>blD S r f.2) fs/\New H fs) ⟨jG.refl _,[],.nil,fun b hb=>by cases hb⟩ (fun j zs H' hj z=>?_) (kM (by omega)) (fun j zs H' hj z=>?_) (fun zs H' z l hl=>?_)⟩⟩⟩
  ·obtain⟨_,fs,h3,_⟩:=z;rw[h3.len,δ];exact nh _ _
  ·obtain⟨g,fs,hdt,hnew⟩:=z;have hps:((Kd.many n k).parts S)[j]?=some (ζ (toString j),k):=by
    show((ir n).map _)[j]?=_;rw[gu,qw hj];rfl
   obtain⟨p1,p2,_⟩:=Kd.parts_ok hW.good hf hk (ι hps);refine⟨_,rfl,a,_,_,_,rfl,rfl,g.tp h1,rfl,_,rfl,b,sl,k,S,r,rfl,rfl,p1,p2,h2.same g,hlx.same g,hW,fun v gs H3 g3 hn3 h3=>⟨⟨g.trans g3,fs++gs,?_,hnew.app (hn3.back g)⟩,_,rfl⟩⟩;rw[qE hps];exact Trs.snoc h3 (hdt.same g3) (hn3.dis hdt.mu)
  ·obtain⟨g,fs,hdt,hnew⟩:=z;clear 1 l H3 g3 k3 hl;rw[mh (by rw[pl];exact μ _)]at hdt;exact q (.ref l) (l::fs) H3 (g.trans g3) (New.cons (g.free hl) hnew) (.lst k3 (hdt.same g3) (hdt.mu.not hl))
 | @nest a i h1 =>
  cases r with
  |zero=>exact(yN (.inl ⟨_,rfl⟩) hk).elim
  |succ r =>
  have hi:i<S.length:=hf;have hS:S[i]?=some S[i]:=η hi;have ep:=qY hS;obtain⟨as,s,lf,ps,m1,m2,m3,m4,m5⟩:=hlx.at hi;have few:=hW.good.few i _ hS;rw[aFw (.inl ⟨i,rfl⟩)]at q;refine⟨_,rfl,a,_,_,_,rfl,rfl,h1,rfl,rfl,_,rfl,jU ⟨_,rfl,a,_,_,_,rfl,rfl,h1,rfl,rfl,_,rfl,jU ⟨_,rfl,a,_,_,_,rfl,rfl,h1,rfl,rfl,_,rfl,jU (fun l0 hl0=>?_)⟩⟩⟩;clear 1 l0 H1 g1 k1 hl0;refine⟨_,rfl,_,rfl,a,_,_,_,rfl,rfl,g1.tp h1,rfl,sl,_,_,_,rfl,rfl,g1.seq m1,zP m2,s,_,_,_,rfl,rfl,g1.tp m3,rfl,lf,rfl,⟨_,g1.seq m4⟩,xI (xs:=ps.map V.ref) (fun j σ H'=>∃(o3 o4:Option V) (zs:List V),σ = [some (.ref a),some (.ref sl),some (.ref l0),o3,o4]/\But l0 H1 H'/\H' l0=some (.dK (kz ((((Kd.nest i).parts S).map (·.1)).take j) zs))/\zs.length=j/\∃fs,Trs true K H' zs ((((Kd.nest i).parts S).take j).map fun f=>blD S r f.2) fs/\New H1 fs) ⟨_,_,[],rfl,fun _ _ _ z=>z,k1,rfl,[],.nil,fun b hb=>by cases hb⟩ (fun j σ H' _ z=>?_) (fun j x' σ H' hx z=>?_) (fun σ H' z=>?_)⟩
  ·obtain⟨o3,o4,zs,rfl,g,_⟩:=z;exact(aAz g1 hl0 g).seq m4
  ·obtain⟨o3,o4,zs,rfl,g,k0,hzj,fs,hdt,hnew⟩:=z;obtain⟨t0,ht0,rfl⟩:=qG hx;obtain⟨nm',kd',kk,hfs,htt,hko⟩:=m5.get ht0;have hps:((Kd.nest i).parts S)[j]?=some (nm',kd'):=by rw[ep];exact hfs
   obtain⟨p1,p2,_⟩:=Kd.parts_ok hW.good hf hk (ι hps);have sO:=aAz g1 hl0 g;have hjl:j<((Kd.nest i).parts S).length:=(θ.mp hps).1;have hkl:((((Kd.nest i).parts S).map (·.1)).take j).length=zs.length:=by rw[Ω,δ,hzj];omega
   have nk:(((Kd.nest i).parts S).map (·.1))[j]?=some nm':=by rw[gu,hps];rfl
   refine⟨t0,_,rfl,sO.tp htt,rfl,_,_,rfl,_,_,rfl,rfl,_,rfl,_,rfl,kk,sl,kd',S,r,rfl,rfl,p1,p2,hko.same sO,hlx.same sO,hW,fun v gs H3 g3 hn3 h3=>?_⟩;have k3:=g3 _ _ k0;have nl:l0∉fs++gs:=fun z=>(iz.mp z).elim (fun z=>by have:=hnew l0 z;rw[k1]at this;cases this) fun z=>by have:=hn3 l0 z;rw[k0]at this;cases this
   have hn1:New H1 (fs++gs):=hnew.app fun b hb=>by
    cases e:H1 b with
    |none=>rfl
    |some o =>
     have ne:b≠l0:=fun z=>nl (gq _ (z ▸ hb));have:=g b o ne e;rw[hn3 b hb]at this;cases this
   have hts:=(Trs.snoc h3 (hdt.same g3) (hn3.dis hdt.mu)).put nl (.inr ⟨_,k3⟩) (o:=.dK (kz ((((Kd.nest i).parts S).map (·.1)).take (j+1)) (zs++[v])));refine⟨_,rfl,_,rfl,l0,_,rfl,.inl ⟨_,.inr nm',k3,rfl,(by rw[vY hkl,hkl,hzj];rw[ep]at hjl;exact Γ hjl (Ψ few (by decide))),rfl⟩,?_⟩;rw[aDa (v:=v) (hW.pnd hf i rfl) hzj nk];generalize e4:upd H3 l0 _=H4;rw[e4]at hts;obtain⟨g4,k4⟩:=bH e4;refine⟨_,_,zs++[v],rfl,fun b o hb e=>g4 b o hb (g3 _ _ (g b o hb e)),k4,by rw[ξ,hzj];rfl,fs++gs,?_,hn1⟩;rw[qE hps];exact hts
  ·obtain⟨o3,o4,zs,rfl,g,k0,hzj,fs,hdt,hnew⟩:=z;have en:(ps.map V.ref).length=((Kd.nest i).parts S).length:=by rw[ep,δ,m5.len]
   rw[en,kL]at hdt;rw[en,←δ (·.1),kL]at k0;have nl:l0∉fs:=fun z=>by have:=hnew l0 z;rw[k1]at this;cases this
   refine⟨_,rfl,q (.ref l0) (l0::fs) H' (aAz g1 hl0 g) (New.cons hl0 (hnew.back g1)) ?_⟩;show Tr true K H' (.ref l0) (.dict (aZ _ _)) _;rw[zX];exact .dct k0 (by rw[δ,hzj,en]) hdt nl
theorem eL{r:Nat}(F:Fun K "_law_sortwise_all" "_law_sortwise_all" xR f fd)(be:j4 "_law_sortwise" (spSw K (r+1))):j0 ["_law_found","_law_due"] (aIh K (r+1)):=by
 w_cond eQ;obtain⟨a,b,xs,ys,ds,fs,S,r0,er,rfl,h50,hfs,hW,hcl,few,hx,hy,hdx,hdy,q⟩:=h;cases er;refine⟨_,(jD (jJ (jK (yK rfl) rfl M.all boot_all (jA (kR ["_law_one","_law_other"] [] [] rfl (aFc rfl M.zip (jA (pv 0) (jA (pv 1) jB))) rfl trivial trivial (fun _ _ _ _=>(xF (K:=K) (n:=2) rfl rfl (kI (qD rfl) (kI (yT rfl) qR)))) (fun _ _ _ _=>kQ) (fun _ _ _ _=>(jF be hr (jA (pv 0) (jA (pv 1) jB))))) jB)))),?_⟩;have lx:=hdx.length;have ly:=hdy.length;refine⟨false,false,_,rfl,_,rfl,a,b,xs,ys,rfl,hx,hy,aGf (xs:=xs) (ys:=ys) (fun j zs H'=>jG H H'/\zs=((xs.take j).map fun _=>true).map V.bl) (by omega) ⟨jG.refl _,rfl⟩ (fun j zs H' _ z=>⟨z.1.seq hx,z.1.seq hy,by rw[z.2,δ,δ];exact nh _ _⟩) (kM (by omega)) (fun j x y zs H' p os ho hxj hyj z hp=>?_) (fun zs H' z p hp=>?_)⟩
 ·obtain⟨g,rfl⟩:=z;obtain⟨o1,o2,rfl⟩:=mK ho;clear 1 p H3 g3 k3 hp;have hj:j<ds.length:=by rw[←lx];exact(θ.mp hxj).1
  have hdj:ds[j]?=some ds[j]:=η hj;obtain⟨x',h1,h2⟩:=hdx.get hdj;obtain⟨y',h3,h4⟩:=hdy.get hdj;rw[hxj]at h1;rw[hyj]at h3;cases h1;cases h3;obtain⟨f,hf,hc⟩:=yC.getD hcl hdj;have G:=g.trans g3;refine⟨p,_,rfl,SqT.of k3,rfl,_,_,rfl,_,_,rfl,rfl,_,rfl,_,rfl,x,y,ds[j],f.2,S,r,rfl,rfl,h50,(hfs f hf).1,(hfs f hf).2,hW,hc,h2.same G,h4.same G,fun H4 g4=>⟨⟨G.trans g4,?_⟩,[_,_],rfl,rfl⟩⟩;rw[qE hxj,τ];rfl
 ·obtain⟨g,rfl⟩:=z;clear 1 p H3 g3 k3 hp;refine⟨p,_,rfl,SqL.of k3,?_⟩;rw[wM (fun f hf=>rfl)];exact q H3 (g.trans g3)
theorem mV(F:Fun K "_law_sortwise" "_law_sortwise" zM f fd)(bg:j4 "_law_whole" (wK P w K))(bo:j4 "_law_sortwise_all" (aIh K r)):j0 ["_law_found","_law_due"] (spSw K (r+1)):=by
 w_cond mR;obtain⟨x,y,d,kd,S,r0,er,rfl,h50,hk,hf,hW,hc,hx,hy,q⟩:=h;cases er;refine⟨_,(jE (kK (kU (jK kZ rfl M.isinstance ie (jA (pv 1) (jA (qI (v:=.ty "dict") rfl M.dict boot_dict rfl) jB)))) (jE (kK (PW.pt (zQ (vA (kU (jK kZ rfl M.isinstance ie (jA (pv 0) (jA (qI (v:=.ty "dict") rfl M.dict boot_dict rfl) jB))))) (xZ (jW (aNr hr.units) (pv 0) (pv 1))))) (jD (jJ vQ)) jL) (jD (jJ (jF bo hr (jA (aEk (kR ["_law_name"] ["_law_found"] [0] rfl (aGb (P:=P) (w:=w) rfl rfl (pv 1)) rfl ⟨rfl,trivial⟩ ⟨⟨rfl,rfl,rfl,_,rfl⟩,trivial⟩ (fun _ _ _ _=>(qD rfl)) (fun _ _ _ _=>kQ) (fun _ _ _ _=>(bO hr.units1 (pv 1) (pv 0) (fun _ _=>rfl))))) (jA (qA (aCl rfl) rfl M.list rl (jA (aJf qp PySem.F.slot_dict_values PySem.F.type_dict_values aHv (pv 1)) jB)) jB)))))) jL) (jE (kK (kU (jK aHh rfl M.isinstance ie (jA (pv 1) (jA (kY (jA (qI (v:=.ty "list") rfl M.list rl rfl) (jA (qI (v:=.ty "tuple") rfl M.tuple ug rfl) jB))) jB)))) (jD (jJ (vK (qT (aFl hr.units) (pv 0) (pv 1) (vV _)) (vU (jF bo hr (jA (qA bW rfl M.list rl (jA (pv 0) jB)) (jA (qA bW rfl M.list rl (jA (pv 1) jB)) jB))))))) jL) (jD (jJ (vK (jF bg hr (jA (pv 0) jB)) (vU (qT qH (pv 0) (pv 1) (vV _)))))))),?_⟩;have hdp:=aJs hW hf hk hc;rcases Kd.three kd with hpd|⟨n,rfl⟩|⟨is,rfl⟩
 ·cases r with
  |zero=>exact(yN hpd hk).elim
  |succ r =>
  have few:=(xU hW.good hpd hf).2;have hpk:∀f∈kd.parts S,f.2.Rk r/\f.2.Fit S.length:=fun f hf'=>by
   obtain⟨p1,p2,_⟩:=Kd.parts_ok hW.good hf hk hf';exact⟨p1,p2⟩
  obtain⟨ds,rfl,cl⟩:=(cZ hpd).mp hc;have ln:=cl.len;rcases id hpd with⟨i,rfl⟩|⟨m,k,rfl⟩
  ·obtain⟨a,xs,rfl,a1,a2,a3⟩:=lP hx ln;obtain⟨b,ys,rfl,b1,b2,b3⟩:=lP hy ln;have nd:=hW.pnd hf i rfl;have lk1:(((Kd.nest i).parts S).map (·.1)).length=xs.length:=by rw[δ];exact a2
   have lk2:(((Kd.nest i).parts S).map (·.1)).length=ys.length:=by rw[δ];exact b2
   have kyb:KyO P w b (.dK (kzA (((Kd.nest i).parts S).map (·.1)) ys)) ((((Kd.nest i).parts S).map (·.1)).map V.str):=oP lk2 (by rw[δ];omega);refine⟨_,rfl,.ref b,_,"dict",rfl,by decide,.inr ⟨rfl,b,_,_,rfl,b1,kyb⟩,_,rfl,qF ⟨_,rfl,.ref a,_,"dict",rfl,by decide,.inr ⟨rfl,a,_,_,rfl,a1,oP lk1 (by rw[δ];omega)⟩,_,rfl,jU ⟨_,rfl,_,rfl,aIt (i:=i) hc hx hy (by omega) ⟨_,rfl,jU ?_⟩⟩⟩⟩;refine⟨_,rfl,b,_,_,rfl,b1,iu,kyb,fun o=>rW (fun j zs H'=>H'=upd H b (.frz o _)/\zs=xs.take j) ⟨rfl,rfl⟩ (fun j zs H' _ z=>⟨by rw[z.1];exact jR,by rw[z.2];exact nh _ _⟩) (kM (by rw[δ,δ];omega)) (fun j v zs H' hv z=>?_) (fun zs H' z p hp=>?_)⟩
   ·obtain⟨rfl,rfl⟩:=z;obtain⟨nm,hnm,rfl⟩:=yM hv;have hjx:j<xs.length:=by rw[←lk1];exact(θ.mp hnm).1
    have exj:xs[j]?=some xs[j]:=η hjx;refine⟨_,rfl,_,rfl,a,xs[j],rfl,?_,⟨rfl,by rw[List.take_succ_eq_append_getElem hjx]⟩,_,rfl⟩;rw[←aPc nd lk1 hnm exj];exact aHs (k:=.inr nm) a1 b1
   obtain⟨rfl,rfl⟩:=z;rw[δ,lk1,kL];generalize e1:upd (upd H b (.frz o _)) p _=H1;generalize e2:upd H1 b _=H2;obtain⟨g2,k2,kz'⟩:=nY b1 hp e1 e2;refine .inr ⟨b,o,_,kz',aPa b1 iu,?_⟩;rw[e2];refine⟨_,rfl,.inr (.inr (.inl ⟨rfl,.inl ⟨_,g2 _ _ b1⟩⟩)),b,_,rfl,rfl,g2 _ _ b1,fun v hv=>?_⟩;clear 1 v H3 g3 k3 hv;refine⟨v,b,_,rfl,k3,g3 _ _ (g2 _ _ b1),by rw[vY lk2,δ];omega,fun l hl=>?_⟩;generalize e4:upd H3 l _=H4;obtain⟨g4,k4⟩:=qB e4 hl;have G:=(g2.trans g3).trans g4;rw[aJa lk2]at k4;exact⟨p,l,xs,ys,ds,_,S,r,rfl,rfl,by omega,hpk,hW,cl,by omega,SqL.of (g4 _ _ (g3 _ _ k2)),SqL.of k4,a3.same G,b3.same G,fun H5 g5=>q H5 (G.trans g5)⟩
  ·obtain⟨a,xs,rfl,hxa,_,dxs⟩:=hx.lstI
   ·obtain⟨b,ys,rfl,hyb,_,dys⟩:=hy.lstI
    ·refine⟨_,rfl,.ref b,_,"list",rfl,by decide,.inl (.inl ⟨rfl,_,hyb⟩),_,rfl,jU ⟨_,rfl,vS,fun tp htp=>?_⟩⟩;generalize e1:upd H tp _=H1;obtain⟨g1,k1⟩:=qB e1 htp;refine⟨.ref b,tp,"list",rfl,k1,.inl ⟨rfl,_,g1.seq hyb⟩,.inr (.inl rfl),_,rfl,qF ⟨_,rfl,_,rfl,_,hx.same g1,hy.same g1,by omega,_,rfl,qZ rfl ⟨_,rfl,a,xs,rfl,.inl (g1.seq hxa),fun l2 hl2=>?_⟩⟩⟩;generalize e2:upd H1 l2 _=H2;obtain⟨g2,k2⟩:=qB e2 hl2;refine⟨_,rfl,b,ys,rfl,.inl (g2.seq (g1.seq hyb)),fun l3 hl3=>?_⟩;clear 1 l3 H3 g3 k3 hl3;have G:=(g1.trans g2).trans g3;exact⟨l2,l3,xs,ys,ds,_,S,r,rfl,rfl,by omega,hpk,hW,cl,by omega,SqL.of (g3 _ _ k2),SqL.of k3,dxs.same G,dys.same G,fun H5 g5=>q H5 (G.trans g5)⟩
 ·obtain⟨v,rfl,hv⟩ : ∃v:Nat,d=.int v/\v<256 ^ n:=by cases r <;> exact hc
  obtain rfl:=hx.intI;obtain rfl:=hy.intI;refine⟨_,rfl,.int v,_,"int",rfl,by decide,.inl rfl,_,rfl,jU ⟨_,rfl,vS,fun tp htp=>?_⟩⟩;generalize e1:upd H tp _=H1;obtain⟨g1,k1⟩:=qB e1 htp;exact⟨.int v,tp,"int",rfl,k1,rfl,.inl rfl,_,rfl,jU ⟨_,rfl,.int v,"int",rfl,.inl rfl,_,rfl,qF ⟨_,rfl,_,rfl,rfl,(by rw[decide_eq_true rfl];exact q H1 g1)⟩⟩⟩
 ·cases r with
  |zero=>exact(kf _ (hk _ (ju (show 0<is.length by have:=hf.1;omega)))).elim
  |succ r =>
  obtain⟨j,i,e,hi,rfl,hce⟩ : ∃(j i:Nat) (e:ν),is[j]?=some i/\d=.tuple [.int j,e]/\Can S r (.nest i) e:=hc;have hil:i<S.length:=hf.2.2.2 i (ι hi);have hki:=hk i (ι hi);have hjl:j<is.length:=(θ.mp hi).1;have hj4:=hf.2.1;obtain⟨a,xs,rfl,hxa,dxs⟩:=hx.tupI
  ·obtain⟨b,ys,rfl,hyb,dys⟩:=hy.tupI
   ·have l1:=dxs.length;have l2:=dys.length;refine⟨_,rfl,.ref b,_,"tuple",rfl,by decide,.inl (.inr ⟨rfl,_,hyb⟩),_,rfl,jU ⟨_,rfl,vS,fun tp htp=>?_⟩⟩;generalize e1:upd H tp _=H1;obtain⟨g1,k1⟩:=qB e1 htp;refine⟨.ref b,tp,"tuple",rfl,k1,.inr ⟨rfl,_,g1.tp hyb⟩,.inr (.inr rfl),_,rfl,qF ⟨_,rfl,_,rfl,_,hx.same g1,hy.same g1,by omega,_,rfl,qZ rfl ⟨_,rfl,a,xs,rfl,.inr (g1.tp hxa),fun l2 hl2=>?_⟩⟩⟩;generalize e2:upd H1 l2 _=H2;obtain⟨g2,k2⟩:=qB e2 hl2;refine⟨_,rfl,b,ys,rfl,.inr (g2.tp (g1.tp hyb)),fun l3 hl3=>?_⟩;clear 1 l3 H3 g3 k3 hl3;have G:=(g1.trans g2).trans g3;refine⟨l2,l3,xs,ys,[.int j,e],[(Str.empty,.num 4),(Str.empty,.nest i)],S,r,rfl,rfl,by omega,fun f hf'=>?_,hW,⟨?_,hce,iu⟩,(by show 2<=100;decide),SqL.of (g3 _ _ k2),SqL.of k3,dxs.same G,dys.same G,fun H5 g5=>q H5 (G.trans g5)⟩
    ·rcases υ.mp hf' with rfl|hf'
     ·exact⟨aPu,by decide,by decide⟩
     ·rw[Φ.mp hf'];exact⟨by show 2*i+2<=r;omega,hil⟩
    ·have e4:(256:Nat) ^ 4=4294967296:=by decide
     have:j<256 ^ 4:=by omega
     cases r <;> exact⟨j,rfl,this⟩
theorem rL(F:Fun K "_law_turned" "_law_turned" bM f fd)(ap:j4 "_law_turned" (spTu K r)):j0 ["_law_thing"] (spTu K (r+1)):=by
 w_cond aU;obtain⟨x,d,kd,S,r0,er,rfl,hk,hf,hW,hc,hx,q⟩:=h;cases er;refine⟨_,(jE (kK (kU (jK kZ rfl M.isinstance ie (jA (pv 0) (jA (qI (v:=.ty "dict") rfl M.dict boot_dict rfl) jB)))) (jE (jZ 1 aU.nd zO) (jE (xQ jv rfl (qL (aPr (qA (fX rfl) rfl M.list rl (jA (pv 0) jB)) (gN cF jC))) (qV 2 aU.nd) (jD (eF hr.units1 (pv 1) (pv 2) (jF ap hr (jA (bO hr.units1 (pv 0) (pv 2) (fun _ _=>rfl)) jB)) rfl))) (jD (jJ (pv 1))))) jL) (jE (kK (kU (jK kZ rfl M.isinstance ie (jA (pv 0) (jA (qI (v:=.ty "list") rfl M.list rl rfl) jB)))) (jD (jJ (kR ["_law_one"] [] [] rfl (qL (pv 0)) rfl trivial trivial (fun _ _ _ _=>(qD rfl)) (fun _ _ _ _=>kQ) (fun _ _ _ _=>(jF ap hr (jA (pv 0) jB)))))) jL) (jE (kK (kU (jK kZ rfl M.isinstance ie (jA (pv 0) (jA (qI (v:=.ty "tuple") rfl M.tuple ug rfl) jB)))) (jD (jJ (kY (jA (jH jT (pv 0) jC) (jA (jF ap hr (jA (jH jT (pv 0) jC) jB)) jB))))) jL) (jD (jJ (pv 0)))))),?_⟩;rcases Kd.three kd with hpd|⟨n,rfl⟩|⟨is,rfl⟩
 ·cases r with
  |zero=>exact(yN hpd hk).elim
  |succ r =>
  have few:=(xU hW.good hpd hf).2;have hpk:∀f∈kd.parts S,f.2.Rk r/\f.2.Fit S.length:=fun f hf'=>by
   obtain⟨p1,p2,_⟩:=Kd.parts_ok hW.good hf hk hf';exact⟨p1,p2⟩
  obtain⟨ds,rfl,cl⟩:=(cZ hpd).mp hc;have ln:=cl.len;rcases id hpd with⟨i,rfl⟩|⟨m,k,rfl⟩
  ·obtain⟨a,xs,rfl,a1,a2,a3⟩:=lP hx ln;have nd:=hW.pnd hf i rfl;have lk1:(((Kd.nest i).parts S).map (·.1)).length=xs.length:=by rw[δ];exact a2
   have ndr:(((Kd.nest i).parts S).reverse.map (·.1)).Nodup:=by rw[yh];exact((List.reverse_perm _).nodup_iff).mpr nd
   refine⟨_,rfl,.ref a,_,"dict",rfl,by decide,.inr ⟨rfl,a,_,_,rfl,a1,oP lk1 (by rw[δ];omega)⟩,_,rfl,qF (fun l0 hl0=>?_)⟩;clear 1 l0 H1 g1 k1 hl0;refine⟨_,rfl,a,_,rfl,g1 _ _ a1,by rw[vY lk1,δ];omega,fun L hL=>?_⟩;clear 1 L H2 g2 k2 hL;rw[show(kz (((Kd.nest i).parts S).map (·.1)) xs).map (fun kv=>kV kv.1)=(((Kd.nest i).parts S).map (·.1)).map V.str from aEp lk1]at k2;refine⟨_,rfl,rfl,L,_,rfl,SqL.of k2,fun L2 hL2=>?_⟩;clear 1 L2 H3 g3 k3 hL2;rw[←yh,←yh]at k3;have k13:=g3 _ _ (g2 _ _ k1);have g13:=(g1.trans g2).trans g3;have nL2:L2≠l0:=fun z=>by rw[z,g2 _ _ k1]at hL2;cases hL2
   refine⟨L2,rfl,⟨_,SqL.of k3⟩,xI (xs:=((((Kd.nest i).parts S).reverse).map (·.1)).map V.str) (fun j σ H'=>∃(o2:Option V) (zs:List V) (es:List ν) (fs:List Addr),σ = [some (.ref a),some (.ref l0),o2]/\But l0 H3 H'/\H' l0=some (.dK (kz (((((Kd.nest i).parts S).reverse).map (·.1)).take j) zs))/\zs.length=j/\Trs true K H' zs es fs/\New H3 fs/\xJ (Rec S r) ((((Kd.nest i).parts S).reverse).take j) (ds.reverse.take j) es) ⟨_,[],[],[],rfl,fun _ _ _ z=>z,k13,rfl,.nil,(fun b hb=>by cases hb),iu⟩ (fun j σ H' _ z=>?_) (fun j x' σ H' hx' z=>?_) (fun σ H' z=>?_)⟩
   ·obtain⟨o2,zs,es,fs,rfl,g,_⟩:=z;exact SqL.of (g _ _ nL2 k3)
   ·obtain⟨o2,zs,es,fs,rfl,g,k0,hzj,hdt,hnew,hrl⟩:=z;obtain⟨nm,hnm,rfl⟩:=yM hx';have sO:=aAz g13 hl0 g;rw[gu]at hnm;cases hfj:(((Kd.nest i).parts S).reverse)[j]? with
    |none=>rw[hfj]at hnm;cases hnm
    |some f =>
    rw[hfj]at hnm;obtain rfl:f.1=nm:=jg hnm;have hfm:f∈(Kd.nest i).parts S:=List.mem_reverse.mp (ι hfj);have hjl:j<((Kd.nest i).parts S).reverse.length:=(θ.mp hfj).1;rw[qv]at hjl;have hjd:j<ds.reverse.length:=by rw[qv,←ln];exact hjl
    have edj:ds.reverse[j]?=some ds.reverse[j]:=η hjd;have hrl':(((Kd.nest i).parts S))[((Kd.nest i).parts S).length-1-j]?=some f:=by
     rw[List.getElem?_reverse hjl]at hfj;exact hfj
    have edj':ds[((Kd.nest i).parts S).length-1-j]?=some ds.reverse[j]:=by
     rw[List.getElem?_reverse (by rw[←ln];exact hjl),←ln]at edj;exact edj
    obtain⟨d2,hd2,hcan⟩:=cl.get hrl';rw[edj']at hd2;cases hd2;obtain⟨v,hv,hdv⟩:=a3.get edj';have hkl:(((((Kd.nest i).parts S).reverse).map (·.1)).take j).length=zs.length:=by rw[Ω,δ,qv,hzj];omega
    have nk:((((Kd.nest i).parts S).reverse).map (·.1))[j]?=some f.1:=by rw[gu,hfj];rfl
    refine⟨_,rfl,_,rfl,a,v,rfl,?_,v,ds.reverse[j],f.2,S,r,rfl,rfl,(hpk f hfm).1,(hpk f hfm).2,hW,hcan,hdv.same sO,fun u e gs H4 g4 hn4 h4 hre=>?_⟩
    ·rw[←aPc nd lk1 (by rw[gu,hrl'];rfl) hv];exact bB.k (k:=.inr f.1) (sO _ _ a1)
    have k4:=g4 _ _ k0;have nl:l0∉fs++gs:=fun z=>(iz.mp z).elim (fun z=>by have:=hnew l0 z;rw[k13]at this;cases this) fun z=>by have:=hn4 l0 z;rw[k0]at this;cases this
    have hn1:New H3 (fs++gs):=hnew.app fun b hb=>by
     cases e:H3 b with
     |none=>rfl
     |some o =>
      have ne:b≠l0:=fun z=>nl (gq _ (z ▸ hb));have:=g b o ne e;rw[hn4 b hb]at this;cases this
    have hts:=(Trs.snoc h4 (hdt.same g4) (hn4.dis hdt.mu)).put nl (.inr ⟨_,k4⟩) (o:=.dK (kz (((((Kd.nest i).parts S).reverse).map (·.1)).take (j+1)) (zs++[u])));refine⟨_,rfl,_,rfl,l0,_,rfl,.inl ⟨_,.inr f.1,k4,rfl,(by rw[vY hkl,hkl,hzj];exact Γ hjl (Ψ few (by decide))),rfl⟩,?_⟩;rw[aDa (v:=u) ndr hzj nk];generalize e5:upd H4 l0 _=H5;rw[e5]at hts;obtain⟨g5,k5⟩:=bH e5;refine⟨_,zs++[u],es++[e],fs++gs,rfl,fun b o hb e=>g5 b o hb (g4 _ _ (g b o hb e)),k5,by rw[ξ,hzj];rfl,hts,hn1,?_⟩;rw[jk,hfj,jk,edj];exact hrl.app ⟨hre,iu⟩
   ·obtain⟨o2,zs,es,fs,rfl,g,k0,hzj,hdt,hnew,hrl⟩:=z;have en:(((((Kd.nest i).parts S).reverse).map (·.1)).map V.str).length=((Kd.nest i).parts S).reverse.length:=by rw[δ,δ]
    have en2:((Kd.nest i).parts S).reverse.length=ds.reverse.length:=by rw[qv,qv,ln]
    rw[en,kL,en2,kL]at hrl;rw[en,←δ (·.1),kL]at k0;have nl:l0∉fs:=fun z=>by have:=hnew l0 z;rw[k13]at this;cases this
    obtain⟨r1,r2⟩:=aLx hrl;have lz:(((Kd.nest i).parts S).reverse.map (·.1)).length=zs.length:=by rw[δ,hzj,en]
    exact⟨_,rfl,q (.ref l0) (.dict (kvD (((Kd.nest i).parts S).reverse.map (·.1)) es)) (l0::fs) H' (aAz g13 hl0 g) (New.cons hl0 (hnew.back g13)) (.dct k0 lz hdt nl) ⟨ds,es.reverse,_,es,rfl,rfl,lz.trans hdt.len,r2,r1⟩⟩
  ·obtain⟨a,xs,rfl,hxa,_,dxs⟩:=hx.lstI
   ·have lx:=dxs.length;refine⟨_,rfl,.ref a,_,"list",rfl,by decide,.inl (.inl ⟨rfl,_,hxa⟩),_,rfl,jU ⟨_,rfl,.ref a,_,"list",rfl,by decide,.inl (.inl ⟨rfl,_,hxa⟩),_,rfl,qF ⟨_,rfl,a,rfl,⟨_,hxa⟩,vM (xs:=xs) (fun j ys H'=>jG H H'/\∃es gs,Trs true K H' ys es gs/\New H gs/\xJ (Rec S r) (((Kd.many m k).parts S).take j) (ds.take j) es) ⟨jG.refl _,[],[],.nil,(fun b hb=>by cases hb),iu⟩ (fun j ys H' _ z=>⟨z.1.seq hxa,?_⟩) (kM (by omega)) (fun j y ys H' hy z=>?_) (fun ys H' z p hp=>?_)⟩⟩⟩
    ·obtain⟨_,es,gs,h1,_,h2⟩:=z;rw[h1.len,←h2.len.2];exact nh _ _
    ·obtain⟨g,es,gs,h1,hnew,hrl⟩:=z;have hjd:j<ds.length:=by rw[←lx];exact(θ.mp hy).1
     have edj:ds[j]?=some ds[j]:=η hjd;obtain⟨y',hy',hdy⟩:=dxs.get edj;rw[hy]at hy';cases hy';have efj:((Kd.many m k).parts S)[j]?=some (((Kd.many m k).parts S)[j]'(by omega)):=η _;obtain⟨d2,hd2,hcan⟩:=cl.get efj;rw[edj]at hd2;cases hd2;refine⟨_,rfl,y,ds[j],_,S,r,rfl,rfl,(hpk _ (ι efj)).1,(hpk _ (ι efj)).2,hW,hcan,hdy.same g,fun v e fs H3 g3 hn3 h3 hre=>⟨⟨g.trans g3,es++[e],gs++fs,Trs.snoc h3 (h1.same g3) (hn3.dis h1.mu),hnew.app (hn3.back g),?_⟩,_,rfl⟩⟩;rw[jk,efj,jk,edj];exact hrl.app ⟨hre,iu⟩
    ·obtain⟨g,es,gs,h1,hnew,hrl⟩:=z;clear 1 p H3 g3 k3 hp;rw[lx,kL,←ln,kL]at hrl;exact q (.ref p) (.list es) (p::gs) H3 (g.trans g3) (New.cons (g.free hp) hnew) (.lst k3 (h1.same g3) (h1.mu.not hp)) ⟨ds,es,rfl,rfl,hrl⟩
 ·obtain⟨v,rfl,hv⟩ : ∃v:Nat,d=.int v/\v<256 ^ n:=by cases r <;> exact hc
  obtain rfl:=hx.intI;refine⟨_,rfl,.int v,_,"int",rfl,by decide,.inl rfl,_,rfl,jU ⟨_,rfl,.int v,_,"int",rfl,by decide,.inl rfl,_,rfl,jU ⟨_,rfl,.int v,_,"int",rfl,by decide,.inl rfl,_,rfl,jU ⟨_,rfl,q (.int v) (.int v) [] H (jG.refl _) (fun b hb=>by cases hb) (.int _) ?_⟩⟩⟩⟩;cases r <;> exact⟨v,rfl,rfl,hv⟩
 ·cases r with
  |zero=>exact(kf _ (hk _ (ju (show 0<is.length by have:=hf.1;omega)))).elim
  |succ r =>
  obtain⟨j,i,e,hi,rfl,hce⟩ : ∃(j i:Nat) (e:ν),is[j]?=some i/\d=.tuple [.int j,e]/\Can S r (.nest i) e:=hc;have hil:i<S.length:=hf.2.2.2 i (ι hi);have hki:=hk i (ι hi);obtain⟨a,x1,rfl,hxa,h1⟩:=hx.pickI;refine⟨_,rfl,.ref a,_,"tuple",rfl,by decide,.inl (.inr ⟨rfl,_,hxa⟩),_,rfl,jU ⟨_,rfl,.ref a,_,"tuple",rfl,by decide,.inl (.inr ⟨rfl,_,hxa⟩),_,rfl,jU ⟨_,rfl,.ref a,_,"tuple",rfl,by decide,.inl (.inr ⟨rfl,_,hxa⟩),_,rfl,qF ⟨_,rfl,a,_,_,_,rfl,rfl,hxa,rfl,_,rfl,a,_,_,_,rfl,rfl,hxa,rfl,x1,e,.nest i,S,r,rfl,rfl,(by show 2*i+2<=r;omega),hil,hW,hce,h1,fun v e' fs H3 g3 hn3 h3 hre=>⟨vS,fun t5 ht5=>?_⟩⟩⟩⟩⟩;generalize e5:upd H3 t5 _=H5;obtain⟨g5,k5⟩:=qB e5 ht5;exact q (.ref t5) (.tuple [.int j,e']) fs H5 (g3.trans g5) hn3 (.tup (SqT.of k5) (h3.same g5)) ⟨j,i,e,e',hi,rfl,rfl,hre⟩
theorem aDs(F:Fun K "_law_bad" "_law_bad" lC f fd)(aa:j4 "_law_take" cI):j0 ["_law_box_here","_law_thing"] (aOr P w K):=by
 w_cond xS;obtain⟨p,x,d,kd,S,r,ys,W,m,rfl,hs,hpy,al,hk,hf,hW,hc,hd,sn,q⟩:=h;refine⟨_,(PSx.h (kW (iC (i:=2) xS.nd rfl rfl (zF (jP (jY (jV zY jC jC)) (jP (jY (jV aLa jC jC)) (jP (jY vQ) (jP (jY vQ) (jP (jY bX) (jP (jY jO) (jP (jY (aEh jB)) (jP (jY zO) (jP (eK vH) (jP (eK (jP (jY jC) (jP (jY zO) vH iM) kP)) (jP (jY (aEh (jA jC jB))) (jP (jY (jV fM jC jC)) (jP (jY (jV fM jC jC)) (jP (jY (jV fM jC jC)) (jP (jY (jV fM jC jC)) vH zJ) zJ) zJ) zJ) nH) bI) bI) iM) nH) kP) kP) kP) kP) zJ) zJ))) (kW (xC (jZ 3 xS.nd (jF aa hr (jA (pv 0) (jA jC jB))))) (kW (yA (PW.pt (iS (kU (jK kZ rfl M.isinstance ie (jA (pv 1) (jA (qI (v:=.ty "list") rfl M.list rl rfl) jB)))) (eC (jW iE (pv 3) jC)))) (vC (xD (wU (jP (jY (vI gU (pv 1) (xA jC) xB)) (jP (jY (jV iA (pv 1) (vI gU (pv 1) xB (xA jC)))) (jP (jY (qA yH rfl M.tuple ug (jA (pv 1) jB))) (jP (jY (jV iA (pv 1) (qU (jA bX jB)))) vH zJ) hV) zJ) nM) (jY (pv 3)) (fun _ _=>rfl)))) jL) (kW (yA (PW.pt (iS (kU (jK kZ rfl M.isinstance ie (jA (pv 1) (jA (qI (v:=.ty "tuple") rfl M.tuple ug rfl) jB)))) (eC (jW iE (pv 3) jC)))) (kW (iC (i:=4) xS.nd rfl rfl (zF (jP (jY (qA aCr rfl M.list rl (jA (pv 1) jB))) (jP (eK (jP (jY (jV qM (jH jT (pv 1) jC) jC)) (jP (jY (jH jT (pv 1) jC)) vH nM) zJ)) (jP (eK (jP (jY vQ) (jP (jY (jH jT (pv 1) jC)) vH nM) kP)) (jP (eK (jP (jY (jH jT (pv 1) jC)) (jP (jY (jH jT (pv 1) jC)) (jP (jY jC) vH kP) nM) nM)) vH bI) bI) bI) hV))) (vC (xD (jY (jH jX (jV iA (pv 4) (qU (jA (kY (jA (jV zY jC (jH jT (pv 1) jC)) (jA (jH jT (pv 1) jC) jB))) jB))) (pv 3)))))) jL) (kW (yA (PW.pt (iS (kU (jK kZ rfl M.isinstance ie (jA (pv 1) (jA (qI (v:=.ty "dict") rfl M.dict boot_dict rfl) jB)))) (eC (jW iE (pv 3) jC)))) (kW (xC (jZ 5 xS.nd (qA pJ rfl M.dict (show lr "dict" = some (.type "dict") from by ac_rfl) (jA (pv 1) jB)))) (kW (xC (jZ 6 xS.nd (jH jX (qA (fX rfl) rfl M.list rl (jA (pv 5) jB)) (jF aa hr (jA (pv 0) (jA (jK sN rfl M.len iq (jA (pv 5) jB)) jB)))))) (kW (yA (jW iE (pv 3) jC) (kW (xC (jZ 7 xS.nd (aG qp uy yb wG (pv 5) (jA (pv 6) jB)))) (vC (xC (eF hr.units1 (pv 5) (jV qQ (pv 6) (jV aFb jO (pv 3))) (pv 7) rfl)))) jL) (kW (yA (jW qH (pv 3) jC) (vC (xC (yJ (aG qp uy yb wG (pv 5) (jA (pv 6) jB))))) jL) (kW (yA (jW qH (pv 3) jC) (vC (xC (eF hr.units1 (pv 5) jO jC rfl))) jL) (kW (yA (jW qH (pv 3) jC) (vC (aLe (jY (aG qp uy yb wG (pv 5) (jA (pv 6) jB))) (sZ (pv 5) (jH jX (qU (jA bX (jA jC (jA (kY (jA jO jB)) jB)))) (jF aa hr (jA (pv 0) (jA jC jB)))) (aNe hr.units1)))) jL) (vC (xD (jY (pv 5)))))))))) jL) (vC (xD (jY (jH jX (pv 2) (jF aa hr (jA (pv 0) (jA jC jB))))))))))))),?_⟩;refine⟨_,_,rfl,rfl,_,_,rfl,rfl,⟨by decide,by decide,by decide⟩,gM,fun l1 nl1 hl1=>?_⟩;clear 1 l1 H1 g1 k1 hl1;refine fun c1 hc1=>?_;generalize e2:upd H1 c1 _=H2;obtain⟨g2,k2⟩:=qB e2 hc1;refine⟨gM,fun t1 ht1=>?_⟩;clear 1 t1 H3 g3 k3 ht1;refine fun c2 hc2=>?_;clear 1 c2 H4 g4 k4 hc2;refine⟨vS,fun t2 ht2=>?_⟩;clear 1 t2 H5 g5 k5 ht2;refine⟨iF,fun l2 nl2 hl2=>?_⟩;clear 1 l2 H6 g6 k6 hl2;refine⟨_,_,rfl,rfl,⟨by decide,by decide,by decide⟩,_,_,rfl,rfl,⟨by decide,by decide,by decide⟩,_,_,rfl,rfl,⟨by decide,by decide,by decide⟩,_,_,rfl,rfl,⟨by decide,by decide,by decide⟩,(by show 15<=χ;decide),fun ls hls=>?_⟩;clear 1 ls H7 g7 k7 hls;have G1:=g1;have G2:=G1.trans g2;have G3:=G2.trans g3;have G4:=G3.trans g4;have G5:=G4.trans g5;have G6:=G5.trans g6;have G7:=G6.trans g7;have n1:=al.new hl1;have n2:=(al.same G1).new hc1;have n3:=(al.same G2).new ht1;have n4:=(al.same G3).new hc2;have n5:=(al.same G4).new ht2;have n6:=(al.same G5).new hl2;have n7:=(al.same G6).new hls;have T6:=g7;have T5:=g6.trans T6;have T4:=g5.trans T5;have T3:=g4.trans T4;have T2:=g3.trans T3;have T1:=g2.trans T2;have ks0:Ks [] ([]:List V).length:=⟨rfl,by decide,vg,fun y hy=>(by cases hy),fun y hy=>(by cases hy)⟩;have i7:Fif P w K ys H7 ls:=by
  refine⟨_,SqL.of (kN n7 k7),rfl,fun v hv=>?_⟩;simp only[υ,il,or_false]at hv;rcases hv with rfl|rfl|rfl|rfl|rfl|rfl|rfl|rfl|rfl|rfl|rfl|rfl|rfl|rfl|rfl
  ·exact⟨_,.int _,(Sn.int32 (by decide) (by decide)).le (by decide) (by decide)⟩
  ·exact⟨_,.int _,(Sn.int32 (by decide) (by decide)).le (by decide) (by decide)⟩
  ·exact⟨_,.bl _,(Sm.bool true).sn.le (by decide) (by decide)⟩
  ·exact⟨_,.bl _,(Sm.bool false).sn.le (by decide) (by decide)⟩
  ·exact⟨_,.non,Sm.none.sn.le (by decide) (by decide)⟩
  ·exact⟨_,.str _,(Sn.str (x:=ζ "0") (by unfold Sml;ac_rfl)).le (by ac_rfl) (by decide)⟩
  ·exact⟨.list [],.lst (SqL.of (kN n1 (T1 _ _ k1))) (fun _=>nl1) .nil,(SnA.nil 0).lst.le (by decide) (by decide)⟩
  ·exact⟨.dict (kvD [] []),.dct (ks:=[]) (xs:=[]) (kN n2 (T2 _ _ k2)) ks0 .nil,(SnK.nil 0).dct.le (by decide) (by decide)⟩
  ·exact⟨.tuple [],.tup (SqT.of (kN n3 (T3 _ _ k3))) .nil,(SnA.nil 0).tup.le (by decide) (by decide)⟩
  ·exact⟨.tuple [.int 0,.dict (kvD [] [])],.tup (SqT.of (kN n5 (T5 _ _ k5))) (.cons (.int 0) (.cons (.dct (ks:=[]) (xs:=[]) (kN n4 (T4 _ _ k4)) ks0 .nil) .nil)),(SnA.cons ((Sn.int32 (i:=0) (by decide) (by decide)).le (μ _) (gw _)) (SnA.cons (SnK.nil 0).dct (SnA.nil _))).tup.le (by decide) (by decide)⟩
  ·exact⟨.list [.int 0],.lst (SqL.of (kN n6 (T6 _ _ k6))) (fun _=>nl2) (.cons (.int 0) .nil),(SnA.cons (Sn.int32 (i:=0) (by decide) (by decide)) (SnA.nil 0)).lst.le (by decide) (by decide)⟩
  ·exact⟨_,.int _,(Sn.int32 (by decide) (by decide)).le (by decide) (by decide)⟩
  ·exact⟨_,.int _,(Sn.int32 (by decide) (by decide)).le (by decide) (by decide)⟩
  ·exact⟨_,.int _,(Sn.int32 (by decide) (by decide)).le (by decide) (by decide)⟩
  ·exact⟨_,.int _,(Sn.int32 (by decide) (by decide)).le (by decide) (by decide)⟩
 refine⟨_,rfl,p,6,rfl,by decide,by decide,jG.st3 G7 hs,fun wy H8 hwy d8=>?_⟩;have s78:jG (offs ys H7) (offs ys H8):=d8.offs hpy;have s08:=(kH (xs:=ys) G7).trans s78;have hd8:=hd.same s08;have al8:=Al.drawn (al.same G7) d8;have i8:=i7.same s78;have D8:Drawn p H H8:=⟨d8.1,fun b o n e=>d8.2 b o n (G7 _ _ e)⟩;rcases Kd.three kd with hpd|⟨n,rfl⟩|⟨is,rfl⟩
 ·cases r with
  |zero=>exact(yN hpd hk).elim
  |succ r =>
  obtain⟨ds,rfl,cl⟩:=(cZ hpd).mp hc;have ln:=cl.len;have few:=(xU hW.good hpd hf).2;rcases id hpd with⟨i,rfl⟩|⟨mm,k,rfl⟩
  ·rw[show gT (.nest i) ((Kd.nest i).parts S) ds=.dict (kvD (((Kd.nest i).parts S).map (·.1)) ds) from congrArg ue (zX _ _)]at hd8 sn;have lnk:(((Kd.nest i).parts S).map (·.1)).length=ds.length:=by rw[δ];exact ln
   have hS:S[i]?=some S[i]:=η (show i<S.length from hf);have lowk:∀y∈((Kd.nest i).parts S).map (·.1),Low y/\y.length<=6:=fun y hy=>by
    rw[qY hS]at hy;obtain⟨f,hf',rfl⟩:=ib.mp hy;exact sY hW (ι hS) hf'
   have knum : 0<(((Kd.nest i).parts S).map (·.1)).length/\(((Kd.nest i).parts S).map (·.1)).length<=6:=by
    rw[δ];exact⟨qu.mpr (xU hW.good hpd hf).1,few⟩
   obtain⟨a,xs,rfl,h1,kk,dts⟩:=Dq.kd hd8 lnk;generalize ((Kd.nest i).parts S).map (·.1)=ks at *;obtain⟨mk,rfl,sk⟩:=sn.dct;have kd0:KD P w K (offs ys H8) ks xs ds W mk:=⟨kk,dts,sk⟩;have h1A:=jQ _ _ h1;have tyd:tyQ P w K (.ref a) H8 "dict":=.inr ⟨rfl,a,_,_,rfl,h1A,oP kk.l (by have:=kk.z;omega)⟩;refine⟨_,rfl,.ref a,_,"dict",rfl,by decide,tyd,_,rfl,jU (eN ⟨_,rfl,.ref a,_,"dict",rfl,by decide,tyd,_,rfl,jU (eN ⟨_,rfl,.ref a,_,"dict",rfl,by decide,tyd,_,rfl,qF ⟨_,rfl,_,_,rfl,rfl,_,rfl,?_⟩⟩)⟩)⟩
   by_cases hw4:wy<4
   ·refine qZ (by simp;omega) ⟨_,rfl,a,_,rfl,h1A,fun l0 hl0=>?_⟩;clear 1 l0 J1 b1 c1 hl0;refine⟨_,rfl,l0,_,rfl,c1,by rw[vY kk.l];omega,fun L hL=>?_⟩;clear 1 L J2 b2 c2 hL;rw[show(kzA ks xs).map (fun kv=>kV kv.1)=ks.map V.str from aEp kk.l]at c2;have q0:=al8.new hl0;have nlp:l0≠p:=fun z=>q0 (z ▸ hpy);have nLp:L≠p:=fun z=>(al8.same b1).new hL (z ▸ hpy);have nLl:L≠l0:=fun z=>by rw[z,c1]at hL;cases hL
    refine⟨_,rfl,_,rfl,l0,_,rfl,b2 _ _ c1,p,_,rfl,by rw[vY kk.l];omega,by rw[vY kk.l];omega,jG.st3 (b1.trans b2) d8.1,fun j J3 hj d3=>?_⟩;rw[vY kk.l]at hj;have hj':j<ks.length:=by exact_mod_cast hj
    obtain⟨key,hkey⟩ : ∃key,ks[j]?=some key:=⟨_,η hj'⟩;have hkm:=ι hkey;obtain⟨klo,kle⟩:=lowk key hkm;have k3:=d3.2 l0 _ nlp (b2 _ _ c1);have F3:∀b o,b≠p->H8 b=some o->J3 b=some o:=fun b o n e=>d3.2 b o n (b2 _ _ (b1 _ _ e));obtain⟨v,dv,hv,okv,sv⟩:=kd0.val hkm;obtain⟨ks1,xs1,ds1,ec,kd1,le1,mem1⟩:=kd0.cut (k:=key);have fin:∀(J:Hp) (o:HO),J l0=some o->St3 J p->(∀b o,b≠p->H8 b=some o->J b=some o)->Drawn p H J/\jG (offs ys H8) (offs ys J):=fun J o _ st F=>⟨⟨st,fun b o n e=>F b o n (D8.2 b o n e)⟩,xW fun b o hb e=>F b o (fun z=>hb (z ▸ hpy)) e⟩;have chg:∀{J J':Hp},(∀b o,b≠p->H8 b=some o->J b=some o)->But l0 J J'->∀b o,b≠p->H8 b=some o->J' b=some o:=fun F g b o n e=>g b o (fun z=>by rw[z,hl0]at e;cases e) (F b o n e);have wlt:ks1.length<50:=by omega
    refine⟨L,_,_,.str key,rfl,rfl,SqL.of (d3.2 L _ nLp c2),fE hkey,?_⟩;have w4:wy=0\/wy=1\/wy=2\/wy=3:=by omega
    rcases w4 with rfl|rfl|rfl|rfl
    ·refine⟨_,rfl,_,_,rfl,rfl,_,rfl,qF ⟨_,rfl,.inr (.inr (.inl ⟨rfl,.inl ⟨_,k3⟩⟩)),_,rfl,l0,_,key,v,rfl,rfl,k3,hv,?_⟩⟩;rw[ec];clear 0 l0 J4 g4 k4;have F4:=chg F3 g4;have st4:=zB d3.1 g4 (kh nlp);obtain⟨ks2,xs2,ds2,e2,kd2⟩:=kd1.put klo (by omega) okv sv wlt;refine⟨_,rfl,_,rfl,_,rfl,_,rfl,_,_,rfl,rfl,.inl rfl,(by decide),_,_,rfl,rfl,(by rw[ic];show key.length+0<=_;omega),l0,_,rfl,.inl ⟨_,.inr (key++Str.empty),k4,rfl,(by rw[vY kd1.k.l,ic];omega),rfl⟩,?_⟩;rw[aMu,e2];clear 0 l0 J5 g5 k5;have F5:=chg F4 g5;have st5:=zB st4 g5 (kh nlp);have hv2:vX (kzA ks2 xs2) (.inr key)=some v:=by rw[←e2,aIc,if_pos rfl]
     obtain⟨ks3,xs3,ds3,ec3,kd3,le3,_⟩:=kd2.cut (k:=key);refine⟨_,rfl,rfl,_,rfl,qF ⟨_,rfl,.inr (.inr (.inl ⟨rfl,.inl ⟨_,k5⟩⟩)),_,rfl,l0,_,key,v,rfl,rfl,k5,hv2,?_⟩⟩;rw[ec3];clear 0 l0 J6 g6 k6;have F6:=chg F5 g6;have st6:=zB st5 g6 (kh nlp);obtain⟨D6,S6⟩:=fin J6 _ k6 st6 F6;obtain⟨r1,r2⟩:=(kd3.same S6).ok (a:=l0) (kN q0 k6);exact⟨_,rfl,rfl,_,rfl,jU ⟨_,rfl,rfl,_,rfl,jU ⟨_,rfl,q (.ref l0) J6 D6 ⟨_,r1,r2.le (by omega) (by omega)⟩⟩⟩⟩
    ·refine⟨_,rfl,_,_,rfl,rfl,_,rfl,qF ⟨_,rfl,.inr (.inr (.inl ⟨rfl,.inl ⟨_,k3⟩⟩)),_,rfl,l0,_,key,v,rfl,rfl,k3,hv,?_⟩⟩;rw[ec];clear 0 l0 J4 g4 k4;have F4:=chg F3 g4;have st4:=zB d3.1 g4 (kh nlp);have lq:Low (key++ζ "q"):=Low.app klo (by unfold Low;ac_rfl);have ll:(key++ζ "q").length<=20:=by
      show(key++ζ "q").cps.size<=20;rw[og,Array.size_append];have:key.cps.size<=6:=kle;have:(ζ "q").cps.size=1:=by ac_rfl
      omega
     obtain⟨ks2,xs2,ds2,e2,kd2⟩:=kd1.put lq ll okv sv wlt;refine⟨_,rfl,_,rfl,_,rfl,_,rfl,_,_,rfl,rfl,.inr rfl,(by decide),_,_,rfl,rfl,(by rw[ic];show key.length+1<=_;omega),l0,_,rfl,.inl ⟨_,.inr (key++ζ "q"),k4,rfl,(by rw[vY kd1.k.l,ic];omega),rfl⟩,?_⟩;rw[e2];clear 0 l0 J5 g5 k5;have F5:=chg F4 g5;have st5:=zB st4 g5 (kh nlp);obtain⟨D5,S5⟩:=fin J5 _ k5 st5 F5;obtain⟨r1,r2⟩:=(kd2.same S5).ok (a:=l0) (kN q0 k5);exact⟨_,rfl,rfl,_,rfl,jU ⟨_,rfl,rfl,_,rfl,jU ⟨_,rfl,rfl,_,rfl,jU ⟨_,rfl,q (.ref l0) J5 D5 ⟨_,r1,r2.le (by omega) (by omega)⟩⟩⟩⟩⟩
    ·obtain⟨ks2,xs2,ds2,e2,kd2⟩:=kd0.put (k:=ζ "more") (v:=.int 0) (by unfold Low;ac_rfl) (by ac_rfl) (.int 0) ((Sn.int32 (i:=0) (by decide) (by decide)).le (μ _) (gw _)) (by omega);refine⟨_,rfl,_,_,rfl,rfl,_,rfl,jU ⟨_,rfl,rfl,_,rfl,jU ⟨_,rfl,rfl,_,rfl,qF ⟨_,rfl,l0,_,rfl,.inl ⟨_,.inr (ζ "more"),k3,rfl,(by rw[vY kk.l,ic];omega),rfl⟩,?_⟩⟩⟩⟩;rw[e2];clear 0 l0 J5 g5 k5;have F5:=chg F3 g5;have st5:=zB d3.1 g5 (kh nlp);obtain⟨D5,S5⟩:=fin J5 _ k5 st5 F5;obtain⟨r1,r2⟩:=(kd2.same S5).ok (a:=l0) (kN q0 k5);exact⟨_,rfl,rfl,_,rfl,jU ⟨_,rfl,q (.ref l0) J5 D5 ⟨_,r1,r2.le (by omega) (by omega)⟩⟩⟩
    ·refine⟨_,rfl,_,_,rfl,rfl,_,rfl,jU ⟨_,rfl,rfl,_,rfl,jU ⟨_,rfl,rfl,_,rfl,jU ⟨_,rfl,rfl,_,rfl,qF ⟨_,rfl,.inr (.inr (.inl ⟨rfl,.inl ⟨_,k3⟩⟩)),_,rfl,l0,_,key,v,rfl,rfl,k3,hv,?_⟩⟩⟩⟩⟩;rw[ec];clear 0 l0 J4 g4 k4;have F4:=chg F3 g4;have st4:=zB d3.1 g4 (kh nlp);refine⟨_,rfl,iF,fun t5 ht5=>?_⟩;clear 1 t5 J5 b5 c5 ht5;refine⟨pC,fun L6 hL6=>?_⟩;clear 1 L6 J6 b6 c6 hL6;have al4:Al ys J4:=fun b hb=>by
      by_cases z:b=p
      ·rw[z];exact fB st4
      ·obtain⟨o,ho⟩:=al8 b hb;exact⟨o,F4 b o z ho⟩
     have q5:=al4.new ht5;have nt5:t5≠p:=fun z=>q5 (z ▸ hpy);have nL6:L6≠p:=fun z=>(al4.same b5).new hL6 (z ▸ hpy);refine⟨_,rfl,p,3,rfl,by decide,by decide,jG.st3 (b5.trans b6) st4,fun j3 J7 hj3 d7=>?_⟩;have F7:∀b o,b≠p->H8 b=some o->J7 b=some o:=fun b o n e=>d7.2 b o n (b6 _ _ (b5 _ _ (F4 b o n e)));have k7':=d7.2 l0 _ nlp (b6 _ _ (b5 _ _ k4));have t7':J7 t5=some (.tup [.str (ζ "a")]):=d7.2 t5 _ nt5 (b6 _ _ c5);have odds:∀u∈[V.non,.int 0,.ref t5],dB K J7 u:=by
      intro u hu;simp only[υ,il,or_false]at hu;rcases hu with rfl|rfl|rfl
      ·exact .inl rfl
      ·exact .inr (.inl rfl)
      ·exact .inr (.inr ⟨t5,rfl,SqT.of t7'⟩)
     have hj3':j3<3:=by exact_mod_cast hj3
     obtain⟨u,hu⟩ : ∃u,[V.non,.int 0,.ref t5][j3]?=some u:=⟨_,η (show j3<3 from hj3')⟩;have hok:=odds u (ι hu);refine⟨L6,_,_,u,rfl,rfl,SqL.of (d7.2 L6 _ nL6 c6),xP hu,l0,ks1,xs1,rfl,k7',kd1.k.l,by omega,hok,?_⟩;clear 0 l0 J8 g8 k8;have F8:=chg F7 g8;have st8:=zB d7.1 g8 (kh nlp);obtain⟨D8',S8⟩:=fin J8 _ k8 st8 F8;have nt5l:t5≠l0:=fun z=>by rw[z,k4]at ht5;cases ht5
     have hok8:dB K (offs ys J8) u:=by
      rcases hok with z|z|⟨b,z,hb⟩
      ·exact .inl z
      ·exact .inr (.inl z)
      ·have:b=t5:=by
        match j3,hj3',hu with
        |0,_,hu=>cases hu;cases z
        |1,_,hu=>cases hu;cases z
        |2,_,hu=>cases hu;cases z;rfl
       exact .inr (.inr ⟨b,z,SqT.of (kN (by rw[this];exact q5) (by rw[this];exact g8 _ _ nt5l t7'))⟩)
     have kd8:=kd1.same S8;exact⟨_,rfl,q (.ref l0) J8 D8' ⟨_,.odd (kN q0 k8) kd8.k hok8 kd8.d (okv.same S8),(SnK.odd (aRn hok8) (kd8.s.le' (rj mk)) (sv.le (μ _) (rj mk)) (by omega)).dct.le (by omega) (by omega)⟩⟩
   ·refine qP (by simp;omega) ⟨_,rfl,_,rfl,p,15,rfl,by decide,by decide,d8.1,fun j H9 hj d9=>?_⟩
    ·obtain⟨xs0,z1,z2,z3⟩:=(i8.same (d9.offs hpy)).x;obtain⟨v,hv,okv⟩:=aGg z3 (j:=j) (by rw[z2];exact_mod_cast hj);exact⟨ls,xs0,_,v,rfl,rfl,jQ.seq z1,hv,q v H9 (D8.trans d9) (okv.le (by omega) (by omega))⟩
  ·obtain⟨a,xs,rfl,hx,nz,dts⟩:=hd8.lstI
   ·have hxA:=jQ.seq hx;have lx:=dts.length;obtain⟨mk,rfl,sa⟩:=sn.lst;refine⟨_,rfl,.ref a,_,"list",rfl,by decide,.inl (.inl ⟨rfl,_,hxA⟩),_,rfl,qF ⟨_,rfl,_,_,rfl,rfl,_,rfl,?_⟩⟩
    by_cases hw4:wy<4
    ·refine qZ (by simp;omega) ⟨_,rfl,_,rfl,a,xs,rfl,hxA,fun p1 np1 hp1=>?_⟩;clear 1 p1 J1 b1 c1 hp1;refine⟨_,rfl,_,rfl,_,rfl,a,xs,rfl,b1.seq hxA,fun p2 np2 hp2=>?_⟩;clear 1 p2 J2 b2 c2 hp2;have B2:=b1.trans b2;refine⟨a,p2,xs,_,rfl,rfl,B2.seq hxA,SqL.of c2,?_,fun p3 np3 hp3=>?_⟩
     ·have:=dF xs none (some 1);rw[ic];omega
     clear 1 p3 J3 b3 c3 hp3;have B3:=B2.trans b3;refine⟨_,rfl,a,xs,rfl,.inl ⟨B3.seq hxA,fun p4 hp4=>?_⟩⟩;clear 1 p4 J4 b4 c4 hp4;have B4:=B3.trans b4;refine⟨_,rfl,iF,fun p5 hp5=>?_⟩;clear 1 p5 J5 b5 c5 hp5;have B5:=B4.trans b5;refine⟨a,p5,xs,_,rfl,rfl,B5.seq hxA,SqL.of c5,?_,fun p6 np6 hp6=>?_⟩
     ·show xs.length+1<=χ;rw[ic];omega
     clear 1 p6 J6 b6 c6 hp6;have B6:=B5.trans b6;refine⟨szL4,fun lm hlm=>?_⟩;clear 1 lm J7 b7 c7 hlm;have B7:=B6.trans b7;have S7:jG (offs ys H8) (offs ys J7):=kH B7;have q1:=al8.new hp1;have q3:=(al8.same B2).new hp3;have q4:=(al8.same B3).new hp4;have q6:=(al8.same B5).new hp6;have d7:=dts.same S7;have cd:∀lo hi:Option Int,Dqs true P w K (offs ys J7) (zW xs lo hi) ((ds.drop (HT.sIx xs.length 0 lo)).take (HT.sIx xs.length xs.length hi-HT.sIx xs.length 0 lo)):=fun lo hi=>(d7.drop).take;have cs:∀lo hi:Option Int,SnA ((ds.drop (HT.sIx xs.length 0 lo)).take (HT.sIx xs.length xs.length hi-HT.sIx xs.length 0 lo)) W mk:=fun lo hi=>(sa.drop).take;have okA:∀v∈[V.ref p1,.ref p3,.ref p4,.ref p6],OkD P w K ys J7 v (2*W+300) (mk+1+2):=by
      intro v hv;simp only[υ,il,or_false]at hv;rcases hv with rfl|rfl|rfl|rfl
      ·exact⟨_,.lst (SqL.of (kN q1 (b7 _ _ (b6 _ _ (b5 _ _ (b4 _ _ (b3 _ _ (b2 _ _ c1)))))))) (fun _=>np1) (cd (some 1) none),(cs (some 1) none).lst.le (by omega) (by omega)⟩
      ·exact⟨_,.lst (SqL.of (kN q3 (b7 _ _ (b6 _ _ (b5 _ _ (b4 _ _ c3)))))) (fun _=>np3) (d7.app (cd none (some 1))),(sa.app (cs none (some 1))).lst.le (by omega) (by omega)⟩
      ·exact⟨_,.tup (SqT.of (kN q4 (b7 _ _ (b6 _ _ (b5 _ _ c4))))) d7,sa.tup.le (by omega) (by omega)⟩
      ·exact⟨_,.lst (SqL.of (kN q6 (b7 _ _ c6))) (fun _=>np6) (d7.app (.cons .non .nil)),(sa.app (SnA.cons (Sm.none.sn.le (μ _) (gw _)) (SnA.nil _))).lst.le (by omega) (by omega)⟩
     obtain⟨v,hv,okv⟩:=aGg okA (j:=wy) (by show wy<4;omega);exact⟨_,rfl,lm,_,_,v,rfl,rfl,SqL.of c7,hv,q v J7 (D8.keep B7) okv⟩
    ·refine qP (by simp;omega) (⟨_,rfl,.ref a,_,"list",rfl,by decide,.inl (.inl ⟨rfl,_,hxA⟩),_,rfl,jU (eN ⟨_,rfl,.ref a,_,"list",rfl,by decide,.inl (.inl ⟨rfl,_,hxA⟩),_,rfl,jU (eN ⟨_,rfl,_,rfl,p,15,rfl,by decide,by decide,d8.1,fun j H9 hj d9=>?_⟩)⟩)⟩)
     ·obtain⟨xs0,z1,z2,z3⟩:=(i8.same (d9.offs hpy)).x;obtain⟨v,hv,okv⟩:=aGg z3 (j:=j) (by rw[z2];exact_mod_cast hj);exact⟨ls,xs0,_,v,rfl,rfl,jQ.seq z1,hv,q v H9 (D8.trans d9) (okv.le (by omega) (by omega))⟩
 ·obtain⟨v0,rfl,hv⟩ : ∃v:Nat,d=.int v/\v<256 ^ n:=by cases r <;> exact hc
  obtain rfl:=hd.intI;refine⟨_,rfl,.int v0,_,"int",rfl,by decide,.inl rfl,_,rfl,jU (eN ⟨_,rfl,.int v0,_,"int",rfl,by decide,.inl rfl,_,rfl,jU (eN ⟨_,rfl,.int v0,_,"int",rfl,by decide,.inl rfl,_,rfl,jU (eN ⟨_,rfl,_,rfl,p,15,rfl,by decide,by decide,d8.1,fun j H9 hj d9=>?_⟩)⟩)⟩)⟩
  ·obtain⟨xs0,z1,z2,z3⟩:=(i8.same (d9.offs hpy)).x;obtain⟨v,hv,okv⟩:=aGg z3 (j:=j) (by rw[z2];exact_mod_cast hj);exact⟨ls,xs0,_,v,rfl,rfl,jQ.seq z1,hv,q v H9 (D8.trans d9) (okv.le (by omega) (by omega))⟩
 ·cases r with
  |zero=>exact(kf _ (hk _ (ju (show 0<is.length by have:=hf.1;omega)))).elim
  |succ r =>
  obtain⟨j,i,e,hi,rfl,hce⟩ : ∃(j i:Nat) (e:ν),is[j]?=some i/\d=.tuple [.int j,e]/\Can S r (.nest i) e:=hc;have hjl:j<is.length:=(θ.mp hi).1;have hj4:=hf.2.1;obtain⟨a,x1,rfl,hx,hd1⟩:=hd8.pickI
  ·have hxA:=jQ.tp hx;obtain⟨mk,rfl,sa⟩:=sn.tup;have sb:=sa.hd.2.hd.1;refine⟨_,rfl,.ref a,_,"tuple",rfl,by decide,.inl (.inr ⟨rfl,_,hxA⟩),_,rfl,jU (eN ⟨_,rfl,.ref a,_,"tuple",rfl,by decide,.inl (.inr ⟨rfl,_,hxA⟩),_,rfl,qF ⟨_,rfl,_,_,rfl,rfl,_,rfl,?_⟩⟩)⟩
   by_cases hw4:wy<5
   ·refine qZ (by simp;omega) ⟨_,rfl,a,_,rfl,hxA,fun p1 np1 hp1=>?_⟩;clear 1 p1 J1 b1 c1 hp1;refine⟨_,rfl,a,_,_,_,rfl,rfl,b1.tp hxA,rfl,_,_,rfl,rfl,_,rfl,a,_,_,_,rfl,rfl,b1.tp hxA,rfl,vS,fun p2 hp2=>?_⟩;clear 1 p2 J2 b2 c2 hp2;have B2:=b1.trans b2;refine⟨_,rfl,a,_,_,_,rfl,rfl,B2.tp hxA,rfl,vS,fun p3 hp3=>?_⟩;clear 1 p3 J3 b3 c3 hp3;have B3:=B2.trans b3;refine⟨_,rfl,a,_,_,_,rfl,rfl,B3.tp hxA,rfl,_,rfl,a,_,_,_,rfl,rfl,B3.tp hxA,rfl,pC,fun p4 hp4=>?_⟩;clear 1 p4 J4 b4 c4 hp4;have B4:=B3.trans b4;refine⟨szL4,fun lp hlp=>?_⟩;clear 1 lp J5 b5 c5 hlp;have B5:=B4.trans b5;refine⟨_,rfl,_,rfl,a,_,_,_,rfl,rfl,B5.tp hxA,rfl,_,_,rfl,rfl,_,rfl,a,_,_,_,rfl,rfl,B5.tp hxA,rfl,vS,fun p5 hp5=>?_⟩;clear 1 p5 J6 b6 c6 hp5;have B6:=B5.trans b6;refine⟨iF,fun l6 hl6=>?_⟩;clear 1 l6 J7 b7 c7 hl6;have B7:=B6.trans b7;refine⟨lp,l6,_,_,rfl,rfl,SqL.of (b7 _ _ (b6 _ _ c5)),SqL.of c7,(by show 4+1<=χ;decide),fun l7 _ hl7=>?_⟩;clear 1 l7 J8 b8 c8 hl7;have B8:=B7.trans b8;have S8:jG (offs ys H8) (offs ys J8):=kH B8;have q1:=al8.new hp1;have q2:=(al8.same b1).new hp2;have q3:=(al8.same B2).new hp3;have q4:=(al8.same B3).new hp4;have q5:=(al8.same B5).new hp5;have d8':=hd1.same S8;have T7:=b8;have T6:=b7.trans T7;have T5:=b6.trans T6;have T4:=b5.trans T5;have T3:=b4.trans T4;have T2:=b3.trans T3;have T1:=b2.trans T2;have ij:∀n:Int,-5<=n->n<10->Sn (.int n) 101 mk:=fun n h1 h2=>(Sm.int (by omega)).sn.le (μ _) (gw _);have two:∀{n:Int},-5<=n->n<10->SnA [.int n,e] (101+1+(W+1+0)) mk:=fun h1 h2=>SnA.cons (ij _ h1 h2) (SnA.cons sb (SnA.nil _));have okA:∀v∈[V.ref p1,.ref p2,.ref p3,.ref p4]++[.ref p5],OkD P w K ys J8 v (2*W+300) (mk+1+2):=by
     intro v hv;simp only[oo,List.nil_append,υ,il,or_false]at hv;rcases hv with rfl|rfl|rfl|rfl|rfl
     ·exact⟨_,.lst (SqL.of (kN q1 (T1 _ _ c1))) (fun _=>np1) (.cons (.int _) (.cons d8' .nil)),(two (n:=(j:Int)) (by omega) (by omega)).lst.le (by omega) (by omega)⟩
     ·exact⟨_,.tup (SqT.of (kN q2 (T2 _ _ c2))) (.cons (.int _) (.cons d8' .nil)),(two (n:=(j:Int)+1) (by omega) (by omega)).tup.le (by omega) (by omega)⟩
     ·exact⟨_,.tup (SqT.of (kN q3 (T3 _ _ c3))) (.cons (.bl _) (.cons d8' .nil)),(SnA.cons ((Sm.bool true).sn.le (μ _) (gw _)) (SnA.cons sb (SnA.nil _))).tup.le (by omega) (by omega)⟩
     ·exact⟨_,.tup (SqT.of (kN q4 (T4 _ _ c4))) (.cons (.int _) (.cons d8' (.cons (.int _) .nil))),(SnA.cons (ij (j:Int) (by omega) (by omega)) (SnA.cons sb (SnA.cons (ij 0 (by omega) (by omega)) (SnA.nil _)))).tup.le (by omega) (by omega)⟩
     ·exact⟨_,.tup (SqT.of (kN q5 (T6 _ _ c6))) (.cons (.int _) (.cons d8' .nil)),(two (n:=1-(j:Int)) (by omega) (by omega)).tup.le (by omega) (by omega)⟩
    obtain⟨v,hv,okv⟩:=aGg okA (j:=wy) (by show wy<5;omega);exact⟨_,rfl,l7,_,_,v,rfl,rfl,SqL.of c8,hv,q v J8 (D8.keep B8) okv⟩
   ·refine qP (by simp;omega) (⟨_,rfl,.ref a,_,"tuple",rfl,by decide,.inl (.inr ⟨rfl,_,hxA⟩),_,rfl,jU (eN ⟨_,rfl,_,rfl,p,15,rfl,by decide,by decide,d8.1,fun j H9 hj d9=>?_⟩)⟩)
    ·obtain⟨xs0,z1,z2,z3⟩:=(i8.same (d9.offs hpy)).x;obtain⟨v,hv,okv⟩:=aGg z3 (j:=j) (by rw[z2];exact_mod_cast hj);exact⟨ls,xs0,_,v,rfl,rfl,jQ.seq z1,hv,q v H9 (D8.trans d9) (okv.le (by omega) (by omega))⟩
theorem nX(F:Fun K "_law_changed" "_law_changed" aO f fd)(aa:j4 "_law_take" cI)(cw:j4 "_law_bad" (aOr P w K))(am:j4 "_law_changed" (spCg P w K r)):j0 ["_law_box_here","_law_thing"] (spCg P w K (r+1)):=by
 w_cond xX;obtain⟨p,x,d,kd,S,r0,ys,W,m,er,rfl,hs,hpy,al,hk,hf,hW,hc,hd,sn,q⟩:=h;cases er;refine⟨_,(jE (kK (jW qH (jF aa hr (jA (pv 0) (jA jC jB))) jC) (jD (jJ (jF cw hr (jA (pv 0) (jA (pv 1) jB))))) jL) (jE (kK (PW.pt (iS (kU (jK kZ rfl M.isinstance ie (jA (pv 1) (jA (qI (v:=.ty "list") rfl M.list rl rfl) jB)))) (eC (jW (aKl hr.units) (pv 1) (qU jB))))) (jE (jZ 2 xX.nd (jF aa hr (jA (pv 0) (jA (jK kF rfl M.len iq (jA (pv 1) jB)) jB)))) (jD (jJ (jV iA (jV iA (vI gU (pv 1) xB (xA (pv 2))) (qU (jA (jF am hr (jA (pv 0) (jA (jH jX (pv 1) (pv 2)) jB))) jB))) (vI gU (pv 1) (xA (jV qM (pv 2) jC)) xB))))) jL) (jE (kK (kU (jK kZ rfl M.isinstance ie (jA (pv 1) (jA (qI (v:=.ty "tuple") rfl M.tuple ug rfl) jB)))) (jD (jJ (kY (jA (jH jT (pv 1) jC) (jA (jF am hr (jA (pv 0) (jA (jH jT (pv 1) jC) jB))) jB))))) jL) (jE (kK (kU (jK kZ rfl M.isinstance ie (jA (pv 1) (jA (qI (v:=.ty "dict") rfl M.dict boot_dict rfl) jB)))) (jE (jZ 3 xX.nd (qA pJ rfl M.dict (show lr "dict" = some (.type "dict") from by ac_rfl) (jA (pv 1) jB))) (jE (jZ 4 xX.nd (jH jX (qA (fX rfl) rfl M.list rl (jA (pv 3) jB)) (jF aa hr (jA (pv 0) (jA (jK sN rfl M.len iq (jA (pv 3) jB)) jB))))) (jE (eF hr.units1 (pv 3) (pv 4) (jF am hr (jA (pv 0) (jA (bO hr.units1 (pv 3) (pv 4) (fun _ _=>rfl)) jB))) rfl) (jD (jJ (pv 3)))))) jL) (jD (jJ (jF cw hr (jA (pv 0) (jA (pv 1) jB))))))))),?_⟩;refine⟨_,rfl,p,4,rfl,by decide,by decide,hs,fun w4 H1 _ d1=>?_⟩;have s01:jG (offs ys H) (offs ys H1):=d1.offs hpy;have al1:=Al.drawn al d1;have hd1:=hd.same s01;refine⟨rfl,_,rfl,?_⟩;cases hw:decide (V.int (w4:Int)=V.int 0) with
 |true=>exact qZ rfl ⟨_,rfl,_,rfl,p,x,d,kd,S,r,ys,W,m,rfl,d1.1,hpy,al1,hk,hf,hW,hc,hd1,sn,fun v H9 d9 ok9=>q v H9 (d1.trans d9) ok9⟩
 |false =>
 refine qP ο ?_;rcases Kd.three kd with hpd|⟨n,rfl⟩|⟨is,rfl⟩
 ·cases r with
  |zero=>exact(yN hpd hk).elim
  |succ r =>
  obtain⟨ds,rfl,cl⟩:=(cZ hpd).mp hc;have ln:=cl.len;have few:=(xU hW.good hpd hf);have hpk:∀f∈kd.parts S,f.2.Rk r/\f.2.Fit S.length:=fun f hf'=>by
   obtain⟨p1,p2,_⟩:=Kd.parts_ok hW.good hf hk hf';exact⟨p1,p2⟩
  have ne0 : 0<ds.length:=by rw[←ln];exact qu.mpr few.1
  have few2:=few.2;rcases id hpd with⟨i,rfl⟩|⟨mm,k,rfl⟩
  ·rw[show gT (.nest i) ((Kd.nest i).parts S) ds=.dict (kvD (((Kd.nest i).parts S).map (·.1)) ds) from congrArg ue (zX _ _)]at hd1 sn;have lnk:(((Kd.nest i).parts S).map (·.1)).length=ds.length:=by rw[δ];exact ln
   obtain⟨a,xs,rfl,h1,kk,dts⟩:=Dq.kd hd1 lnk;obtain⟨mk,rfl,sk⟩:=sn.dct;have kd0:KD P w K (offs ys H1) _ xs ds W mk:=⟨kk,dts,sk⟩;have h1A:=jQ _ _ h1;have kz6:(((Kd.nest i).parts S).map (·.1)).length<=6:=by rw[δ];exact few2
   have tyd:tyQ P w K (.ref a) H1 "dict":=.inr ⟨rfl,a,_,_,rfl,h1A,oP kk.l (by omega)⟩;refine⟨_,rfl,.ref a,_,"dict",rfl,by decide,tyd,_,rfl,jU (eN ⟨_,rfl,.ref a,_,"dict",rfl,by decide,tyd,_,rfl,jU ⟨_,rfl,.ref a,_,"dict",rfl,by decide,tyd,_,rfl,qF ⟨_,rfl,a,_,rfl,h1A,fun l0 hl0=>?_⟩⟩⟩)⟩;clear 1 l0 J1 b1 c1 hl0;refine⟨_,rfl,l0,_,rfl,c1,by rw[vY kk.l];omega,fun L hL=>?_⟩;clear 1 L J2 b2 c2 hL;rw[show(kzA (((Kd.nest i).parts S).map (·.1)) xs).map (fun kv=>kV kv.1)=(((Kd.nest i).parts S).map (·.1)).map V.str from aEp kk.l]at c2;have q0:=al1.new hl0;have nlp:l0≠p:=fun z=>q0 (z ▸ hpy);have nLp:L≠p:=fun z=>(al1.same b1).new hL (z ▸ hpy);refine⟨_,rfl,_,rfl,l0,_,rfl,b2 _ _ c1,p,_,rfl,by rw[vY kk.l,lnk];omega,by rw[vY kk.l];omega,jG.st3 (b1.trans b2) d1.1,fun j J3 hj d3=>?_⟩;rw[vY kk.l]at hj;have hj':j<(((Kd.nest i).parts S).map (·.1)).length:=by exact_mod_cast hj
   obtain⟨key,hkey⟩ : ∃key,(((Kd.nest i).parts S).map (·.1))[j]?=some key:=⟨_,η hj'⟩;have hkm:=ι hkey;have k3:=d3.2 l0 _ nlp (b2 _ _ c1);have F3:∀b o,b≠p->H1 b=some o->J3 b=some o:=fun b o n e=>d3.2 b o n (b2 _ _ (b1 _ _ e));have S3:jG (offs ys H1) (offs (l0::ys) J3):=fun b o e=>by
    have hb:b∉ys:=fun z=>by unfold offs at e;rw[if_pos z]at e;cases e
    have e':=jQ _ _ e;have nb:b≠l0:=fun z=>by rw[z,hl0]at e';cases e'
    exact kN (fun z=>(υ.mp z).elim nb hb) (F3 b o (fun z=>hb (z ▸ hpy)) e')
   have al3:Al (l0::ys) J3:=fun b hb=>by
    rcases υ.mp hb with rfl|hb
    ·exact⟨_,k3⟩
    ·by_cases z:b=p
     ·rw[z];exact fB d3.1
     ·obtain⟨o,ho⟩:=al1 b hb;exact⟨o,F3 b o z ho⟩
   obtain⟨v0,e0,u2,u',r1,r2,r3,r4,r5,r6⟩:=kd0.setx hkey;have hjp:j<((Kd.nest i).parts S).length:=by rw[δ]at hj';exact hj'
   have efj:((Kd.nest i).parts S)[j]?=some (((Kd.nest i).parts S)[j]'hjp):=η _;obtain⟨dj',hdj',hcj⟩:=cl.get efj;rw[r2]at hdj';cases hdj';refine⟨L,_,_,.str key,rfl,rfl,SqL.of (d3.2 L _ nLp c2),fE hkey,?_⟩;refine⟨_,rfl,_,rfl,_,rfl,l0,v0,rfl,(by rw[←r1];exact bB.k (k:=.inr key) k3),p,v0,e0,_,S,r,l0::ys,u2,mk,rfl,rfl,d3.1,ρ _ hpy,al3,(hpk _ (ι efj)).1,(hpk _ (ι efj)).2,hW,hcj,r3.same S3,r4,fun v J4 d4 ok4=>?_⟩;obtain⟨dv,okv,snv⟩:=ok4;have k4:=d4.2 l0 _ nlp k3;have S4:=S3.trans (d4.offs (ρ _ hpy));obtain⟨xs',ds',e',kd'⟩:=r6 S4 (vp mk 2) okv snv;refine⟨_,rfl,_,rfl,l0,_,rfl,.inl ⟨_,.inr key,k4,rfl,(by rw[vY kk.l,ic];omega),rfl⟩,?_⟩;rw[aNw kk.l hkm,e'];clear 0 l0 J5 g5 k5;have s45:jG (offs (l0::ys) J4) (offs (l0::ys) J5):=xW fun b o hb e=>g5 b o (fun z=>hb (by rw[z];simp)) e;obtain⟨x1,x2⟩:=(kd'.same (s45.trans aFq)).ok (a:=l0) (kN q0 k5);have st5:=zB d4.1 g5 (kh nlp);have D5:Drawn p H J5:=⟨st5,fun b o n e=>by
    have e1:=d1.2 b o n e;exact g5 b o (fun z=>by rw[z,hl0]at e1;cases e1) (d4.2 b o n (F3 b o n e1))⟩
   exact⟨_,rfl,q (.ref l0) J5 D5 ⟨_,x1,x2.le (by omega) (by omega)⟩⟩
  ·obtain⟨a,xs,rfl,hx,nz,dts⟩:=hd1.lstI
   ·have hxA:=jQ.seq hx;have lx:=dts.length;obtain⟨mk,rfl,sa⟩:=sn.lst;refine⟨_,rfl,.ref a,_,"list",rfl,by decide,.inl (.inl ⟨rfl,_,hxA⟩),_,rfl,qF ⟨_,rfl,gM,fun pn hpn=>?_⟩⟩;clear 1 pn J1 b1 c1 hpn;refine⟨a,pn,xs,rfl,rfl,b1.seq hxA,SqL.of c1,_,rfl,qZ (by cases xs with|nil=>(rw[←lx]at ne0;cases ne0)|cons _ _=>rfl) ⟨_,rfl,_,rfl,a,xs,rfl,.inl (b1.seq hxA),p,_,rfl,by omega,by omega,jG.st3 b1 d1.1,fun j J2 hj d2=>?_⟩⟩;have hj':j<xs.length:=by exact_mod_cast hj
    have D2:Drawn p H1 J2:=⟨d2.1,fun b o n e=>d2.2 b o n (b1 _ _ e)⟩;have S2:jG (offs ys H1) (offs ys J2):=D2.offs hpy;have al2:=Al.drawn al1 D2;have x2:=S2.seq hx;refine⟨_,rfl,_,rfl,_,rfl,a,xs,rfl,jQ.seq x2,fun p1 np1 hp1=>?_⟩;rw[aQl (jw hj')];clear 1 p1 J3 b3 c3 hp1;have S3:=S2.trans (kH (xs:=ys) b3);have al3:=al2.same b3;have exj:xs[j]?=some xs[j]:=η hj';obtain⟨dj,hdj,okj⟩:=dts.getX exj;have efj:((Kd.many mm k).parts S)[j]?=some (((Kd.many mm k).parts S)[j]'(by omega)):=η _;obtain⟨dj',hdj',hcj⟩:=cl.get efj;rw[hdj]at hdj';cases hdj';obtain⟨w1,w2,w3,z1,z2,z3,z4⟩:=sa.split hdj;have np1y:=al2.new hp1;refine⟨_,rfl,_,rfl,_,rfl,a,xs,_,_,rfl,rfl,jQ.seq (S3.seq hx),xP exj,p,xs[j],dj,_,S,r,ys,w2,mk,rfl,rfl,jG.st3 b3 d2.1,hpy,al3,(hpk _ (ι efj)).1,(hpk _ (ι efj)).2,hW,hcj,okj.same S3,z2,fun v J4 d4 ok4=>?_⟩;obtain⟨dv,okv,snv⟩:=ok4;have S4:=S3.trans (d4.offs hpy);have al4:=Al.drawn al3 d4;have np1p:p1≠p:=fun z=>np1y (z ▸ hpy);have c4:=d4.2 p1 _ np1p c3;refine⟨iF,fun p2 hp2=>?_⟩;clear 1 p2 J5 b5 c5 hp2;refine⟨p1,p2,_,_,rfl,rfl,SqL.of (b5 _ _ c4),SqL.of c5,?_,fun p3 np3 hp3=>?_⟩
    ·show(xs.take j).length+1<=χ;rw[Ω,ic];omega
    clear 1 p3 J6 b6 c6 hp3;have S6:=(S4.trans (kH (xs:=ys) b5)).trans (kH (xs:=ys) b6);refine⟨_,rfl,_,rfl,_,_,rfl,rfl,_,rfl,a,xs,rfl,jQ.seq (S6.seq hx),fun p4 np4 hp4=>?_⟩;rw[show((j:Int)+1)=((j+1:Nat):Int) from rfl,aJx (by omega)];clear 1 p4 J7 b7 c7 hp4;refine⟨p3,p4,_,_,rfl,rfl,SqL.of (b7 _ _ c6),SqL.of c7,?_,fun p5 np5 hp5=>?_⟩
    ·rw[ξ,Ω,yd,ic];show min j xs.length+1+(xs.length-(j+1))<=_;omega
    clear 1 p5 J8 b8 c8 hp5;have B8:=((b5.trans b6).trans b7).trans b8;have S8:=S4.trans (kH (xs:=ys) B8);have q5:=((al4.same ((b5.trans b6).trans b7))).new hp5;have d8:=dts.same S8;have D8:Drawn p H J8:=((d1.trans D2).keep b3).trans d4 |>.keep B8;refine q (.ref p5) J8 D8 ⟨_,.lst (SqL.of (kN q5 c8)) (fun _=>np5) ((d8.take.app (.cons (okv.same (kH B8)) .nil)).app d8.drop),?_⟩;exact(((z1.dp' (by omega)).app (SnA.cons snv (SnA.nil _))).app (z3.dp' (by omega))).lst.le (by omega) (by omega)
 ·obtain⟨v0,rfl,hv⟩ : ∃v:Nat,d=.int v/\v<256 ^ n:=by cases r <;> exact hc
  obtain rfl:=hd.intI;exact⟨_,rfl,.int v0,_,"int",rfl,by decide,.inl rfl,_,rfl,jU (eN ⟨_,rfl,.int v0,_,"int",rfl,by decide,.inl rfl,_,rfl,jU ⟨_,rfl,.int v0,_,"int",rfl,by decide,.inl rfl,_,rfl,jU ⟨_,rfl,_,rfl,p,.int v0,.int v0,.num n,S,r,ys,W,m,rfl,d1.1,hpy,al1,hk,hf,hW,hc,hd1,sn,fun v H9 d9 ok9=>q v H9 (d1.trans d9) ok9⟩⟩⟩)⟩
 ·cases r with
  |zero=>exact(kf _ (hk _ (ju (show 0<is.length by have:=hf.1;omega)))).elim
  |succ r =>
  obtain⟨j,i,e,hi,rfl,hce⟩ : ∃(j i:Nat) (e:ν),is[j]?=some i/\d=.tuple [.int j,e]/\Can S r (.nest i) e:=hc;have hil:i<S.length:=hf.2.2.2 i (ι hi);have hki:=hk i (ι hi);obtain⟨a,x1,rfl,hx,hd1'⟩:=hd1.pickI
  ·have hxA:=jQ.tp hx;obtain⟨mk,rfl,sa⟩:=sn.tup;obtain⟨w1,w2,w3,y1,y2,y3,y4⟩:=sa.split (j:=1) rfl;refine⟨_,rfl,.ref a,_,"tuple",rfl,by decide,.inl (.inr ⟨rfl,_,hxA⟩),_,rfl,jU (eN ⟨_,rfl,.ref a,_,"tuple",rfl,by decide,.inl (.inr ⟨rfl,_,hxA⟩),_,rfl,qF ⟨_,rfl,a,_,_,_,rfl,rfl,hxA,rfl,_,rfl,_,rfl,a,_,_,_,rfl,rfl,hxA,rfl,p,x1,e,.nest i,S,r,ys,w2,mk,rfl,rfl,d1.1,hpy,al1,(by show 2*i+2<=r;omega),hil,hW,hce,hd1',y2,fun v J4 d4 ok4=>⟨vS,fun t5 ht5=>?_⟩⟩⟩)⟩;obtain⟨dv,okv,snv⟩:=ok4;clear 1 t5 J5 b5 c5 ht5;have q5:=(Al.drawn al1 d4).new ht5;refine q (.ref t5) J5 ((d1.trans d4).keep b5) ⟨.tuple [.int j,dv],.tup (SqT.of (kN q5 c5)) (.cons (.int _) (.cons (okv.same (kH b5)) .nil)),?_⟩;exact((y1.dp' (vp mk 2)).app (SnA.cons snv (SnA.nil _))).tup.le (by omega) (by omega)
theorem uD{r:Nat}(F:Fun K "_law_right" "_law_right" cS f fd)(au:j4 "_law_blank" (spLB K (r+1)))(be:j4 "_law_sortwise" (spSw K (r+1)))(bp:j4 "blank" (aFv (j7 0) K (r+1)))(ae:j4 "_law_answers" (aCz P w (j7 0) K r))(ar:j4 "_law_drawn" (spDr K (r+1)))(ap:j4 "_law_turned" (spTu K (r+1)))(am:j4 "_law_changed" (spCg P w K (r+1)))(aw:j4 "_law_is" (aJj P w K (r+1))):j0 ["_law_box_here","_law_shape","_law_shapes_here","_law_kind_here"] (aJl P w (j7 0) K r):=by
 w_cond vT;obtain⟨p,s,a,sl,i,sa,S,rfl,hs,e,hi,h9,hz,hw,hW,hlk,hlx,q⟩:=h;refine⟨_,(jE (jZ 4 vT.nd (jF au hr (jA (pv 3) (jA (pv 2) jB)))) (jE (kK (PW.pt (zQ (vA (kU (jF be hr (jA (jF bp hr (jA (pv 1) jB)) (jA (pv 4) jB))))) (xZ (vA (kU (jF ae hr (jA (pv 1) (jA (jF bp hr (jA (pv 1) jB)) (jA vQ jB))))))))) (jD (jJ vQ)) jL) (jE (jZ 5 vT.nd (jF ar hr (jA (pv 0) (jA (pv 3) (jA (pv 2) jB))))) (jE (kK (PW.pt (zQ (vA (kU (jF ae hr (jA (pv 1) (jA (pv 5) (jA vQ jB)))))) (xZ (vA (kU (jF ae hr (jA (pv 1) (jA (jF ap hr (jA (pv 5) jB)) (jA vQ jB))))))))) (jD (jJ vQ)) jL) (jE (xQ jv rfl (qX rfl M.range (jA jC jB)) (qV 6 vT.nd) (jE (jZ 7 vT.nd (jF am hr (jA (pv 0) (jA (pv 5) jB)))) (jE (jZ 8 vT.nd (jK (cC (P:=P) (w:=w) (K:=K) rfl rfl rfl hr.gd hr.units) rfl M.repr (show lr "repr" = some (.builtin "repr") from by ac_rfl) (jA (pv 7) jB))) (jD (kK (PW.pt (zQ (vA (kU (jF ae hr (jA (pv 1) (jA (pv 7) (jA (jF aw hr (jA (pv 3) (jA (pv 2) (jA (pv 7) jB)))) jB)))))) (xZ (jW lV (jK (cC (P:=P) (w:=w) (K:=K) rfl rfl rfl hr.gd hr.units) rfl M.repr (show lr "repr" = some (.builtin "repr") from by ac_rfl) (jA (pv 7) jB)) (pv 8))))) (jD (jJ vQ)) jL))))) (jE (jZ 9 vT.nd (jF bp hr (jA (pv 1) jB))) (jE (yJ (aJf qp PySem.F.slot_dict_clear PySem.F.type_dict_clear aHb (pv 9))) (jD (jJ (vK (qT (aFl hr.units) (jF bp hr (jA (pv 1) jB)) (pv 4) (vV _)) (vU (jF ae hr (jA (pv 1) (jA (pv 5) (jA vQ jB))))))))))))))),?_⟩;have hil:i<S.length:=by rw[←hw.1];exact(θ.mp e).1
 have hrk:(Kd.nest i).Rk r:=hi;have pm:p∈[p]:=Φ.mpr rfl;have hFN:FNd S:=fun s hs=>hW.fnd s hs;have bc:Can S r (.nest i) (blD S r (.nest i)):=aRd hW.good hil hrk;have bdp:=aJs hW (kd:=.nest i) hil hrk bc;have bmay:true=xE S r (.nest i) (blD S r (.nest i)):=(uR hFN (eJ bc)).symm;have dq:∀{z:Bool}{H':Hp}{x:V}{d:ν},Can S r (.nest i) d->Dt z K H' x d->Dq z P w K H' x d:=fun hc h=>aHy hW (k:=.nest i) hil hrk (eJ hc) h;have hwA:=hw.same jQ;refine⟨_,rfl,_,rfl,a,sl,.nest i,S,r,rfl,rfl,hrk,hil,hlk.same jQ,hlx.same jQ,hW,fun y fy H1 g1 ny hy=>?_⟩;have hy1:=aEb (jG.st3 g1 hs) hy (New.st ny hs);refine⟨_,rfl,s,i,sa,S,r,rfl,rfl,e,hi,hwA.same g1,hW,fun x2 f2 H2 g2 n2 h2=>?_⟩;have g12:=g1.trans g2;refine⟨_,rfl,x2,y,_,.nest i,S,r,rfl,rfl,by omega,hrk,hil,hW,bc,h2.dt,(hy1.same jQ).same g2,fun H3 g3=>⟨_,rfl,jU ⟨_,rfl,_,rfl,s,i,sa,S,r,rfl,rfl,e,hi,hwA.same (g12.trans g3),hW,fun x4 f4 H4 g4 n4 h4=>?_⟩⟩⟩;have g14:=(g12.trans g3).trans g4;refine⟨s,x4,true,i,sa,S,_,rfl,e,hi,hwA.same g14,hW,dq bc h4.dt,bmay,fun H5 g5=>⟨_,rfl,jU ?_⟩⟩;have g15:=g14.trans g5;have st5:=jG.st3 g15 hs;have s5:jG (offs [p] H) (offs [p] H5):=kH g15;have hy5:Dt false K (offs [p] H5) y (blD S r (.nest i)):=hy1.same (kH (((g2.trans g3).trans g4).trans g5));have al5:Al [p] H5:=fun b hb=>by rw[Φ.mp hb];exact fB st5
 refine⟨_,rfl,_,rfl,_,rfl,p,a,sl,.nest i,S,r,[p],rfl,rfl,st5,pm,al5,hrk,hil,hlk.same s5,hlx.same s5,hW,fun x d H6 d6 hdt hcn hfr=>?_⟩;have s56:jG (offs [p] H5) (offs [p] H6):=d6.offs pm;have s6:=s5.trans s56;have hy6:=hy5.same s56;have sn0:=wJ hW.good hW.nms (k:=.nest i) hil hrk hcn;have sn:Sn d 38400 10:=sn0.le (by
  have e1:(Kd.nest i).size (tabs S).sz<=64:=hz;exact Ψ (Nat.mul_le_mul (Nat.mul_le_mul_left 60 e1) (show r+1<=10 by omega)) (by decide)) (by omega)
 have dmay:true=xE S r (.nest i) d:=(uR hFN (eJ hcn)).symm;have hdq:=dq hcn hdt;have D6:Drawn p H H6:=⟨d6.1,fun b o n e=>d6.2 b o n (g15 _ _ e)⟩;refine⟨_,rfl,_,rfl,s,x,true,i,sa,S,d,rfl,e,hi,(hw.same s6).same jQ,hW,(hdq.same jQ).any,dmay,fun H7 g7=>⟨_,rfl,jU ⟨_,rfl,_,rfl,x,d,.nest i,S,r,rfl,rfl,hrk,hil,hW,hcn,(hdt.same jQ).any.same g7,fun x8 e8 f8 H8 g8 n8 h8 hr8=>?_⟩⟩⟩;have g78:=g7.trans g8;refine⟨s,x8,true,i,sa,S,e8,rfl,e,hi,((hw.same s6).same jQ).same g78,hW,aHy hW (k:=.nest i) hil hrk hr8 h8.dt,(uR hFN hr8).symm,fun H9 g9=>⟨_,rfl,jU ?_⟩⟩;have g69:=g78.trans g9;have st9:=jG.st3 g69 d6.1;have s69:jG (offs [p] H6) (offs [p] H9):=kH g69;refine⟨8,rfl,by omega,by omega,zG (n:=8) (fun j σ H'=>∃(o6 o7 o8:Option V),σ = [some (.ref p),some (.ref s),some (.ref sl),some (.ref a),some y,some x,o6,o7,o8,none]/\Drawn p H9 H') ⟨_,_,_,rfl,Drawn.refl st9⟩ (fun j σ H' hj z=>?_) (fun σ H' z=>?_)⟩
 ·obtain⟨o6,o7,o8,rfl,D⟩:=z;have sD:=s69.trans (D.offs pm);refine⟨_,rfl,_,rfl,p,x,d,.nest i,S,r,[p],38400,10,rfl,rfl,D.1,pm,(fun b hb=>by rw[Φ.mp hb];exact fB D.1),hrk,hil,hW,hcn,hdq.same sD,sn,fun v J dJ okv=>?_⟩;obtain⟨dv,hdv,snv⟩:=okv;obtain⟨c1,c2,c3⟩:=Sn.shw snv (by decide) (by decide);have sJ:=(s6.trans sD).trans (dJ.offs pm);have hvA:=hdv.same jQ;refine⟨_,rfl,v,dv,rfl,hvA,c1,c2,c3,?_⟩;refine⟨_,rfl,_,rfl,_,rfl,_,rfl,_,rfl,a,sl,v,.nest i,S,r,dv,rfl,rfl,hrk,hil,(hlk.same sJ).same jQ,(hlx.same sJ).same jQ,hW,hvA.any,fun J2 g2'=>⟨s,v,_,i,sa,S,dv,rfl,e,hi,((hw.same sJ).same jQ).same g2',hW,hvA.any.same g2',rfl,fun J3 g3'=>⟨_,rfl,jU ⟨_,rfl,v,dv,rfl,(hvA.same g2').same g3',c1,c2,c3,_,rfl,rfl,_,rfl,qP (by simp) ?_⟩⟩⟩⟩;exact⟨_,_,_,rfl,(D.trans dJ).keep (g2'.trans g3')⟩
 ·obtain⟨o6,o7,o8,rfl,D⟩:=z;have sD:=s69.trans (D.offs pm);have sE:=s6.trans sD;refine⟨_,rfl,s,i,sa,S,r,rfl,rfl,e,hi,(hw.same sE).same jQ,hW,fun t1 ft J1 b1 nt ht=>?_⟩;have hdt1:=ht.dt;obtain⟨at',kvs,rfl,kt⟩:=aQr bc hdt1;have nat':H' at'=none:=by
   cases r with
   |zero=>exact bc.elim
   |succ r =>
    exact nt _ (aRi (show Tr true K J1 (.ref at') (.dict (aZ _ _)) ft from ht))
  refine⟨_,rfl,.inr (.inr (.inl ⟨rfl,.inl ⟨_,kt⟩⟩)),at',_,rfl,rfl,kt,?_⟩;generalize f2':upd J1 at' _=J2;obtain⟨g2',k2'⟩:=bH f2';have b2:jG H' J2:=fun b o eb=>g2' b o (fun z=>by rw[z,nat']at eb;cases eb) (b1 _ _ eb);have sF:=sE.trans (kH (xs:=[p]) b2);refine⟨_,rfl,s,i,sa,S,r,rfl,rfl,e,hi,(hw.same sF).same jQ,hW,fun u1 fu J3 b3 nu hu=>?_⟩;have s3':jG (offs [p] H6) (offs [p] J3):=(sD.trans (kH (xs:=[p]) b2)).trans (kH (xs:=[p]) b3);refine⟨_,rfl,_,hu.dt,(hy6.same s3').same jQ,by omega,_,rfl,qZ rfl ⟨_,rfl,_,rfl,s,x,true,i,sa,S,d,rfl,e,hi,(hw.same (s6.trans s3')).same jQ,hW,((hdq.same s3').same jQ).any,dmay,fun J4 b4=>q J4 ?_⟩⟩;have D9:Drawn p H H9:=D6.keep g69;exact(D9.trans D).keep ((b2.trans b3).trans b4)
theorem aQs{k r:Nat}(hR : 12<=r/\8*r<=200)(F:Fun K "law" "law" aIo f fd)(fk:j4 "_law_cell" (aKh K))(fz:j4 "_law_box" aOz)(aa:j4 "_law_take" cI)(dm:j4 "_law_shapes" (spSh K r))(fq:j4 "_law_text" (spTx K))(de:j4 "read_shapes" (spRd (j7 0) Vf K r))(df:j6 Vf "main" (spMn Vf K))(ee:j4 "_law_right" (aJl P w (j7 0) K 9))(ae:j4 "_law_answers" (aCz P w (j7 0) K 9))(aw:j4 "_law_is" (aJj P w K 10)):j0 ["_law_script"] (aFr K):=by
 w_cond aV;obtain⟨a,ns,rfl,hS,hlen,q⟩:=h;refine⟨_,(PSx.h (kW (iL jv rfl (PIx.mk (qX rfl M.range (jA (jK (rQ rfl) rfl M.max boot_max (jA jC (jA (jK (sS rfl) rfl M.min boot_min (jA (jK kF rfl M.len iq (jA (pv 0) jB)) (jA jC jB))) jB))) jB))) (qV 1 aV.nd) (kW (xC (jZ 2 aV.nd (jF fz hr (jA (jF fk hr (jA (pv 0) (jA (pv 1) jB))) jB)))) (kW (xC (jZ 3 aV.nd (jF dm hr (jA (pv 2) (jA jC jB))))) (kW (xC (jZ 4 aV.nd (jF de hr (jA (jF fq hr (jA (pv 3) jB)) jB)))) (kW (iL jv rfl (aBc (zF (jP (jY (jV zY (jK kF rfl M.len iq (jA (pv 3) jB)) jC)) (jP (jY (jF aa hr (jA (pv 2) (jA (jK kF rfl M.len iq (jA (pv 3) jB)) jB)))) vH hV) zJ))) (qV 5 aV.nd) (vC (yA (vA (kU (jF ee hr (jA (pv 2) (jA (jH jT (qN (pv 4) rfl) (pv 5)) (jA (pv 3) (jA (kY (jA jO (jA (pv 5) jB))) jB))))))) (vC (xD (jY vQ))) jL))) (kW (iC (i:=6) aV.nd rfl rfl (zF vH)) (kW (iL jv rfl (PIx.mk (qX rfl M.range (jA jC jB))) (qV 7 aV.nd) (vC (iC (i:=6) aV.nd rfl rfl (zF (jP (jY (pv 6)) vH tN))))) (vC (iL jv rfl (aBc (zF (jP (jY bX) (jP (jY vQ) (jP (jY jC) (jP (jY jO) (jP (zF vH) (jP (eK vH) (jP (jY zO) (jP (zF (jP (jY zO) vH iM)) (jP (aHl jO jC jO jC) (jP (jY (pv 6)) vH tN) iM) nH) iM) bI) nH) kP) kP) kP) kP))) (qV 8 aV.nd) (vC (yA (vA (kU (jF ae hr (jA (yI (pv 4) Uf.cl df hr vG) (jA (pv 8) (jA (jF aw hr (jA (kY (jA jO (jA (jV zY (jK kF rfl M.len iq (jA (pv 3) jB)) jC) jB))) (jA (pv 3) (jA (pv 8) jB)))) jB)))))) (vC (xD (jY vQ))) jL))))))))))) (vC (xD (jY vQ))))),?_⟩;have hl:(ns.map V.int).length=ns.length:=δ _;refine⟨_,rfl,a,_,rfl,.inl hS,_,_,rfl,_,_,rfl,_,rfl,?_,?_,?_⟩
 ·rw[hl];split <;> split <;> omega
 ·rw[hl];split <;> split <;> omega
 refine zG (fun i σ H'=>∃o1 o2 o3 o4 o5 o6 o7 o8,σ = [some (.ref a),o1,o2,o3,o4,o5,o6,o7,o8]/\jG H H') ⟨_,_,_,_,_,_,_,_,rfl,jG.refl _⟩ (fun i σ H' hi z=>?_) (fun σ H' z=>q H');obtain⟨o1,o2,o3,o4,o5,o6,o7,o8,rfl,g⟩:=z;have hi12:i<12:=by
  refine Γ hi ?_;rw[hl];split <;> split <;> omega
 refine⟨_,rfl,_,rfl,a,ns,_,rfl,g.seq hS,by omega,by omega,fun v=>⟨v,rfl,fun p H1 hp d1=>?_⟩⟩;refine⟨_,rfl,p,rfl,d1.1,hR.1,hR.2,fun l S H2 d2 hl2 lx hW hne hcl=>?_⟩;refine⟨_,rfl,l,S,rfl,lx.same jQ,hW,hne,fun H3 g3=>⟨S,rfl,hW,hne,hR.1,hR.2,fun ra dx t sa H4 g4 kr kt sw=>?_⟩⟩;have D4:Drawn p H' H4:=(d1.trans d2).keep (g3.trans g4);obtain⟨y1,y2,y3,hp4⟩:=D4.1;have pm:p∈[p]:=Φ.mpr rfl;have off:∀{b:Addr}{o:HO},b≠p->H4 b=some o->offs [p] H4 b=some o:=fun n e=>kN (fun z=>n (Φ.mp z)) e;have swO:SW (j7 0) K (offs [p] H4) sa S:=sw.but (l:=p) (fun b o n e=>off n e) hp4;have krO:=off (fun z=>by rw[z,hp4]at kr;cases kr) kr;have ktO:=aDf D4.1 kt;have lxO:=lx.same (kH (xs:=[p]) (g3.trans g4));obtain⟨as,ha4,hLW4⟩:=id lxO;obtain⟨n,hn⟩ : ∃n,S.length=n+1:=⟨S.length-1,by have:=qu.mpr hne;omega⟩;have hn3:n<=3:=by have:=hW.len;omega
 have zl:(as.map V.ref).length=n+1:=by rw[δ,hLW4.len,hn]
 have hsl:sa.length=n+1:=by rw[sw.1,hn]
 refine⟨_,rfl,l,_,rfl,.inl (jQ.seq ha4),_,_,rfl,rfl,_,rfl,_,rfl,l,_,rfl,.inl (jQ.seq ha4),p,_,rfl,by rw[zl];omega,by rw[zl];omega,D4.1,fun j H5 hj d5=>?_⟩;rw[zl]at hj;have hj':j<n+1:=by exact_mod_cast hj
 refine⟨vS,fun tl htl=>?_⟩;clear 1 tl H6 g6 k6 htl;rw[zl]at k6
 (try dsimp only at k6)
 rw[show((n+1:Nat):Int)-1=n by omega]at k6;have ntp:tl≠p:=fun z=>by
  obtain⟨o,ho⟩:=fB d5.1;rw[z,ho]at htl;cases htl
 have D6:Drawn p H4 H6:=d5.keep g6;have s46:jG (offs [p] H4) (offs [p] H6):=D6.offs pm;refine⟨tl,rfl,⟨_,SqL.of k6⟩,xI (xs:=[.int n,.int j]) (fun _ σ H2=>∃o,σ = [some (.ref a),some (.int (0+(i:Int))),some (.ref p),some (.ref l),some (.ref ra),o,o6,o7,o8]/\Drawn p H6 H2) ⟨_,rfl,Drawn.refl D6.1⟩ (fun j σ H2 _ z=>SqL.of (z.choose_spec.2.2 _ _ ntp k6)) (fun jj x σ H2 hx z=>?_) (fun σ H2 z=>?_)⟩
 ·obtain⟨o,rfl,D⟩:=z;obtain⟨k,rfl,hkn⟩ : ∃k:Nat,x=.int k/\k<n+1:=by
   have:=ι hx;simp only[υ,il,or_false]at this;rcases this with rfl|rfl
   ·exact⟨n,rfl,by omega⟩
   ·exact⟨j,rfl,hj'⟩
  obtain⟨s,hsa⟩ : ∃s,sa[k]?=some s:=⟨_,η (by omega)⟩;have s2:=s46.trans (D.offs pm);have kr2:=jQ _ _ (s2 _ _ krO);have kt2:=jQ.tp (s2.tp ktO);refine⟨_,rfl,_,rfl,ra,Vf,_,_,_,rfl,kr2,Uf.cl,Uf.nd,rfl,_,rfl,t,_,_,_,rfl,rfl,kt2,zP hsa,_,rfl,_,rfl,vS,fun tm htm=>?_⟩;clear 1 tm H7 g7 k7 htm;have st7:=jG.st3 g7 D.1;have s7:=s2.trans (kH (xs:=[p]) g7);have hSk:S[k]?=some (S[k]'(by omega)):=η _;exact⟨p,s,tm,l,k,sa,S,rfl,st7,hsa,by omega,by decide,(hW.bd k _ hSk).1,swO.same s7,hW,.nest (aDf st7 (SqT.of k7)),lxO.same s7,fun H8 d8=>⟨_,rfl,jU ⟨_,rfl,(D.keep g7).trans d8⟩⟩⟩
 obtain⟨o,rfl,D⟩:=z;have DA:Drawn p H4 H2:=D6.trans D;have s2:jG (offs [p] H4) H2:=(s46.trans (D.offs pm)).trans jQ;have kr2:=s2 _ _ krO;have kt2:=s2.tp ktO;have sw2:=swO.same s2;have lx2:=lxO.same s2;have ha2:=s2.seq ha4;refine⟨gM,fun b0 hb0=>?_⟩;clear 1 b0 H8 g8 k8 hb0;refine⟨11,rfl,by omega,by omega,zG (n:=11) (fun j σ H3=>∃(ox:Option V) (bq:Addr),σ = [some (.ref a),some (.int (0+(i:Int))),some (.ref p),some (.ref l),some (.ref ra),o,some (.ref bq),ox,o8]/\jG H8 H3/\Dq false P w K H3 (.ref bq) (nstD j)) ⟨_,b0,rfl,jG.refl _,.lst (SqL.of k8) (fun z=>nomatch z) .nil⟩ (fun j σ H3 hj z=>?_) (fun σ H3 z=>?_)⟩
 ·obtain⟨ox,bq,rfl,g,hq⟩:=z;refine⟨_,rfl,iF,fun b hb=>?_⟩;clear 1 b H9 g9 k9 hb;exact⟨_,b,rfl,g.trans g9,.lst (SqL.of k9) (fun z=>nomatch z) (.cons (hq.same g9) .nil)⟩
 obtain⟨ox,bq,rfl,g83,hq⟩:=z;refine⟨gM,fun b1 h1=>?_⟩;clear 1 b1 J1 c1 m1 h1;refine⟨gM,fun b2 h2=>?_⟩;clear 1 b2 J2 c2 m2 h2;refine fun b3 h3=>?_;clear 1 b3 J3 c3 m3 h3;refine fun b4 h4=>?_;clear 1 b4 J4 c4 m4 h4;refine⟨iF,fun b5 h5=>?_⟩;clear 1 b5 J5 c5 m5 h5;refine fun b6 h6=>⟨jR,[(.inr (ζ "a"),.int 0),(.inr (ζ "more"),.int 1)],rfl,by decide,?_⟩;rw[aMp];clear 1 b6 J6 c6 m6 h6;refine⟨_,rfl,(by show 10<=χ;decide),fun tl2 htl2=>?_⟩;clear 1 tl2 J7 c7 m7 htl2;have T6:=c7;have T5:=c6.trans T6;have T4:=c5.trans T5;have T3:=c4.trans T4;have T2:=c3.trans T3;have T1:=c2.trans T2;have T0:=c1.trans T1;have G7:jG H2 J7:=(g8.trans g83).trans T0;have ks0:Ks [] ([]:List V).length:=⟨rfl,by decide,vg,fun y hy=>(by cases hy),fun y hy=>(by cases hy)⟩;have ks2:Ks [ζ "a",ζ "more"] [V.int 0,V.int 1].length:=⟨rfl,by decide,by ac_rfl,fun y hy=>(by
  simp only[υ,il,or_false]at hy;rcases hy with rfl|rfl <;> (unfold Low;ac_rfl)),fun y hy=>(by
  simp only[υ,il,or_false]at hy;rcases hy with rfl|rfl <;> ac_rfl)⟩
 have all:∀x∈[V.non,.bl true,.int 0,.str (ζ "record"),.ref b1,.ref b2,.ref b3,.ref b5,.ref b6,.ref bq],∃d,Dq false P w K J7 x d:=by
  intro x hx;simp only[υ,il,or_false]at hx;rcases hx with rfl|rfl|rfl|rfl|rfl|rfl|rfl|rfl|rfl|rfl
  ·exact⟨_,.non⟩
  ·exact⟨_,.bl _⟩
  ·exact⟨_,.int _⟩
  ·exact⟨_,.str _⟩
  ·exact⟨_,.lst (SqL.of (T1 _ _ m1)) (fun z=>nomatch z) .nil⟩
  ·exact⟨_,.tup (SqT.of (T2 _ _ m2)) .nil⟩
  ·exact⟨_,.dct (ks:=[]) (xs:=[]) (T3 _ _ m3) ks0 .nil⟩
  ·exact⟨_,.lst (SqL.of (T5 _ _ m5)) (fun z=>nomatch z) (.cons (.dct (ks:=[]) (xs:=[]) (T4 _ _ m4) ks0 .nil) .nil)⟩
  ·exact⟨_,.dct (ks:=[ζ "a",ζ "more"]) (xs:=[.int 0,.int 1]) (T6 _ _ m6) ks2 (.cons (.int 0) (.cons (.int 1) .nil))⟩
  ·exact⟨_,hq.same T0⟩
 obtain⟨s,hsa⟩ : ∃s,sa[n]?=some s:=⟨_,η (by omega)⟩;refine⟨tl2,rfl,⟨_,SqL.of m7⟩,xI (fun _ σ H2=>∃ox',σ = [some (.ref a),some (.int (0+(i:Int))),some (.ref p),some (.ref l),some (.ref ra),o,some (.ref bq),ox,ox']/\jG J7 H2) ⟨_,rfl,jG.refl _⟩ (fun j σ H2 _ z=>SqL.of (z.choose_spec.2 _ _ m7)) (fun j x σ H2 hx z=>?_) (fun σ H2' z=>?_)⟩
 ·obtain⟨ox',rfl,sx⟩:=z;obtain⟨d,hd⟩:=all x (ι hx);have gA:=G7.trans sx;refine⟨_,rfl,ra,dx,_,rfl,gA _ _ kr2,rfl,ra,dx,t,sa,n,s,rfl,gA _ _ kr2,gA.tp kt2,hsl,hsa,_,rfl,_,rfl,l,_,rfl,.inl (gA.seq ha2),_,_,rfl,rfl,vS,fun tm htm=>?_⟩;clear 1 tm J8 c8 m8 htm;rw[zl]at m8
  (try dsimp only at m8)
  rw[show((n+1:Nat):Int)-1=n by omega]at m8;have gB:=gA.trans c8;exact⟨_,rfl,_,rfl,tm,l,x,.nest n,S,9,d,rfl,rfl,(by show 2*n+2<=9;omega),(by show n<S.length;omega),.nest (SqT.of m8),lx2.same gB,hW,(hd.same sx).same c8,fun J9 c9=>⟨s,x,_,n,sa,S,d,rfl,hsa,by omega,(sw2.same gB).same c9,hW,((hd.same sx).same c8).same c9,rfl,fun J10 c10=>⟨_,rfl,jU ⟨_,rfl,((sx.trans c8).trans c9).trans c10⟩⟩⟩⟩
 ·obtain⟨ox',rfl,sx⟩:=z;exact⟨_,_,_,_,_,_,_,_,rfl,g.trans (((D4.trans DA).same hp).trans (G7.trans sx))⟩
end
end K14
namespace K14
open PySem L2 PyProof.Rows
local macro_rules | `(tactic| walk_at"b1") => `(tactic| exact fun _ _ _ _ _ _ us hl => by obtain ⟨a0, rfl⟩ := ls1 hl;rfl)
local macro_rules | `(tactic| walk_at"b2") => `(tactic| exact fun _ _ _ _ _ _ us hl => by obtain ⟨a0, a1, rfl⟩ := ls2 hl;rfl)
local macro_rules | `(tactic| walk_at"b3") => `(tactic| exact fun _ _ _ _ _ _ us hl => by obtain ⟨a0, a1, a2, rfl⟩ := ls3 hl;rfl)
local macro_rules | `(tactic| walk_at"b4") => `(tactic| exact fun _ _ _ _ _ _ us hl => by obtain ⟨a0, a1, a2, a3, rfl⟩ := ls4 hl;rfl)
theorem ls1{us:List Value}(h:us.length=1):∃a0,us=[a0]:=by
 cases us with
 |nil=>cases h
 |cons a0 us =>
  cases us with
  |nil=>exact⟨a0,rfl⟩
  |cons _ us=>simp only[gj]at h;omega
theorem ls2{us:List Value}(h:us.length=2):∃a0 a1,us=[a0,a1]:=by
 cases us with
 |nil=>cases h
 |cons a0 us =>
  cases us with
  |nil=>cases h
  |cons a1 us =>
   cases us with
   |nil=>exact⟨a0,a1,rfl⟩
   |cons _ us=>simp only[gj]at h;omega
theorem ls3{us:List Value}(h:us.length=3):∃a0 a1 a2,us=[a0,a1,a2]:=by
 cases us with
 |nil=>cases h
 |cons a0 us =>
  cases us with
  |nil=>cases h
  |cons a1 us =>
   cases us with
   |nil=>cases h
   |cons a2 us =>
    cases us with
    |nil=>exact⟨a0,a1,a2,rfl⟩
    |cons _ us=>simp only[gj]at h;omega
theorem ls4{us:List Value}(h:us.length=4):∃a0 a1 a2 a3,us=[a0,a1,a2,a3]:=by
 cases us with
 |nil=>cases h
 |cons a0 us =>
  cases us with
  |nil=>cases h
  |cons a1 us =>
   cases us with
   |nil=>cases h
   |cons a2 us =>
    cases us with
    |nil=>cases h
    |cons a3 us =>
     cases us with
     |nil=>exact⟨a0,a1,a2,a3,rfl⟩
     |cons _ us=>simp only[gj]at h;omega
theorem mO{K:Δ}{k:Nat}(h:kJ P w K mg base CX j f fd ps sp)(hk:j<=k:=by decide):kJ P w K mg base CX k f fd ps sp:=kJ.mono h hk
structure FG (K:Δ) (n:Str) (s:Stmt) (f:Addr):Prop where
 a:nsIn K gv n=some (some (.ref f))
 l:∃fd,Fun K n n s f fd
structure FM (K:Δ) (C:Addr) (n q:Str) (s:Stmt) (f:Addr):Prop where
 a:sf K (.ref C) n=some (some (.ref f))
 i:isFn K (.ref f)=true
 l:∃fd,Fun K n q s f fd
structure CK (K:Δ) (n:Str) (C:Addr) (as:List Str):Prop where
 g:nsIn K gv n=some (some (.ref C))
 c:Cls K C
 m:PySem.W.makesIn K C=true
 k:keepIn K (.ref C)=true
 n:∀a∈as,yX K C a
section
variable {K:Δ}{h:kq}{mg:Str->Option Value}{n q:Str}{s:Stmt}{f C:Addr}{as:List Str}
theorem FG.o(X:K.In h)(G:h.Ns gv mg)(A:FG K n s f)(ps:List Str)(b:∀(kV doc pm:Value) (an:Option Addr) (cdv ct:Value) (us:List Value),us.length=ps.length->bindArgs (fnOf n n (cB s) (aI s) (jI s) .none kV doc pm an cdv ct) ⟨us,[]⟩=pure (ps.zip us)):∃fd,Fun K n n s f fd/\Df K mg n f fd ps:=A.l.elim fun fd F=>⟨fd,F,mg_of X G A.a,F.kp,F.binds b⟩
theorem FM.o(A:FM K C n q s f)(ps:List Str)(b:∀(kV doc pm:Value) (an:Option Addr) (cdv ct:Value) (us:List Value),us.length=ps.length->bindArgs (fnOf n q (cB s) (aI s) (jI s) .none kV doc pm an cdv ct) ⟨us,[]⟩=pure (ps.zip us)):∃fd,Fun K n q s f fd/\DfM K C n f fd ps:=A.l.elim fun fd F=>⟨fd,F,⟨A.a,A.i,F.kp⟩,F.binds b⟩
theorem FM.j(A:FM K C n q s f)(ps:List Str)(b:∀(kV doc pm:Value) (an:Option Addr) (cdv ct:Value) (us:List Value),us.length=ps.length->bindArgs (fnOf n q (cB s) (aI s) (jI s) .none kV doc pm an cdv ct) ⟨us,[]⟩=pure (ps.zip us)):∃fd,Fun K n q s f fd/\DfI K fd ps:=A.l.elim fun fd F=>⟨fd,F,⟨F.binds b⟩⟩
theorem CK.o(X:K.In h)(G:h.Ns gv mg)(A:CK K n C as)(I:FM K C "__init__" q s f):pQ K mg n C f as:=⟨mg_of X G A.g,A.c,⟨A.m,I.a,I.i,A.k⟩,A.n⟩
theorem na0:∀a∈([]:List Str),yX K C a:=fun _ h=>nomatch h
theorem na1(h:sf K (.ref C) n=some none)(r:∀a∈as,yX K C a):∀a∈n::as,yX K C a:=fun a m=>(υ.mp m).elim (fun e=>e▸h) (r a)
end
theorem all_mk{l:PySem.W.OpenLaw}{K:Δ}{mg:Str->Option Value}(X:K.In h)(G:h.Ns gv mg)(hfa:mg "law" = some (.ref fa)){odt:Option Addr}{slt:Array (Option Value)}
 (cNum:CK K "Num" Va ["width"])
 (cNested:CK K "Nested" Vb ["shape"])
 (cMany:CK K "Many" Vc ["count","kind"])
 (cPick:CK K "Pick" Vd ["shapes"])
 (cShape:CK K "Shape" Ve ["name","fields"])
 (cShapes:CK K "Shapes" Vf ["shapes"])
 (a0:FG K "is_whole" fN f0)
 (a1:FG K "is_between" bY f1)
 (a2:FG K "is_name" lO f2)
 (a3:FG K "is_text_of" cG f3)
 (a4:FG K "number_in" dH f4)
 (a5:FG K "bound_of" gK f5)
 (a6:FG K "is_word" lK f6)
 (a7:FG K "joined" oU f7)
 (a8:FM K Vb "units_at" "Kind.units_at" yV f8)
 (a9:FM K Va "__init__" "Num.__init__" fG f9)
 (a10:FM K Va "size" "Num.size" fJ f10)
 (a11:FM K Va "depth" "Num.depth" dI f11)
 (a12:FM K Va "units_at" "Num.units_at" zS f12)
 (a13:FM K Vb "__init__" "Nested.__init__" aY f13)
 (a14:FM K Vb "size" "Nested.size" aW f14)
 (a15:FM K Vb "depth" "Nested.depth" zT f15)
 (a16:FM K Vb "parted" "Nested.parted" yW f16)
 (a17:FM K Vc "__init__" "Many.__init__" dS f17)
 (a18:FM K Vc "size" "Many.size" dW f18)
 (a19:FM K Vc "depth" "Many.depth" bV f19)
 (a20:FM K Vc "parted" "Many.parted" aM f20)
 (a21:FM K Vd "__init__" "Pick.__init__" cW f21)
 (a22:FM K Vd "size" "Pick.size" dE f22)
 (a23:FM K Vd "greatest" "Pick.greatest" yQ f23)
 (a24:FM K Vd "depth" "Pick.depth" bT f24)
 (a25:FM K Vd "units_at" "Pick.units_at" yY f25)
 (a26:FM K Ve "__init__" "Shape.__init__" bZ f26)
 (a27:FM K Ve "size" "Shape.size" bU f27)
 (a28:FM K Ve "depth" "Shape.depth" aQ f28)
 (a29:FM K Ve "units" "Shape.units" aP f29)
 (a30:FM K Vf "__init__" "Shapes.__init__" aT f30)
 (a31:FM K Vf "main" "Shapes.main" aL f31)
 (a32:FG K "is_record" dU f32)
 (a33:FG K "may_have" fR f33)
 (a34:FG K "has_fields" cK f34)
 (a35:FG K "has_count" dP f35)
 (a36:FG K "is_choice" cV f36)
 (a37:FG K "is_number_of" zK f37)
 (a38:FG K "blank" tQ f38)
 (a39:FG K "blank_of" fH f39)
 (a40:FG K "gathered" fQ f40)
 (a41:FG K "read_shapes" aX f41)
 (a42:FG K "is_shape_line" yU f42)
 (a43:FG K "is_field_line" yS f43)
 (a44:FG K "is_kind" iZ f44)
 (a45:FG K "is_single" dM f45)
 (a46:FG K "need_new_shape" yE f46)
 (a47:FG K "need_field" cJ f47)
 (a48:FG K "shapes_named" zN f48)
 (a49:FG K "whole_shapes" zZ f49)
 (a50:FG K "with_field" bN f50)
 (a51:FG K "kind_in" iO f51)
 (a52:FG K "is_too_much" aN f52)
 (a53:FG K "_law_cell" fS f53)
 (a54:FG K "_law_box" iX f54)
 (a55:FG K "_law_take" fP f55)
 (a56:FG K "_law_names" dO f56)
 (a57:FG K "_law_size" fZ f57)
 (a58:FG K "_law_units" cY f58)
 (a59:FG K "_law_joined" bQ f59)
 (a60:FG K "_law_depth" cU f60)
 (a61:FG K "_law_kind" gJ f61)
 (a62:FG K "_law_fits" fK f62)
 (a63:FG K "_law_shapes" cD f63)
 (a64:FG K "_law_kind_text" yO f64)
 (a65:FG K "_law_text" fY f65)
 (a66:FG K "_law_whole" dD f66)
 (a67:FG K "_law_blank" dA f67)
 (a68:FG K "_law_word" fW f68)
 (a69:FG K "_law_drawn" dX f69)
 (a70:FG K "_law_is" oG f70)
 (a71:FG K "_law_bad" lC f71)
 (a72:FG K "_law_changed" aO f72)
 (a73:FG K "_law_turned" bM f73)
 (a74:FG K "_law_answers" aK f74)
 (a75:FG K "_law_sortwise" zM f75)
 (a76:FG K "_law_sortwise_all" xR f76)
 (a77:FG K "_law_right" cS f77)
 (a78:FG K "law" aIo f78)
  (z0:nsIn K gv "range" = some none)
  (z1:nsIn K gv "len" = some none)
  (z2:nsIn K gv "isinstance" = some none)
  (z3:nsIn K gv "int" = some none)
  (z4:nsIn K gv "bool" = some none)
  (z5:nsIn K gv "list" = some none)
  (z6:nsIn K gv "all" = some none)
  (z7:nsIn K gv "max" = some none)
  (z8:nsIn K gv "min" = some none)
  (z9:nsIn K gv "reversed" = some none)
  (z10:nsIn K gv "tuple" = some none)
  (z11:nsIn K gv "divmod" = some none)
  (z12:nsIn K gv "str" = some none)
  (z13:nsIn K gv "sum" = some none)
  (z14:nsIn K gv "zip" = some none)
  (z15:nsIn K gv "enumerate" = some none)
  (z16:nsIn K gv "dict" = some none)
  (z17:nsIn K gv "repr" = some none)
  (z18:nsIn K gv "sorted" = some none)
  (v1:nsIn K gv "SMALL_LETTERS" = some (some (.str "abcdefghijklmnopqrstuvwxyz" t1)))(v2:nsIn K gv "FIGURES" = some (some (.str "0123456789" t2)))(v3:nsIn K gv "MOST_LETTERS" = some (some (.int 6 t3)))(v4:nsIn K gv "MOST_FIGURES" = some (some (.int 10 t4)))(v5:nsIn K gv "MOST_SHAPES" = some (some (.int 8 t5)))(v6:nsIn K gv "MOST_FIELDS" = some (some (.int 6 t6)))(v7:nsIn K gv "MOST_CELLS" = some (some (.int 64 t7)))(v8:nsIn K gv "MOST_UNITS" = some (some (.int 40 t8)))(v9:nsIn K gv "MOST_DEPTH" = some (some (.int 4 t9)))(v10:nsIn K gv "MOST_WIDTH" = some (some (.int 4 t10)))(v11:nsIn K gv "MOST_COUNT" = some (some (.int 6 t11)))(v12:nsIn K gv "LEAST_PICKED" = some (some (.int 2 t12)))(v13:nsIn K gv "MOST_PICKED" = some (some (.int 4 t13)))
  (w1:nsIn K gv "OWN_WORDS" = some (some (.ref ts)))(w2:K.lookup ts=some ⟨.type "tuple",odt,.seq #[.str "shape" u0,.str "num" u1,.str "row" u2,.str "pick" u3,.str "tag" u4,.str "room" u5,.str "things" u6,.str "part" u7,.str "tags" u8,.str "put" u9,.str "take" u10,.str "many" u11,.str "look" u12,.str "which" u13,.str "store" u14,.str "choose" u15,.str "copy" u16,.str "each" u17,.str "span" u18,.str "if" u19,.str "else" u20,.str "end" u21,.str "out" u22] nt,slt⟩)
  (w3:sf K (.ref Vc) "units_at" = some (some (.ref f8)))
  (q1:PySem.W.specialIn K (.builtin "object.__class__") "__get__" = some (some (.builtin "getset_descriptor.__get__")))(q2:PySem.W.takesIn K (.builtin "object.__class__")=some true)
  (qc0:sf K (.ref Va) "__class__" = some (some (.builtin "object.__class__")))(qd0:we K Va (.type "object")=some true)(qn00:jy K (.ref Va) (.ref Va)=some true)(qn01:jy K (.ref Va) (.ref Vb)=some false)(qn02:jy K (.ref Va) (.ref Vc)=some false)(qn03:jy K (.ref Va) (.ref Vd)=some false)
  (qc1:sf K (.ref Vb) "__class__" = some (some (.builtin "object.__class__")))(qd1:we K Vb (.type "object")=some true)(qn10:jy K (.ref Vb) (.ref Va)=some false)(qn11:jy K (.ref Vb) (.ref Vb)=some true)(qn12:jy K (.ref Vb) (.ref Vc)=some false)(qn13:jy K (.ref Vb) (.ref Vd)=some false)
  (qc2:sf K (.ref Vc) "__class__" = some (some (.builtin "object.__class__")))(qd2:we K Vc (.type "object")=some true)(qn20:jy K (.ref Vc) (.ref Va)=some false)(qn21:jy K (.ref Vc) (.ref Vb)=some false)(qn22:jy K (.ref Vc) (.ref Vc)=some true)(qn23:jy K (.ref Vc) (.ref Vd)=some false)
  (qc3:sf K (.ref Vd) "__class__" = some (some (.builtin "object.__class__")))(qd3:we K Vd (.type "object")=some true)(qn30:jy K (.ref Vd) (.ref Va)=some false)(qn31:jy K (.ref Vd) (.ref Vb)=some false)(qn32:jy K (.ref Vd) (.ref Vc)=some false)(qn33:jy K (.ref Vd) (.ref Vd)=some true):
  ∃fd:tw,(∀(s:ς) (v:Value),BindsTo s fd ⟨[v],[]⟩ [("_law_script",v)])/\∀base:kq,K.In base->base.Ns gv mg->kJ l.prog w K mg base CX0 86 fa fd ["_law_script"] (aFr K):=by
 have e:=hfa.symm.trans (mg_of X G a78.a);cases e;obtain⟨d78,F78⟩:=a78.l;obtain⟨d0,F0,D0⟩:=a0.o X G ["thing"] (by walk_at"b1");obtain⟨d1,F1,D1⟩:=a1.o X G ["thing","low","high"] (by walk_at"b3");obtain⟨d2,F2,D2⟩:=a2.o X G ["thing"] (by walk_at"b1");obtain⟨d3,F3,D3⟩:=a3.o X G ["thing","signs","most"] (by walk_at"b3");obtain⟨d4,F4,D4⟩:=a4.o X G ["text","low","high"] (by walk_at"b3");obtain⟨d5,F5,D5⟩:=a5.o X G ["width"] (by walk_at"b1");obtain⟨d6,F6,D6⟩:=a6.o X G ["thing","width"] (by walk_at"b2");obtain⟨d7,F7,D7⟩:=a7.o X G ["path","step"] (by walk_at"b2");obtain⟨d8,F8,D8⟩:=a8.o ["self","path"] (by walk_at"b2");obtain⟨d9,F9,D9⟩:=a9.j ["self","width"] (by walk_at"b2");obtain⟨d10,F10,D10⟩:=a10.o ["self"] (by walk_at"b1");obtain⟨d11,F11,D11⟩:=a11.o ["self"] (by walk_at"b1");obtain⟨d12,F12,D12⟩:=a12.o ["self","path"] (by walk_at"b2");obtain⟨d13,F13,D13⟩:=a13.j ["self","shape"] (by walk_at"b2");obtain⟨d14,F14,D14⟩:=a14.o ["self"] (by walk_at"b1");obtain⟨d15,F15,D15⟩:=a15.o ["self"] (by walk_at"b1");obtain⟨d16,F16,D16⟩:=a16.o ["self"] (by walk_at"b1");obtain⟨d17,F17,D17⟩:=a17.j ["self","count","kind"] (by walk_at"b3");obtain⟨d18,F18,D18⟩:=a18.o ["self"] (by walk_at"b1");obtain⟨d19,F19,D19⟩:=a19.o ["self"] (by walk_at"b1");obtain⟨d20,F20,D20⟩:=a20.o ["self"] (by walk_at"b1");obtain⟨d21,F21,D21⟩:=a21.j ["self","shapes"] (by walk_at"b2");obtain⟨d22,F22,D22⟩:=a22.o ["self"] (by walk_at"b1");obtain⟨d23,F23,D23⟩:=a23.o ["self"] (by walk_at"b1");obtain⟨d24,F24,D24⟩:=a24.o ["self"] (by walk_at"b1");obtain⟨d25,F25,D25⟩:=a25.o ["self","path"] (by walk_at"b2");obtain⟨d26,F26,D26⟩:=a26.j ["self","name","fields"] (by walk_at"b3");obtain⟨d27,F27,D27⟩:=a27.o ["self"] (by walk_at"b1");obtain⟨d28,F28,D28⟩:=a28.o ["self"] (by walk_at"b1");obtain⟨d29,F29,D29⟩:=a29.o ["self"] (by walk_at"b1");obtain⟨d30,F30,D30⟩:=a30.j ["self","shapes"] (by walk_at"b2");obtain⟨d31,F31,D31⟩:=a31.o ["self"] (by walk_at"b1");obtain⟨d32,F32,D32⟩:=a32.o X G ["shape","thing"] (by walk_at"b2");obtain⟨d33,F33,D33⟩:=a33.o X G ["kind","thing"] (by walk_at"b2");obtain⟨d34,F34,D34⟩:=a34.o X G ["kind","thing"] (by walk_at"b2");obtain⟨d35,F35,D35⟩:=a35.o X G ["kind","thing"] (by walk_at"b2");obtain⟨d36,F36,D36⟩:=a36.o X G ["kind","thing"] (by walk_at"b2");obtain⟨d37,F37,D37⟩:=a37.o X G ["pick","thing"] (by walk_at"b2");obtain⟨d38,F38,D38⟩:=a38.o X G ["shape"] (by walk_at"b1");obtain⟨d39,F39,D39⟩:=a39.o X G ["kind"] (by walk_at"b1");obtain⟨d40,F40,D40⟩:=a40.o X G ["kind","values"] (by walk_at"b2");obtain⟨d41,F41,D41⟩:=a41.o X G ["text"] (by walk_at"b1");obtain⟨d42,F42,D42⟩:=a42.o X G ["words"] (by walk_at"b1");obtain⟨d43,F43,D43⟩:=a43.o X G ["words"] (by walk_at"b1");obtain⟨d44,F44,D44⟩:=a44.o X G ["words"] (by walk_at"b1");obtain⟨d45,F45,D45⟩:=a45.o X G ["words"] (by walk_at"b1");obtain⟨d46,F46,D46⟩:=a46.o X G ["told","line","name"] (by walk_at"b3");obtain⟨d47,F47,D47⟩:=a47.o X G ["told","line","words"] (by walk_at"b3");obtain⟨d48,F48,D48⟩:=a48.o X G ["words"] (by walk_at"b1");obtain⟨d49,F49,D49⟩:=a49.o X G ["told"] (by walk_at"b1");obtain⟨d50,F50,D50⟩:=a50.o X G ["told","line","words"] (by walk_at"b3");obtain⟨d51,F51,D51⟩:=a51.o X G ["words","shapes"] (by walk_at"b2");obtain⟨d52,F52,D52⟩:=a52.o X G ["shape"] (by walk_at"b1");obtain⟨d53,F53,D53⟩:=a53.o X G ["_law_script","_law_k"] (by walk_at"b2");obtain⟨d54,F54,D54⟩:=a54.o X G ["_law_cell_here"] (by walk_at"b1");obtain⟨d55,F55,D55⟩:=a55.o X G ["_law_box_here","_law_many"] (by walk_at"b2");obtain⟨d56,F56,D56⟩:=a56.o X G ["_law_box_here"] (by walk_at"b1");obtain⟨d57,F57,D57⟩:=a57.o X G ["_law_kind_here","_law_shapes_here"] (by walk_at"b2");obtain⟨d58,F58,D58⟩:=a58.o X G ["_law_kind_here","_law_shapes_here","_law_path"] (by walk_at"b3");obtain⟨d59,F59,D59⟩:=a59.o X G ["_law_path","_law_step"] (by walk_at"b2");obtain⟨d60,F60,D60⟩:=a60.o X G ["_law_kind_here","_law_shapes_here"] (by walk_at"b2");obtain⟨d61,F61,D61⟩:=a61.o X G ["_law_box_here","_law_known"] (by walk_at"b2");obtain⟨d62,F62,D62⟩:=a62.o X G ["_law_shapes_here"] (by walk_at"b1");obtain⟨d63,F63,D63⟩:=a63.o X G ["_law_box_here","_law_most"] (by walk_at"b2");obtain⟨d64,F64,D64⟩:=a64.o X G ["_law_kind_here","_law_shapes_here"] (by walk_at"b2");obtain⟨d65,F65,D65⟩:=a65.o X G ["_law_shapes_here"] (by walk_at"b1");obtain⟨d66,F66,D66⟩:=a66.o X G ["_law_found"] (by walk_at"b1");obtain⟨d67,F67,D67⟩:=a67.o X G ["_law_kind_here","_law_shapes_here"] (by walk_at"b2");obtain⟨d68,F68,D68⟩:=a68.o X G ["_law_box_here","_law_width"] (by walk_at"b2");obtain⟨d69,F69,D69⟩:=a69.o X G ["_law_box_here","_law_kind_here","_law_shapes_here"] (by walk_at"b3");obtain⟨d70,F70,D70⟩:=a70.o X G ["_law_kind_here","_law_shapes_here","_law_thing"] (by walk_at"b3");obtain⟨d71,F71,D71⟩:=a71.o X G ["_law_box_here","_law_thing"] (by walk_at"b2");obtain⟨d72,F72,D72⟩:=a72.o X G ["_law_box_here","_law_thing"] (by walk_at"b2");obtain⟨d73,F73,D73⟩:=a73.o X G ["_law_thing"] (by walk_at"b1");obtain⟨d74,F74,D74⟩:=a74.o X G ["_law_shape","_law_thing","_law_due"] (by walk_at"b3");obtain⟨d75,F75,D75⟩:=a75.o X G ["_law_found","_law_due"] (by walk_at"b2");obtain⟨d76,F76,D76⟩:=a76.o X G ["_law_found","_law_due"] (by walk_at"b2");obtain⟨d77,F77,D77⟩:=a77.o X G ["_law_box_here","_law_shape","_law_shapes_here","_law_kind_here"] (by walk_at"b4");have Ua:=cNum.o X G a9;have Ub:=cNested.o X G a13;have Uc:=cMany.o X G a17;have Ud:=cPick.o X G a21;have Ue:=cShape.o X G a26;have Uf:=cShapes.o X G a30;have M:Blt mg:=⟨mf X G z0,mf X G z1,mf X G z2,mf X G z3,mf X G z4,mf X G z5,mf X G z6,mf X G z7,mf X G z8,mf X G z9,mf X G z10,mf X G z11,mf X G z12,mf X G z13,mf X G z14,mf X G z15,mf X G z16,mf X G z17,mf X G z18⟩;have C:Cst K mg t1 t2 t3 t4 t5 t6 t7 t8 t9 t10 t11 t12 t13 ts:=⟨mg_of X G v1,mg_of X G v2,mg_of X G v3,mg_of X G v4,mg_of X G v5,mg_of X G v6,mg_of X G v7,mg_of X G v8,mg_of X G v9,mg_of X G v10,mg_of X G v11,mg_of X G v12,mg_of X G v13,mg_of X G w1,fun H=>.inr ⟨_,_,_,w2,rfl,rfl,(by show 23<=χ;decide),(by repeat first|exact .nil|refine .cons ⟨_,rfl⟩ ?_)⟩⟩;have KS:KdS K (Cl5.mk Va Vb Vc Vd Ve):=⟨fun k=>by
  cases k
  ·exact⟨Ua.cl,qc0,q1,q2,qd0⟩
  ·exact⟨Ub.cl,qc1,q1,q2,qd1⟩
  ·exact⟨Uc.cl,qc2,q1,q2,qd2⟩
  ·exact⟨Ud.cl,qc3,q1,q2,qd3⟩
  ,fun k k2=>by cases k <;> cases k2 <;> assumption⟩
 refine⟨d78,fun s v=>(F78.ex.elim fun _ ⟨_,_,_,_,_,_,_,_,e,_⟩=>e▸.of_eq rfl),fun base _ _=>?_⟩;have Z:=ZZ.mk (P:=l.prog) (w:=w) (base:=base) M C Ua Ub Uc Ud Ue Uf;have G3:=(Cal.of D3 (rJ (k:=0) Z F3));have G2:=(Cal.of D2 (aCq (k:=2) Z F2 G3.o));have G4:=(Cal.of D4 (tI (k:=2) Z F4 G3.o));have G7:=(Cal.of D7 (aGm (k:=0) Z F7));have G54:=(Cal.of D54 (aCp (k:=0) Z F54));have G55:=(Cal.of D55 (aAj (k:=0) Z F55));have G53:=(Cal.of D53 (aAq (k:=0) Z F53));have G42:=(Cal.of D42 (lL (k:=4) Z F42 G2.o));have G45:=(Cal.of D45 (uW (k:=4) Z F45 G4.o G2.o));have G44:=(Cal.of D44 (aCn (k:=6) Z F44 G4.o G45.o G2.o));have G43:=(Cal.of D43 (lG (k:=8) Z F43 G2.o G44.o));have G48:=(Cal.of D48 (mW (k:=4) Z F48 G2.o));have G46:=(Cal.of D46 (gV (k:=0) Z F46));have G49:=(Cal.of D49 (mY (k:=0) Z F49));have G47:=(Cal.of D47 (rM (k:=10) Z F47 G43.o G48.o G49.o));have G9:=(aA.of D9 (aBo (k:=0) Z F9));have G13:=(aA.of D13 (nZ (k:=0) Z F13));have G17:=(aA.of D17 (uT (k:=0) Z F17));have G21:=(aA.of D21 (tS (k:=0) Z F21));have G30:=(aA.of D30 (oS (k:=0) Z F30));have G26:=(aA.of D26 (pY (k:=0) Z F26));have G59:=(Cal.of D59 (pO (k:=0) Z F59));have G56:=(Cal.of D56 (wD (k:=2) Z F56 G55.o));have G61:=(Cal.of D61 (wT (k:=2) Z F61 G55.o));have G0:=(Cal.of D0 (aAl (k:=0) Z F0));have G1:=(Cal.of D1 (rN (k:=2) Z F1 G0.o));have G5:=(Cal.of D5 (aBu (k:=0) Z F5));have G6:=(Cal.of D6 (aDy (k:=4) Z F6 G5.o G1.o));have G37:=(Cal.of D37 (mJ (k:=4) Z F37 G1.o));have G66:=(Cal.of D66 (sX (k:=0) Z F66));have G68:=(Cal.of D68 (aBd (k:=2) Z F68 G55.o));have G71:=(Cal.of D71 (aDs (k:=2) Z F71 G55.o));have G31:=(zC.of D31 (pL (k:=0) Z F31));have t_size:∀r C sp,TV (Cl5.mk Va Vb Vc Vd Ve) K r vSz C sp->aB l.prog w K mg base CX0 (6*r+4) "size" C sp:=by
  intro r
  induction r with
  |zero =>
   rintro C' sp (⟨rfl,rfl⟩|⟨rfl,rfl⟩|⟨rfl,rfl⟩|⟨rfl,rfl⟩)
   ·exact⟨Ua.cl,_,_,_,D10.me,kJ.mono (lS (k:=0) (r:=0) Z F10) (by omega),D10.b⟩
   ·exact⟨Ub.cl,_,_,_,D14.me,noFn (noV nn1),D14.b⟩
   ·exact⟨Uc.cl,_,_,_,D18.me,noFn (noV nn2),D18.b⟩
   ·exact⟨Ud.cl,_,_,_,D22.me,noFn (noV nn3),D22.b⟩
  |succ r ih =>
   have gS:=(zC.of D27 (eY (k:=6*r+4) (r:=r) Z F27 ih));have gG:=(zC.of D23 (bE (k:=6*r+6) (r:=r) Z F23 gS));rintro C' sp (⟨rfl,rfl⟩|⟨rfl,rfl⟩|⟨rfl,rfl⟩|⟨rfl,rfl⟩)
   ·exact⟨Ua.cl,_,_,_,D10.me,kJ.mono (lS (k:=0) (r:=r+1) Z F10) (by omega),D10.b⟩
   ·exact⟨Ub.cl,_,_,_,D14.me,kJ.mono (nU (k:=6*r+6) (r:=r) Z F14 gS) (by omega),D14.b⟩
   ·exact⟨Uc.cl,_,_,_,D18.me,kJ.mono (uN (k:=6*r+4) (r:=r) Z F18 ih) (by omega),D18.b⟩
   ·exact⟨Ud.cl,_,_,_,D22.me,kJ.mono (tX (k:=6*r+8) (r:=r) Z F22 gG) (by omega),D22.b⟩
 have gc:=fun r=>(zC.of D27 (eY (k:=6*r+4) (r:=r) Z F27 (t_size r)));have gi:=fun r=>(zC.of D23 (bE (k:=6*r+6) (r:=r) Z F23 (gc r)));have t_depth:∀r C sp,TV (Cl5.mk Va Vb Vc Vd Ve) K r vDp C sp->aB l.prog w K mg base CX0 (6*r+4) "depth" C sp:=by
  intro r
  induction r with
  |zero =>
   rintro C' sp (⟨rfl,rfl⟩|⟨rfl,rfl⟩|⟨rfl,rfl⟩|⟨rfl,rfl⟩)
   ·exact⟨Ua.cl,_,_,_,D11.me,kJ.mono (hU (k:=0) (r:=0) Z F11) (by omega),D11.b⟩
   ·exact⟨Ub.cl,_,_,_,D15.me,noFn (noV nn1),D15.b⟩
   ·exact⟨Uc.cl,_,_,_,D19.me,noFn (noV nn2),D19.b⟩
   ·exact⟨Ud.cl,_,_,_,D24.me,noFn (noV nn3),D24.b⟩
  |succ r ih =>
   have gS:=(zC.of D28 (cX (k:=6*r+4) (r:=r) Z F28 ih));rintro C' sp (⟨rfl,rfl⟩|⟨rfl,rfl⟩|⟨rfl,rfl⟩|⟨rfl,rfl⟩)
   ·exact⟨Ua.cl,_,_,_,D11.me,kJ.mono (hU (k:=0) (r:=r+1) Z F11) (by omega),D11.b⟩
   ·exact⟨Ub.cl,_,_,_,D15.me,kJ.mono (mT (k:=6*r+6) (r:=r) Z F15 gS) (by omega),D15.b⟩
   ·exact⟨Uc.cl,_,_,_,D19.me,kJ.mono (rA (k:=6*r+4) (r:=r) Z F19 ih) (by omega),D19.b⟩
   ·exact⟨Ud.cl,_,_,_,D24.me,kJ.mono (pT (k:=6*r+6) (r:=r) Z F24 gS) (by omega),D24.b⟩
 have gf:=fun r=>(zC.of D28 (cX (k:=6*r+4) (r:=r) Z F28 (t_depth r)));have t_parted:∀C sp,aKo (Cl5.mk Va Vb Vc Vd Ve) K C sp->aB l.prog w K mg base CX0 2 "parted" C sp:=by
  rintro C' sp (⟨rfl,rfl⟩|⟨rfl,rfl⟩)
  ·exact⟨Ub.cl,_,_,_,D16.me,(iT (k:=0) Z F16),D16.b⟩
  ·exact⟨Uc.cl,_,_,_,D20.me,(oZ (k:=0) Z F20),D20.b⟩
 have DM:DfM K Vc "units_at" f8 d8 ["self","path"]:=⟨⟨w3,a8.i,F8.kp⟩,D8.b⟩;have t_units:∀r C sp,TU (Cl5.mk Va Vb Vc Vd Ve) K r C sp->aB l.prog w K mg base CX0 (6*r+4) "units_at" C sp:=by
  intro r
  induction r with
  |zero =>
   rintro C' sp (⟨rfl,rfl⟩|⟨rfl,rfl⟩|⟨rfl,rfl⟩|⟨rfl,rfl⟩)
   ·exact⟨Ua.cl,_,_,_,D12.me,kJ.mono (cR (k:=0) (r:=0) Z F12) (by omega),D12.b⟩
   ·exact⟨Ub.cl,_,_,_,D8.me,noFn (noU nn1),D8.b⟩
   ·exact⟨Uc.cl,_,_,_,DM.me,noFn (noU nn2),DM.b⟩
   ·exact⟨Ud.cl,_,_,_,D25.me,noFn (noU nn3),D25.b⟩
  |succ r ih =>
   rintro C' sp (⟨rfl,rfl⟩|⟨rfl,rfl⟩|⟨rfl,rfl⟩|⟨rfl,rfl⟩)
   ·exact⟨Ua.cl,_,_,_,D12.me,kJ.mono (cR (k:=0) (r:=r+1) Z F12) (by omega),D12.b⟩
   ·exact⟨Ub.cl,_,_,_,D8.me,kJ.mono (bD (k:=6*r+4) (r:=r) Z ff1 F8 (fun C' sp h=>aB.mono (t_parted C' sp h) (by omega)) ih G7.o) (by omega),D8.b⟩
   ·exact⟨Uc.cl,_,_,_,DM.me,kJ.mono (bD (k:=6*r+4) (r:=r) Z ff2 F8 (fun C' sp h=>aB.mono (t_parted C' sp h) (by omega)) ih G7.o) (by omega),DM.b⟩
   ·exact⟨Ud.cl,_,_,_,D25.me,kJ.mono (lN (k:=6*r+8) (r:=r) Z F25 G7.o (gi r)) (by omega),D25.b⟩
 have G27:=gc 12;have G28:=gf 12;have G29:=(zC.of D29 (oR (k:=76) (r:=12) Z F29 G13.o (t_units 12)));have G52:=(Cal.of D52 (pF (k:=78) (r:=12) Z F52 G27.o G29.o G28.o));have r_kin:∀n,Cal l.prog w K mg base CX0 (2*n+2) "kind_in" (aFd (Cl5.mk Va Vb Vc Vd Ve) K n):=by
  intro n
  induction n with
  |zero=>exact Cal.of D51 (noFn (fun vs H Q E h=>by obtain⟨_,_,_,_,_,_,h,_⟩:=h;exact absurd h (by omega)))
  |succ n ih=>exact Cal.o (Cal.of D51 (aCj (k:=2*n+2) (r:=n) Z F51 ih G9.o G13.o G17.o G21.o))
 have G51:=r_kin 2;have G50:=(Cal.of D50 (pU (k:=80) (r:=12) Z F50 G51.o G49.o G26.o G52.o));have G41:=(Cal.of D41 (oW (k:=82) (r:=12) Z F41 G42.o G46.o G26.o G47.o G50.o G30.o));have r__law_size:∀n,Cal l.prog w K mg base CX0 (2*n+2) "_law_size" (tJ K vSz n):=by
  intro n
  induction n with
  |zero=>exact Cal.of D57 (noFn (fun _ _ _ _ h=>h))
  |succ n ih=>exact Cal.o (Cal.of D57 (wQ (k:=2*n+2) (r:=n) Z F57 ih))
 have G57:=r__law_size 13;have r__law_depth:∀n,Cal l.prog w K mg base CX0 (2*n+2) "_law_depth" (tJ K vDp n):=by
  intro n
  induction n with
  |zero=>exact Cal.of D60 (noFn (fun _ _ _ _ h=>h))
  |succ n ih=>exact Cal.o (Cal.of D60 (tW (k:=2*n+2) (r:=n) Z F60 ih))
 have G60:=r__law_depth 13;have r_lu:∀n,Cal l.prog w K mg base CX0 (2*n+4) "_law_units" (spLU K n):=by
  intro n
  induction n with
  |zero=>exact Cal.of D58 (noFn (fun _ _ _ _ h=>h))
  |succ n ih=>exact Cal.o (Cal.of D58 (wF (k:=2*n+4) (r:=n) Z F58 ih (r__law_size (n+1)) G59.o))
 have G58:=r_lu 13;have G62:=(Cal.of D62 (aBt (k:=30) (r:=12) Z F62 G57.o G58.o G60.o));have r_kt:∀n,Cal l.prog w K mg base CX0 (2*n+2) "_law_kind_text" (spKT K n):=by
  intro n
  induction n with
  |zero=>exact Cal.of D64 (noFn (fun vs H Q E h=>by obtain⟨_,_,_,_,_,h,_⟩:=h;exact absurd h (by omega)))
  |succ n ih=>exact Cal.o (Cal.of D64 (lB (k:=2*n+2) (r:=n) Z F64 ih))
 have G64:=r_kt 2;have G65:=(Cal.of D65 (wW (k:=6) Z F65 G64.o));have G63:=(Cal.of D63 (rH (k:=32) (r:=12) Z F63 G56.o G55.o G61.o G62.o));have G40:=(Cal.of D40 (aAp (k:=2) Z F40 KS (fun C' sp h=>aB.mono (t_parted C' sp h) (by decide))));have r_may:∀n,Cal l.prog w K mg base CX0 (6*n+8) "may_have" (mI l.prog w (Cl5.mk Va Vb Vc Vd Ve) K n aIy):=by
  intro n
  induction n with
  |zero=>exact(Cal.of D33 (mF (k:=6) (r:=0) Z F33 KS G6.o (Cal.of D34 (noFn (noMq nn1))) (Cal.of D35 (noFn (noMq nn2))) (Cal.of D36 (noFn (noMq nn3)))))
  |succ n ih =>
   have g1:=(Cal.of D34 (rK (k:=6*n+8) (r:=n) Z F34 ih));have g2:=(Cal.of D35 (uE (k:=6*n+8) (r:=n) Z F35 ih));have g0:=(Cal.of D32 (iG (k:=6*n+8) (r:=n) Z F32 G13.o ih));have g3:=(Cal.of D36 (tY (k:=6*n+10) (r:=n) Z F36 G37.o g0));exact Cal.o (Cal.of D33 (mF (k:=6*n+12) (r:=n+1) Z F33 KS G6.o g1.o g2.o g3.o))
 have G33:=r_may 9;have G32:=(Cal.of D32 (iG (k:=62) (r:=9) Z F32 G13.o G33.o));have r_bl:∀n,Cal l.prog w K mg base CX0 (4*n+6) "blank_of" (aFn (Cl5.mk Va Vb Vc Vd Ve) K n)/\Cal l.prog w K mg base CX0 (4*n+8) "blank" (aFv (Cl5.mk Va Vb Vc Vd Ve) K n):=by
  intro n
  induction n with
  |zero=>exact⟨Cal.of D39 (noFn (fun vs H Q E h=>by obtain⟨_,_,_,_,_,h,_⟩:=h;exact absurd h (by omega))),Cal.of D38 (noFn (fun vs H Q E h=>by obtain⟨_,_,_,_,_,h,_⟩:=h;exact absurd h (by omega)))⟩
  |succ n ih =>
   have g1:=(Cal.of D39 (aBy (k:=4*n+8) (r:=n) Z F39 KS (fun C' sp h=>aB.mono (t_parted C' sp h) (by omega)) G40.o ih.2 ih.1.o));have g2:=(Cal.of D38 (aIx (k:=4*n+10) (r:=n) Z F38 G13.o g1.o));exact⟨Cal.o g1,Cal.o g2⟩
 have G38:=(r_bl 10).2;have r_ldr:∀n,Cal l.prog w K mg base CX0 (2*n+6) "_law_drawn" (spDr K n):=by
  intro n
  induction n with
  |zero=>exact Cal.of D69 (noFn (fun vs H Q E h=>by obtain⟨_,_,_,_,_,_,_,h,_⟩:=h;exact absurd h (by omega)))
  |succ n ih=>exact Cal.o (Cal.of D69 (tZ (k:=2*n+6) (r:=n) Z F69 G68.o G55.o ih))
 have G69:=r_ldr 10;have r_lb:∀n,Cal l.prog w K mg base CX0 (2*n+4) "_law_blank" (spLB K n):=by
  intro n
  induction n with
  |zero=>exact Cal.of D67 (noFn (fun vs H Q E h=>by obtain⟨_,_,_,_,_,h,_⟩:=h;exact absurd h (by omega)))
  |succ n ih=>exact Cal.o (Cal.of D67 (uC (k:=2*n+4) (r:=n) Z F67  ih))
 have G67:=r_lb 10;have r_tu:∀n,Cal l.prog w K mg base CX0 (2*n+4) "_law_turned" (spTu K n):=by
  intro n
  induction n with
  |zero=>exact Cal.of D73 (noFn (fun vs H Q E h=>by obtain⟨_,_,_,_,_,h,_⟩:=h;exact absurd h (by omega)))
  |succ n ih=>exact Cal.o (Cal.of D73 (rL (k:=2*n+4) (r:=n) Z F73  ih))
 have G73:=r_tu 10;have r_is:∀n,Cal l.prog w K mg base CX0 (2*n+6) "_law_is" (aJj l.prog w K n):=by
  intro n
  induction n with
  |zero=>exact Cal.of D70 (noFn (fun vs H Q E h=>by obtain⟨_,_,_,_,_,_,_,h,_⟩:=h;exact absurd h (by omega)))
  |succ n ih=>exact Cal.o (Cal.of D70 (aHu (k:=2*n+6) (r:=n) Z F70 G66.o ih))
 have G70:=r_is 10;have r_cg:∀n,Cal l.prog w K mg base CX0 (2*n+8) "_law_changed" (spCg l.prog w K n):=by
  intro n
  induction n with
  |zero=>exact Cal.of D72 (noFn (fun vs H Q E h=>by obtain⟨_,_,_,_,_,_,_,_,_,h,_⟩:=h;exact absurd h (by omega)))
  |succ n ih=>exact Cal.o (Cal.of D72 (nX (k:=2*n+8) (r:=n) Z F72 G55.o G71.o ih))
 have G72:=r_cg 10;have r_sw:∀n,Cal l.prog w K mg base CX0 (4*n+6) "_law_sortwise" (spSw K n)/\Cal l.prog w K mg base CX0 (4*n+8) "_law_sortwise_all" (aIh K n):=by
  intro n
  induction n with
  |zero=>exact⟨Cal.of D75 (noFn (fun vs H Q E h=>by obtain⟨_,_,_,_,_,_,h,_⟩:=h;exact absurd h (by omega))),Cal.of D76 (noFn (fun vs H Q E h=>by obtain⟨_,_,_,_,_,_,_,_,h,_⟩:=h;exact absurd h (by omega)))⟩
  |succ n ih =>
   have g1:=(Cal.of D75 (mV (k:=4*n+8) (r:=n) Z F75 G66.o ih.2));have g2:=(Cal.of D76 (eL (k:=4*n+10) (r:=n) Z F76 g1.o));exact⟨Cal.o g1,Cal.o g2⟩
 have G75:=(r_sw 10).1;have G74:=(Cal.of D74 (oA (k:=64) (r:=9) Z F74 G32.o));have G77:=(Cal.of D77 (uD (k:=66) (r:=9) Z F77 G67.o G75.o G38.o G74.o G69.o G73.o G72.o G70.o));have G78:=(aQs (k:=84) (r:=12) Z ⟨by decide,by decide⟩ F78 G53.o G54.o G55.o G63.o G65.o G41.o G31.o G77.o G74.o G70.o);exact G78
theorem walk{l:PySem.W.OpenLaw}{YP:jl->kq->Prop}{d:DefRec}{K:Params->Δ}(hn:l.most=some 63)(hdf:d.params.defaults=[])
  (hY:∀(w:jl) (h:kq),YP w h->(K w.params).In h)
  (F:∀(w:jl) (mg:Str->Option Value) (fa:Addr) (h:kq),(K w.params).In h->h.Ns gv mg->mg d.name=some (.ref fa) →
   ∃fd:tw,(∀(s:ς) (u:Value),BindsTo s fd ⟨[u],[]⟩ [("_law_script",u)])/\∀base:kq,(K w.params).In base->base.Ns gv mg->kJ l.prog w (K w.params) mg base CX0 86 fa fd ["_law_script"] (aFr (K w.params))):
  PySem.W.WalkO q loose XP YP l.row.toRowW d [] (fun f vs=>PySem.call f vs) :=
 L2.aMg (n:=63) (k:=86) (x:="_law_script") (CX:=fun _=>CX0) (sp:=fun w=>aFr (K w.params)) hn (by decide) hdf ⟨rfl,by decide,by decide,rfl⟩ hY F (fun _ _ a ns hl _ hS=>⟨a,ns,rfl,hS,hl,fun _=>rfl⟩) fun _ _ _ _ _ z=>z
end K14
namespace PySem.W.Fast
def tw13832673475486273620:=0
def tw11817473815298046632:=0
def tw16215167274593972022:=0
def tw13208483215780764725:=0
def tw7193452536778843939:=0
def tw6395999903203242610:=0
def tw14065823013812348109:=0
def tw15111757933034785314:=0
def tw10258403163940578587:=0
def tw1204522935668190768:=0
def tw14691070199392516739:=0
def tw4599845956645323134:=0
def tw6569146237156457559:=0
def tw4048117371021778106:=0
def tw5737333354531755342:=0
def tw17916155767085411888:=0
def tw14369177576134714821:=0
def tw3120262124367830809:=0
def tw14466525761392252255:=0
def tw9900840509310100780:=0
def tw5558918046097901020:=0
def tw5520828106094163809:=0
def tw1883750733799645832:=0
def tw7539968865564207824:=0
def tw15937358208023066961:=0
def tw13933817387626732828:=0
def tw16741251456964462421:=0
def tw5598000875891475219:=0
def tw14055910333955304340:=0
def tw11444215786206072956:=0
def tw16501295911478750054:=0
def tw11172059806082380884:=0
def tw1045114185359614278:=0
def tw3010262809133554088:=0
def tw13680640362184129458:=0
def tw16945258285721969660:=0
def tw4145119559160478841:=0
def tw15801699845619349800:=0
def tw12102460187141814719:=0
def tw17625876176154355237:=0
def tw13934407888165606477:=0
def tw7542547945321791283:=0
def tw10845464550853879619:=0
def tw12159970369110862359:=0
def tw13597285213361963531:=0
def tw16810542610068003642:=0
def tw17965121666336692063:=0
def tw16088885754321017577:=0
def tw16083525745739715147:=0
def tw5707772222084373846:=0
def tw11099122752656498622:=0
def tw6422259205339373483:=0
def tw2384431866684832896:=0
def tw15506719722861123078:=0
def tw5545473176771305814:=0
def tw6426970658221740240:=0
def tw4637897322302235783:=0
def tw8461819666216224706:=0
def tw5244954499496604397:=0
def tw9553017359770285862:=0
def tw16564524552809121120:=0
def tw18118118916687453388:=0
def tw14416197940032744810:=0
def tw3792433144090760892:=0
def tw8173040896706058219:=0
def tw11974075497657594075:=0
def tw563454793004663338:=0
def tw1839918300438808553:=0
def tw15207081772025636199:=0
def tw7237412698459180809:=0
def tw8143717297198766484:=0
def tw16375386145674464819:=0
def tw538388005177253389:=0
def tw3001429879331716142:=0
def tw5214231509547661970:=0
def tw4643883908595671202:=0
def tw4370302104028774020:=0
def tw15815486895507903457:=0
def tw73841923457016269:=0
def tw7553329399277648769:=0
def tw11711704925225239428:=0
def tw16969169821325863828:=0
def tw2759514417550492989:=0
def tw4256069210048892530:=0
def tw17148763905005447906:=0
def tw11819854352331007981:=0
def tw12976055556019767214:=0
def tw1650880326661164956:=0
def tw3606098558721515097:=0
def tw2389901720533492265:=0
def tw1238296000117612515:=0
def tw14801820517701618644:=0
def tw3574664981761074790:=0
def tw7744988854149481862:=0
def tw6488448569556352073:=0
def tw4438408782531767430:=0
def tw5938261288343707003:=0
def tw1447096525670695186:=0
def tw12166623920516648867:=0
def tw17437837315209249386:=0
def tw3921395585810834874:=0
def tw4464404015052384548:=0
def tw526634684500481157:=0
def tw16252587740296845915:=0
def tw12934619930669301459:=0
def tw8471147605293707456:=0
def tw1753225689182340037:=0
def tw9600455547814087793:=0
def tw3570583041167798210:=0
def tw2979175508847619152:=0
def tw15842175405373911837:=0
def tw14247215618486430842:=0
def tw12782110656824101614:=0
def tw12576852645274769239:=0
def tw17705592177700848805:=0
def tw5536954157126674327:=0
def tw16090367814954117956:=0
def tw8151875754425321252:=0
def tw2271139901729892360:=0
def tw16638137002414192307:=0
def tw494574926239795656:=0
def tw5426130624023062487:=0
def tw13864332404744071814:=0
def tw7355144909372418628:=0
def tw7455281026071779415:=0
def tw14115967014981522681:=0
def tw641778841400828214:=0
def tw3667880173149503059:=0
def tw8058136556728013847:=0
def tw14192098108709692352:=0
def tw2913967986906491781:=0
def tw13255178450847467917:=0
def tw7331713989125546421:=0
def tw5371350341373533878:=0
def tw3295819218053279109:=0
def tw8374256722964101240:=0
def tw1496380867376979848:=0
def tw7898183506531896507:=0
def tw2858386825343186409:=0
def tw11212978122045050461:=0
def tw3337315845741458899:=0
def tw11225755024406339090:=0
def tw13261423068822543046:=0
def tw2731487352306777747:=0
def tw8773950732612659599:=0
def tw15113394438190590090:=0
def tw2954885517386946587:=0
def tw10425646040975250596:=0
def tw3280871867167552973:=0
def tw16021132899375258806:=0
def tw2701256006851116425:=0
def tw16493773140363556148:=0
def tw14404469590467253010:=0
def tw6851588131153479156:=0
def tw16878558132780138057:=0
def tw551626539915296993:=0
def tw16338033240613573590:=0
def tw16707357249200476151:=0
def tw12790769995532154539:=0
def tw11664028796179344642:=0
def tw13841915110614217600:=0
def tw2099118368443400400:=0
def tw639456533933209782:=0
def tw9646995866764409613:=0
def tw6389750405527519181:=0
def tw17817953940288203263:=0
def tw2571963714123947324:=0
def tw16045632967801960460:=0
def tw3945471687600907851:=0
def tw4894534752115314526:=0
def tw7358843388630706157:=0
def tw15854821145124406135:=0
def tw18360847118782849596:=0
def tw11634162819950745650:=0
def tw6378973488201461288:=0
def tw16366385814227442987:=0
def tw17378208538094941909:=0
def tw7790536822080997985:=0
def tw7111690441526944355:=0
def tw17584880559506635604:=0
def tw17832842395243124773:=0
def tw11361344848862288046:=0
def tw9187638280107381411:=0
def tw17768152244740316237:=0
def tw17227062085858352825:=0
def tw6803769696626906886:=0
def tw12080482163927987523:=0
def tw7313444159176196255:=0
def tw4861113576438255107:=0
def tw8905833489946232769:=0
def tw1813888568233440109:=0
def tw3363914062784717855:=0
def tw1459638247302298492:=0
def tw16896930691335255381:=0
def tw5938719014441642352:=0
def tw3287558886273657953:=0
def tw13675653849590836094:=0
def tw9636758855024098621:=0
def tw3277866192426219001:=0
def tw15478963510503408129:=0
def tw10247440613798960870:=0
def tw15569999458321328423:=0
def tw10833659789742258343:=0
def tw13319863030205749185:=0
def tw16429927745123682518:=0
def tw4938951694659622779:=0
def tw6507229962346107112:=0
def tw4295712552061267764:=0
def tw28379921345927064:=0
def tw3540925241426890108:=0
def tw13840507020421425605:=0
def tw4866923479662461387:=0
def tw2009485391994858338:=0
def tw6075592314812184230:=0
def tw12899859086458960242:=0
def tw3057744312447721299:=0
def tw8081014092242855014:=0
def tw5706470462860487751:=0
def tw343299980995214450:=0
def tw6269895163029778422:=0
def tw14713046612644164366:=0
def tw13176488973374151654:=0
def tw7859267671785862199:=0
def tw4540407429480656176:=0
def tw2103987109576221545:=0
def tw10235950065656385741:=0
def tw4908497888696509862:=0
def tw3904681187952240688:=0
def tw6554151718126987477:=0
def tw598205470287956070:=0
def tw674433677866187309:=0
def tw12313418239464872940:=0
def tw16767167998866227570:=0
def tw2923305047217368672:=0
def tw17402130092595210176:=0
def tw15664838491302594159:=0
def tw3761125775116076806:=0
def tw7812382435347254972:=0
def tw14729643527662716541:=0
def tw637325409975944996:=0
def tw8152564048991592328:=0
def tw14283331061421018050:=0
def tw2797147865434667687:=0
def tw10230103549249742819:=0
def tw10874893208198950472:=0
def tw1841071581553705856:=0
def tw866867647334091459:=0
def tw12142561392650583678:=0
def tw398623091419581709:=0
def tw12090580806628450507:=0
def tw13063047790332342004:=0
def tw2204250070185022353:=0
def tw7739427327084207286:=0
def tw5796951786898672860:=0
def tw5560495955370826808:=0
def tw1930365065117034517:=0
def tw14854408911921285746:=0
def tw7435972977740152902:=0
def tw13651540476516420791:=0
def tw15851941278776119520:=0
def tw8387304119848222564:=0
def tw4192118685170305217:=0
def tw17207202984237044241:=0
def tw630991656785400262:=0
def tw4064145591271558262:=0
def tw7433058381900003151:=0
def tw7390398864316705870:=0
def tw10216719332283272429:=0
def tw8949946307877658883:=0
def tw16220222739840669080:=0
def tw5452803088120941206:=0
def tw16668744906981462709:=0
def tw15212206309779798206:=0
def tw1344520481068152644:=0
def tw12220166832949340916:=0
def tw8827958614502715379:=0
def tw9005679103665480635:=0
def tw4400250481494777696:=0
def tw121751119928087061:=0
def tw8229933026902043267:=0
def tw4568868509607629460:=0
def tw15940809816740329109:=0
def tw13109198280029169860:=0
def tw12066491832101647400:=0
def tw2921424065714788184:=0
def tw10809058492636563871:=0
def tw16085500181955015850:=0
def tw7311879965827212191:=0
def tw12539568669738820374:=0
def tw2598657566718895989:=0
def tw12922612670662834560:=0
def tw17423071481094549443:=0
def tw6946155817324915938:=0
def tw14936519863318515537:=0
def tw16712255835815063854:=0
def tw16165133339676212691:=0
def tw4095920703477360531:=0
def tw16113671949545481306:=0
def tw4633831695404635048:=0
def tw8435694355745688442:=0
def tw12935043882431896883:=0
def tw16492308855121685451:=0
def tw17741956660225503906:=0
def tw9946159275635106045:=0
def tw15936986633269904205:=0
def tw13381294175744493490:=0
def tw14035849466040090036:=0
def tw12297441851590628006:=0
def tw10562845286884414390:=0
def tw10133336097769842721:=0
def tw6764678269297130259:=0
def tw5730085141608589384:=0
def tw14931342933566829062:=0
def tw17634627429859174466:=0
def tw3512688530563341707:=0
def tw9514633267292982634:=0
def tw13135005086122933368:=0
def tw3231582476203350174:=0
def tw4907788207742297675:=0
def tw594580091440535306:=0
def tw5001844126816832515:=0
def tw13361228254153233042:=0
def tw16800353324809385651:=0
def tw11319894454384661867:=0
def tw16007766928033109144:=0
def tw5906197980981655671:=0
def tw16907690082406238651:=0
def tw17051994600515376423:=0
def tw15859423103855218948:=0
def tw14737746232788319125:=0
def tw16881862212839319584:=0
def tw8688927316647465527:=0
def tw6513717476088771328:=0
def tw7007719652293503691:=0
def tw5544309198036807926:=0
def tw6158249669718639031:=0
def tw16760888916263309308:=0
def tw9153771376127962189:=0
def tw9643837611712054019:=0
def tw2553775754758679934:=0
def tw13957048614911555842:=0
def tw14115851976718782925:=0
def tw4346658946632956566:=0
def tw16851383480440478937:=0
def tw18294230315077196897:=0
def tw10611090631849656930:=0
def tw3617244587080522312:=0
def tw14147190668079173299:=0
def tw2655419210476498999:=0
def tw766859534991033812:=0
def tw13726536877167173079:=0
def tw15307948391287283199:=0
def tw7754755047158769028:=0
def tw12529505975242014230:=0
def tw10807895123690411637:=0
def tw3113131763356352399:=0
def tw13804622789461524342:=0
def tw8595217097030470068:=0
def tw12930614389635013382:=0
def tw13214623621035253451:=0
def tw10978953876154586043:=0
def tw17480433222292793668:=0
def tw15337751967611203753:=0
def tw7989207608377818431:=0
def tw15032520568644807991:=0
def tw15267700871093943177:=0
def tw1734941588933708791:=0
def tw8499157911014239788:=0
def tw9692379230368875901:=0
def tw1157553332839037961:=0
def tw1744564937626902811:=0
def tw11133598533982532757:=0
def tw7154063336272856897:=0
def tw16000265748957409631:=0
def tw16355807163885305189:=0
def tw4020742363418182955:=0
def tw4469561885045722318:=0
def tw14209851725595208794:=0
def tw14509608727731065093:=0
def tw11108045029559163400:=0
def tw5664108895317032454:=0
def tw13905121109987030326:=0
def tw1662831296381395348:=0
def tw11256143519652095724:=0
def tw11628084663225219757:=0
def tw16923195288851866489:=0
def tw10340612036067828024:=0
def tw14108683206016367256:=0
def tw6404041283916304085:=0
def tw799022025919042576:=0
def tw7708943323578632036:=0
def tw11393040795704547856:=0
def tw4359091764028210652:=0
def tw18029674844772794:=0
def tw15861713408789279962:=0
def tw15106714426847088075:=0
def tw11758064736779729037:=0
def tw7227811993391342651:=0
def tw2664844154762241112:=0
def tw17160440334291907348:=0
def tw3662269487888479233:=0
def tw12880850186382589907:=0
def tw15553800406017497199:=0
def tw825842638051237045:=0
def tw9185457998151846577:=0
def tw5893351588311651780:=0
def tw11978885972009970244:=0
def tw17480262427964461929:=0
def tw9379615805307151895:=0
def tw6015386169817248472:=0
def tw15511897978516883825:=0
def tw9371977098835683789:=0
def tw17519645568960722585:=0
def tw13170127139789609041:=0
def tw4683040622189064139:=0
def tw5383732730956024463:=0
def tw17511160127240835802:=0
def tw5409237096761702705:=0
def tw13986391938044245343:=0
def tw8121516497379796698:=0
def tw10695921716246742863:=0
def tw5268784091228643927:=0
def tw11314409441234150043:=0
def tw9405860400775727851:=0
def tw14247078241404610303:=0
def tw17975520616938599639:=0
def tw1490590350504223574:=0
def tw3486375358346555400:=0
def tw16263179730594910457:=0
def tw3683117886824689817:=0
def tw9583439022067206089:=0
def tw17816964698181698674:=0
def tw13841458615831502335:=0
def tw6120111074683022356:=0
def tw8961028544628195106:=0
def tw11658919581500897195:=0
def tw10558033560223761353:=0
def tw7877685542650241276:=0
def tw13276476151294143614:=0
def tw18194832222904884337:=0
def tw16410793398516108397:=0
def tw13295457229110955951:=0
def tw8769600442015976285:=0
def tw9493847853745898455:=0
def tw11914722050743297000:=0
def tw9980993180260173624:=0
def tw2954297284468590375:=0
def tw6639548221389595525:=0
def tw15668121389297479818:=0
def tw6895277169273884470:=0
def tw12865769439306145619:=0
def tw16223422124054393271:=0
def tw2414347286758109357:=0
def tw12603229121162935735:=0
def tw10511347863200779145:=0
def tw9115372346041741145:=0
def tw4253048479969302211:=0
def tw9482138025370896426:=0
def tw5967951771213388366:=0
def tw7640572175301718091:=0
def tw572333008276934524:=0
def tw17314507594786572170:=0
def tw12164544449319298723:=0
def tw16938095913839667685:=0
def tw4464862100754926078:=0
def tw7329329295406248187:=0
def tw2036089771905807325:=0
def tw4405968241228353172:=0
def tw13797012962736366338:=0
def tw7078590015993289951:=0
def tw6641951363956738792:=0
def tw14421136613075776765:=0
def tw2293463058483864726:=0
def tw17506932336924781864:=0
def tw3112887758922869241:=0
def tw750853483105557258:=0
def tw17259421010691456280:=0
def tw623181420532152907:=0
def tw9214431767711413447:=0
def tw9154348107715145658:=0
def tw14966304078319090169:=0
def tw1977902431886843225:=0
def tw4933212872908694333:=0
def tw3395161675790570153:=0
def tw9713508425744114163:=0
def tw17351856076704884579:=0
def tw11198467893188056990:=0
def tw10861520452653853759:=0
def tw5282878452540231874:=0
def tw10303379879437507019:=0
def tw8893405741161840789:=0
def tw185104077091701595:=0
def tw8635311096317983926:=0
def tw14208581492787834433:=0
def tw13813590829862344313:=0
def tw1785434756937003891:=0
def tw2188225265033125507:=0
def tw8359420380381384799:=0
def tw7832891686187816954:=0
def tw12768551614513019324:=0
def tw17485963935706130390:=0
def tw10799947855755811261:=0
def tw4941359447851816200:=0
def tw12849145018732175190:=0
def tw9933940157211148118:=0
def tw16397701448241082:=0
def tw14493460243705757740:=0
def tw13120816742675322849:=0
def tw1056370068242918771:=0
def tw626173862587086434:=0
def tw9776625865564787670:=0
def tw13277527984827538628:=0
def tw1309341357890644208:=0
def tw17716049108362163510:=0
def tw17362375400714093335:=0
def tw11320328715289340845:=0
def tw2917097465078768364:=0
end PySem.W.Fast
open PySem PySem.W PyProof.Rows
set_option maxRecDepth 100000 in
set_option maxHeartbeats 0 in
theorem PySem.Challenge.cw_roomslaid_k14_blank_and_records_holds : PySem.Challenge.rw_roomslaid_k14_blank_and_records.Holds := by
 w_on;o_law;k_head; (case hw=>w_witness2)
 k_fill
 refine K14.walk (l := PySem.Challenge.rw_roomslaid_k14_blank_and_records) rfl rfl (fun w h Y => PySem.W.kIn_of Y) ?F
 case F =>
  intro w mg fa h KX G hmg
  refine' K14.all_mk KX G hmg ?_ ?_ ?_ ?_ ?_ ?_ ?_ ?_ ?_ ?_ ?_ ?_ ?_ ?_ ?_ ?_ ?_ ?_ ?_ ?_ ?_ ?_ ?_ ?_ ?_ ?_ ?_ ?_ ?_ ?_ ?_ ?_ ?_ ?_ ?_ ?_ ?_ ?_ ?_ ?_ ?_ ?_ ?_ ?_ ?_ ?_ ?_ ?_ ?_ ?_ ?_ ?_ ?_ ?_ ?_ ?_ ?_ ?_ ?_ ?_ ?_ ?_ ?_ ?_ ?_ ?_ ?_ ?_ ?_ ?_ ?_ ?_ ?_ ?_ ?_ ?_ ?_ ?_ ?_ ?_ ?_ ?_ ?_ ?_ ?_ ?_ ?_ ?_ ?_ ?_ ?_ ?_ ?_ ?_ ?_ ?_ ?_ ?_ ?_ ?_ ?_ ?_ ?_ ?_ ?_ ?_ ?_ ?_ ?_ ?_ ?_ ?_ ?_ ?_ ?_ ?_ ?_ ?_ ?_ ?_ ?_ ?_ ?_ ?_ ?_ ?_ ?_ ?_ ?_ ?_ ?_ ?_ ?_ ?_ ?_ ?_ ?_ ?_ ?_ ?_ ?_ ?_ ?_ ?_ ?_ ?_
  all_goals (first|refine' K14.FG.mk ?_ ⟨_,L2.aLq ?_ ?_ ?_⟩|refine' K14.FM.mk ?_ ?_ ⟨_,L2.aLq ?_ ?_ ?_⟩|refine' K14.CK.mk ?_ ⟨?_,?_,?_,?_⟩ ?_ ?_ ?_|skip)
  all_goals (repeat' (first|exact K14.na0|refine' K14.na1 ?_ ?_))
  all_goals (first|k_is|exact K14.na0|exact Eq.refl true|exact Eq.refl (some true)|exact Eq.refl (some false)|kernel_rfl|ac_rfl|skip)
