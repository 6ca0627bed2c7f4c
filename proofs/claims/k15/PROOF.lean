import PyProof.Rows.All
import Wide.All
import OpenK.AllK
import Wide.FinOn
import PySem.Challenge.RW_roomslaid_k15_looked_and_stored
set_option hygiene false
set_option autoImplicit true
set_option Elab.async false
set_option linter.all false
set_option maxRecDepth 100000
local macro_rules|`(tactic|ac_rfl)=>`(tactic|decide +kernel)
theorem hide_{p:Prop}(h:let g:=p;g):p:=h
def LpL (p:Prop):Prop:=p
theorem LpL.i{p:Prop}(h:p):LpL p:=h
local macro_rules | `(tactic| obtain $p:rcasesPatMed := $e) => `(tactic| (refine hide_ ?_;intro G_; (rcases $e:term with $p) <;> (unfold G_;try clear G_;try (with_reducible refine LpL.i ?_;intro D_))))
local macro_rules | `(tactic| omega) => `(tactic| lia)
open PySem.W (Frag keepIn findIn codeIn nsIn fnOf mg_of isFn mg_none_of)
open List renaming length_map->δ,getElem?_eq_some_iff->ε,getElem?_eq_getElem->ζ,mem_of_getElem?->ι,length_append->ν,mem_singleton->ο,map_append->ρ,getElem?_map->υ,length_cons->Γ,mem_cons_self->Δ,mem_cons->Ξ,size_toArray->Φ,mem_cons_of_mem->Ψ,getD_eq_getElem?_getD->Ω,mem_append_right->ia,length_take->ib,getElem?_append_right->ic,zipWith->ig,getElem?_append_left->ii,range->ir,mem_append_left->iu,mem_map->iw,mem_iff_getElem?->jd,mem_append->je,drop_eq_getElem_cons->jl,all_eq_true->jm,map_map->jp,take_add_one->jq,append_assoc->jr,length_singleton->jt,length_range->jx,replicate->kc,not_mem_nil->kg,map_cons->ki,take_append_drop->ky,append_nil->ly,nodup_cons->md,getElem_mem->mw,take_of_length_le->mz,getElem?_range->nr,length_replicate->nu,filter_cons_of_neg->oh,flatMap_append->ot,getElem?_take_of_lt->pe,flatMap_singleton->qc,zipWith_cons_cons->qd,cons_append->qg,pairwise_iff_getElem->qp,replicate_succ->rf,length_pos_iff->rg,map_congr_left->rh,length_drop->rl,take_length->rn,length_eq_zero_iff->rp,pairwise_singleton->sd,getElem?_set_self->sg,find?_cons->sq,range_succ->sr,sum_cons->sv,getElem?_inj->tu,pairwise_map->tw,nodup_append->tx,mem_range->ua,drop_length->uc,length_set->uo,nil_append->uq,lookup->va,flatten_cons->vf,flatMap_cons->vi,getElem?_zipWith->vm,getElem?_eq_none->vn,eq_nil_or_concat->vo,concat_eq_append->vp,any_eq_true->vy,getElem_map->vz,any_cons->wb,Pairwise->wc
open PySem.Str renaming ofString->η,join->jo,cps_append->qj,append_assoc->ud
open PySem renaming PyData->θ,sizeLine->τ,Shared->χ,wpAny_bind->ψ,mainGlobals->ie,sizeLine_eq->il,wpAny_pure->io,wpAny->iz,boot_len->jh,model->jj,starEach->jk,sysModules->jw,strLen_append->kj,compareOp->lh,wpAny_truthy_bool->lq,Program->lu,mem_of_lookup->lw,Spec->mf,wpAny_mono->mh,Around->mj,wpAny_loadPart'->mv,World->my,Heap->nc,bootBuiltins->oe,binaryOp->qb,wpAny_richCompare_same_room->qe,wpAny_holding->qf,cLine->qi,wpAny_passesOwn->qq,wpAny_newObj_type->qr,behindInMarks->qv,FuncData->rj,wpAny_getItem_str_slice->rm,Builtin->si,call_meets->sk,backTo->uf,attributeBase->ug,letOwnedTupleGo->ul,valueAt->uu,assignEach->uw,wpAny_Call_Name_kw->ux,tupleKind_room_in1->uy,sliceBounds->vc,wpAny_dictEntries->vj,wpAny_call_entry->vw
open Nat renaming le_refl->ξ,lt_of_lt_of_le->ω,zero_le->ij,le_trans->iq,ne_of_lt->ji,min_le_left->jy,lt_of_le_of_lt->kn,le_of_lt->kq,sub_self->mr,succ_le_succ->ow,lt_irrefl->oy,lt_succ_self->ub,not_lt_zero->uv,lt_trans->vh,min_le_right->vt,not_succ_le_zero->wf
open Bool renaming false_ne_true->π,and_eq_true->kf,eq_iff_iff->px,false_and->qh,false_eq_true->uz
open PySem.W renaming Frag->ς,kitOne->jz,mg_none_of->mn,kia_one->mx,instObj->pq,findIn->ql,mroIn->uh,methodCall_KW->vk,plainGet->vq
open PySem.Heap renaming get?_push_of_some->Θ,lt_size->ik,get?_push_size->jb,SameBut->sf,get?_update_other->sj
open PyProof.Rows renaming boot_isinstance->ip,boot_tuple->qy,slot_tuple_getitem->qz,callWith_type1->tq
open PySem.PassesOwn renaming never->iy
open PySem.PyData renaming str->jg,depthAll->kh,depthKv->nv,leavesShortAll->ou,leavesShortKv->ph,weightKv->qa,showableAll->qk,showableKv->qt,weightAll->rq,dict->se
open True renaming intro->ju
open Option.some renaming inj->jv
open False renaming elim->ke
open PySem.Value renaming ref->km
open Nat.succ renaming inj->lc
open PySem.F renaming plainAttrs_list->li,slot_list_append->ny,type_list_append->nz,plainAttrs_str->oo,slot_str_join->sy,type_str_join->tf,args_tuple_add_2->ui,slot_dict_itemiterator_iter->uk,entry_tuple_add->vb,slot_tuple_add->vd
open Array renaming length_toList->lj,getElem?_eq_getElem->nh,toList_append->oq,getElem?_toList->sx
open Ne renaming symm->lm
open Option renaming map_eq_some_iff->lr,isSome_iff_exists->oz
open PySem.SeqAt renaming EqAt->mq
open PySem.Builtin.Str renaming occurrences->og
open Sum renaming inr->ol
open PySem.Paired renaming length->om
open PySem.Txt renaming split->ox
open PySem.Builtin.Slice renaming slicePlaces->qm,sliceAdjust->ue
open PySem.Builtin.Dict renaming dictSlotArgs->qo
open Int renaming zero_add->qu,natCast_add->su
open PySem.Builtin.Tuple renaming tupleExact->qw
open PySem.Builtin.List renaming listTooLong->qx
open ForInStep renaming yield->sm
open List.cons renaming inj->uj
open PySem.Calls renaming callWith_builtin->ve
open List.Pairwise renaming nil->vg
namespace L2
open PySem PySem.Spec PyProof.Rows
abbrev Key:=Sum Int Str
def pH:Key->Value->Bool
 |.inl k,v=>Value.isInt k v
 |.inr x,v=>Value.isStrOf x v
def keyH (w:my):Key->Int
 |.inl k=>hashInt k
 |.inr x=>hashStr w x
theorem qU:∀{k:Key}{v:Value},pH k v=true->(∃i t,k=Sum.inl i/\v=Value.int i t)\/(∃x t,k=ol x/\v=Value.str x t)
 |.inl i,v,h=>by
  obtain⟨t,e⟩:=Value.isInt_shape (k:=i) (v:=v) h;exact .inl ⟨i,t,rfl,e⟩
 |.inr x,v,h=>by
  obtain⟨t,e⟩:=Value.isStrOf_shape (x:=x) (v:=v) h;exact .inr ⟨x,t,rfl,e⟩
theorem aId(i:Int)(t:Tok):pH (.inl i) (.int i t)=true:=by simp[pH,Value.isInt]
theorem aIj(x:Str)(t:Tok):pH (.inr x) (.str x t)=true:=by simp[pH,Value.isStrOf]
theorem aRo(a b:Int):decide ((Sum.inl a:Key)=Sum.inl b)=(a == b):=by
 by_cases e:a=b
 ·subst e;simp
 ·have h:¬ (Sum.inl a:Key)=Sum.inl b:=fun q=>e (Sum.inl.inj q);rw[decide_eq_false h];exact(beq_eq_false_iff_ne.mpr e).symm
theorem aRv(a b:Str):decide ((ol a:Key)=ol b)=decide (a=b):=by
 by_cases e:a=b
 ·subst e;simp
 ·have h:¬ (ol a:Key)=ol b:=fun q=>e (ol.inj q);rw[decide_eq_false h,decide_eq_false e]
theorem aQt(a:Int)(b:Str):decide ((Sum.inl a:Key)=ol b)=false:=decide_eq_false (fun q=>nomatch q)
theorem aQe(a:Str)(b:Int):decide ((ol a:Key)=Sum.inl b)=false:=decide_eq_false (fun q=>nomatch q)
def qN (prog:lu) (w:my):PySem.KeyKind prog w Key where
 is:=pH
 hash:=keyH w
 inj:=fun v a b ha hb=>by
  rcases qU ha with⟨i,t,rfl,rfl⟩|⟨x,t,rfl,rfl⟩
  ·rcases qU hb with⟨j,u,rfl,e⟩|⟨y,u,rfl,e⟩
   ·injection e with e1 _;rw[e1]
   ·exact nomatch e
  ·rcases qU hb with⟨j,u,rfl,e⟩|⟨y,u,rfl,e⟩
   ·exact nomatch e
   ·injection e with e1 _;rw[e1]
 byValue:=fun k v h=>by
  rcases qU h with⟨i,t,rfl,rfl⟩|⟨x,t,rfl,rfl⟩ <;> rfl
 pyHash:=fun hv h=>by
  rcases qU hv with⟨i,t,rfl,rfl⟩|⟨x,t,rfl,rfl⟩
  ·exact wpAny_pyHash_int h
  ·exact wpAny_pyHash_str h
 eqBool:=fun hu hv h=>by
  rcases qU hu with⟨i,t,rfl,rfl⟩|⟨x,t,rfl,rfl⟩
  ·rcases qU hv with⟨j,u,rfl,rfl⟩|⟨y,u,rfl,rfl⟩
   ·rw[aRo]at h;exact wpAny_eqBool_int h
   ·rw[aQt]at h;exact mq.int_str i t y u _ _ _ _ h
  ·rcases qU hv with⟨j,u,rfl,rfl⟩|⟨y,u,rfl,rfl⟩
   ·rw[aQe]at h;exact mq.str_int x t j u _ _ _ _ h
   ·rw[aRv]at h;exact wpAny_eqBool_str h
 «strs»:=fun k x t v h=>by
  rcases qU h with⟨i,u,rfl,e⟩|⟨y,u,rfl,e⟩
  ·exact nomatch e
  ·injection e with e1 _;subst e1;cases v <;> rfl
theorem aBx(prog:lu)(w:my)(i:Int)(t:Tok):(qN prog w).is (.inl i) (.int i t)=true:=aId i t
theorem aCq(prog:lu)(w:my)(x:Str)(t:Tok):(qN prog w).is (.inr x) (.str x t)=true:=aIj x t
inductive V where
 |non|bl (b:Bool)|int (i:Int)|str (x:Str)|byt (b:Array UInt8)|flt (b:UInt64)|ref (a:Addr)|ty (n:String)
 deriving DecidableEq
def RelV:V->Value->Prop
 |.non,u=>u=Value.none
 |.bl b,u=>u=Value.bool b
 |.int i,u=>∃t,u=Value.int i t
 |.str x,u=>∃t,u=Value.str x t
 |.byt b,u=>∃t,u=Value.bytes b t
 |.flt b,u=>∃t,u=Value.float b t
 |.ref a,u=>u=km a
 |.ty n,u=>u=Value.type n
abbrev kJ:List V->List Value->Prop:=Paired RelV
theorem kJ.length{xs:List V}{us:List Value}(r:kJ xs us):xs.length=us.length:=om r
theorem kJ.get:∀{xs:List V}{us:List Value}{i:Nat}{x:V},kJ xs us->xs[i]?=some x->∃u,us[i]?=some u/\RelV x u
 |_,_,_,_,.nil,e=>by simp at e
 |_,_,0,_,.cons r _,e=>by simp at e;subst e;exact⟨_,rfl,r⟩
 |_,_,i+1,x,.cons _ t,e=>by
  obtain⟨u,h1,h2⟩:=kJ.get (i:=i) (x:=x) t (by simpa using e);exact⟨u,by simpa using h1,h2⟩
theorem kJ.set(r:RelV x u):∀{xs:List V}{us:List Value}(i:Nat),kJ xs us->kJ (xs.set i x) (us.set i u)
 |_,_,_,.nil=>.nil
 |_,_,0,.cons _ t=>.cons r t
 |_,_,i+1,.cons q t=>.cons q (kJ.set r i t)
theorem kJ.append:∀{xs ys:List V}{us ws:List Value},kJ xs us->kJ ys ws->kJ (xs++ys) (us++ws)
 |_,_,_,_,.nil,s=>s
 |_,_,_,_,.cons r t,s=>.cons r (kJ.append t s)
theorem kJ.take:∀{xs:List V}{us:List Value}(n:Nat),kJ xs us->kJ (xs.take n) (us.take n)
 |_,_,0,_=>.nil
 |_,_,_+1,.nil=>.nil
 |_,_,n+1,.cons r t=>.cons r (kJ.take n t)
theorem kJ.drop:∀{xs:List V}{us:List Value}(n:Nat),kJ xs us->kJ (xs.drop n) (us.drop n)
 |_,_,0,r=>r
 |_,_,_+1,.nil=>.nil
 |_,_,n+1,.cons _ t=>kJ.drop n t
theorem kJ.none_of:∀{xs:List V}{us:List Value}{i:Nat},kJ xs us->xs[i]?=none->us[i]?=none:=fun {xs us i} r e=>by
 have h1:=r.length;have h2:xs.length<=i:=List.getElem?_eq_none_iff.mp e;exact List.getElem?_eq_none_iff.mpr (by omega)
def cS:Option V->Option Value->Prop
 |some v,some u=>RelV v u
 |none,none=>True
 |_,_=>False
def KV {κ : Type} : List (κ×V)->List (κ×Value)->Prop:=Paired fun (p : κ×V) (q : κ×Value)=>p.1=q.1/\RelV p.2 q.2
def kV:Key->V
 |.inl i=>.int i
 |.inr x=>.str x
inductive HO where
 /-- a list -/
 |lst (xs:List V)
 /-- a tuple (never changes) -/
 |tup (xs:List V)
 /-- a dict whose keys are ints and texts;one whose keys are tuples of ints and texts (the empty one is both) -/
 |dK (kvs:List (Key×V))|dT (kvs:List (List Key×V))
 /-- a set of ints: its members,its size -/
 |set (S:Int->Bool) (n:Nat)
 /-- an instance of the class at C,its dict at dx,its attributes -/
 |ins (C dx:Addr) (fs:List (Str×V))
 /-- the dict of the instance at x -/
 |own (x:Addr)
 /-- the dict of an exception -/
 |xd (fs:List (Str×V))
 /-- a bound method,f of x -/
 |met (f x:Addr)
 /-- a range object lo,lo+1,.. below hi -/
 |rng (lo hi:Int)
 /-- a thing that is known to the object (the script;a dict while a loop walks it): read,never written while it is so -/
 |frz (o:Obj) (u:HO)
 /-- a code object's table -/
 |tbl (ps:Array Value)
 /-- any other thing,by what is true of its one object (a def of one's own: SetO a S n := HO.ext fun h => ..) -/
 |ext (φ : nc->Prop)
abbrev Hp:=Addr->Option HO
def upd (H:Hp) (a:Addr) (o:HO):Hp:=fun b=>if b=a then some o else H b
theorem jT : upd H a o a=some o:=by unfold upd;rw[if_pos rfl]
theorem kF{H:Hp}{a b:Addr}(h:b≠a):upd H a o b=H b:=by unfold upd;rw[if_neg h]
theorem hV{H:Hp}(h:H a=some o)(h':H b=some u)(d:o≠u):a≠b:=by
 intro e;subst e;rw[h]at h';exact d (jv h')
theorem jS{H:Hp}(h:H a=some o)(h':H b=none):a≠b:=by
 intro e;subst e;rw[h]at h';cases h'
section
variable (P:lu) (w:my)
def vE (H:Hp) (h:nc) (a:Addr):HO->Prop
 |.lst xs=>xs.length<=τ/\∃(its:List Value) (n:Nat),kJ xs its/\h.get? a=some { cls:=.type "list",data:=.seq its.toArray n }
 |.tup xs=>xs.length<=τ/\∃its:List Value,kJ xs its/\IsTup h a its.toArray
 |.dK kvs=>kvs.length<=τ/\(a == jw)=false/\∃vs,KV kvs vs/\h.DictOf (qN P w) a vs
 |.dT kvs=>kvs.length<=τ/\(a == jw)=false/\∃xs:List (List Key×Addr×Value),
   Paired (fun (p:List Key×V) (q:List Key×Addr×Value)=>p.1=q.1/\H q.2.1=some (.tup (p.1.map kV))/\RelV p.2 q.2.2) kvs xs ∧
   ∃o es ep,h.get? a=some o/\o.ExactDict/\o.data=.dict es ep/\es.toList=xs.map (entryOfKey (tupleKind (qN P w)))/\(xs.map (·.1)).Nodup
 |.set S n=>h.SetOf (intKind P w) a S n
 |.ins C dx fs=>H dx=some (.own a)/\fs.length<=1000/\dx≠a/\h.get? a=some (pq C dx) ∧
   ∃mA,h.Ns1 dx mA/\(∀f,cS (fs.lookup f) (mA f))/\PySem.Within mA (fs.map (·.1))
 |.own _=>∃o,h.get? a=some o
 |.xd fs=>∃mA,h.Ns1 a mA/\∀f,cS (fs.lookup f) (mA f)
 |.rng lo hi=>∃t u v,h.get? a=some { cls:=.type "range",data:=.fields #[.int lo t,.int hi u,.int 1 v] }
 |.frz o u=>h.get? a=some o/\vE H h a u
 |.tbl ps=>h.get? a=some { cls:=.none,data:=.fields ps }
 |.met f x=>h.get? a=some (PySem.W.methodObj (.ref f) (.ref x))
 |.ext φ=>φ h/\(∃o,h.get? a=some o)/\∀h1 h2:nc,φ h1->(∀o,h1.get? a=some o->h2.get? a=some o)->φ h2
def HOk (H:Hp) (h:nc):Prop:=∀a o,H a=some o->vE P w H h a o
end
section
variable {P:lu}{w:my}{H H':Hp}{h h':nc}{a:Addr}{o:HO}
theorem vE.lt(x:vE P w H h a o):a<h.objs.size:=by
 cases o with
 |lst xs=>obtain⟨_,_,_,_,e⟩:=x;exact ik e
 |tup xs=>obtain⟨_,_,_,p⟩:=x;exact p.lt
 |dK kvs=>obtain⟨_,_,_,_,o,_,_,e,_⟩:=x;exact ik e
 |dT kvs=>obtain⟨_,_,_,_,o,_,_,e,_⟩:=x;exact ik e
 |set S n=>obtain⟨o,_,_,_,e,_⟩:=x;exact ik e
 |ins C dx fs=>obtain⟨_,_,_,e,_⟩:=x;exact ik e
 |own y=>obtain⟨_,e⟩:=x;exact ik e
 |xd fs=>obtain⟨_,⟨_,_,_,e,_⟩,_⟩:=x;exact ik e
 |rng lo hi=>obtain⟨_,_,_,e⟩:=x;exact ik e
 |frz ob u=>obtain⟨e,_⟩:=x;exact ik e
 |tbl ps=>exact ik (show h.get? a=some _ from x)
 |met f y=>exact ik (show h.get? a=some _ from x)
 |ext φ=>obtain⟨_,⟨_,e⟩,_⟩:=x;exact ik e
theorem Paired.mapP{α β : Type}{F G : α->β->Prop}: ∀{l₁ : List α}{l₂ : List β},Paired F l₁ l₂->(∀a b,F a b->G a b)->Paired G l₁ l₂
 |_,_,.nil,_=>.nil
 |_,_,.cons r t,f=>.cons (f _ _ r) (Paired.mapP t f)
theorem vE.stay(x:vE P w H h a o)(k:∀b u,(b=a\/H b=some (.own a))->h.get? b=some u->h'.get? b=some u)
  (ho:∀b,H b=some (.own a)->H' b=some (.own a))(ht:∀b xs,H b=some (.tup xs)->H' b=some (.tup xs)):vE P w H' h' a o:=by
 induction o with
 |lst xs=>obtain⟨z,its,n,r,e⟩:=x;exact⟨z,its,n,r,k _ _ (.inl rfl) e⟩
 |tup xs=>obtain⟨z,its,r,ob,e,c⟩:=x;exact⟨z,its,r,ob,k _ _ (.inl rfl) e,c⟩
 |dK kvs=>obtain⟨z,y,vs,r,ob,es,ep,e,c⟩:=x;exact⟨z,y,vs,r,ob,es,ep,k _ _ (.inl rfl) e,c⟩
 |dT kvs =>
  obtain⟨z,y,xs,r,ob,es,ep,e,c⟩:=x;exact⟨z,y,xs,Paired.mapP r fun p q z=>⟨z.1,ht _ _ z.2.1,z.2.2⟩,ob,es,ep,k _ _ (.inl rfl) e,c⟩
 |set S n=>obtain⟨ob,es,ep,t,e,c⟩:=x;exact⟨ob,es,ep,t,k _ _ (.inl rfl) e,c⟩
 |ins C dx fs =>
  obtain⟨d,z,ne,e,mA,⟨od,es,ep,e2,c⟩,r⟩:=x;exact⟨ho _ d,z,ne,k _ _ (.inl rfl) e,mA,⟨od,es,ep,k _ _ (.inr d) e2,c⟩,r⟩
 |own y=>obtain⟨ob,e⟩:=x;exact⟨ob,k _ _ (.inl rfl) e⟩
 |xd fs=>obtain⟨mA,⟨od,es,ep,e,c⟩,r⟩:=x;exact⟨mA,⟨od,es,ep,k _ _ (.inl rfl) e,c⟩,r⟩
 |rng lo hi=>obtain⟨t,u,v,e⟩:=x;exact⟨t,u,v,k _ _ (.inl rfl) e⟩
 |frz ob u ih=>obtain⟨e,q⟩:=x;exact⟨k _ _ (.inl rfl) e,ih q⟩
 |tbl ps =>
  have e:h.get? a=some { cls:=.none,data:=.fields ps }:=x;show h'.get? a=some { cls:=.none,data:=.fields ps };exact k a _ (.inl rfl) e
 |met f y =>
  have e:h.get? a=some (PySem.W.methodObj (.ref f) (.ref y)):=x;show h'.get? a=some (PySem.W.methodObj (.ref f) (.ref y));exact k a _ (.inl rfl) e
 |ext φ=>obtain⟨p,⟨o,e⟩,st⟩:=x;exact⟨st _ _ p fun o q=>k _ _ (.inl rfl) q,⟨o,k _ _ (.inl rfl) e⟩,st⟩
theorem HOk.lt(x:HOk P w H h)(e:H a=some o):a<h.objs.size:=(x a o e).lt
theorem HOk.fresh(x:HOk P w H h)(e:h.objs.size<=a):H a=none:=by
 cases q:H a with
 |none=>rfl
 |some u=>exact absurd (ω (x.lt q) e) (oy _)
theorem HOk.kept(x:HOk P w H h)(k:∀b u,h.get? b=some u->h'.get? b=some u):HOk P w H h':=fun a o e =>
 (x a o e).stay (fun b u _ q=>k b u q) (fun _ q=>q) fun _ _ q=>q
theorem HOk.laid(x:HOk P w H h)(k:∀b u,h.get? b=some u->h'.get? b=some u)(hp:h.objs.size<=a)(new:vE P w (upd H a o) h' a o):HOk P w (upd H a o) h':=fun b u e=>by
 have hn:=x.fresh hp
 by_cases hb:b=a
 ·subst hb;rw[jT]at e;cases e;exact new
 ·rw[kF hb]at e;exact(x b u e).stay (fun c v _ q=>k c v q) (fun c q=>by rw[kF (jS q hn)];exact q) fun c xs q=>by rw[kF (jS q hn)];exact q
end
def Rd (H:Hp) (a:Addr) (u:HO):Prop:=H a=some u\/∃o,H a=some (.frz o u)
theorem Rd.of{H:Hp}(h:H a=some u):Rd H a u:=.inl h
theorem Rd.ok(r:Rd H a u)(x:HOk P w H h):vE P w H h a u:=by
 rcases r with r|⟨o,r⟩
 ·exact x a u r
 ·obtain⟨_,q⟩:=x a _ r;exact q
def Mut:Option HO->Prop
 |some (.lst _)=>True
 |some (.dK _)=>True
 |some (.dT _)=>True
 |some (.set _ _)=>True
 |some (.ins _ _ _)=>True
 |some (.ext _)=>True
 |_=>False
section
variable {P:lu}{w:my}{H:Hp}{h h':nc}{x e:Addr}{o':HO}
theorem HOk.write(ok:HOk P w H h)(mu:Mut (H x))(he:e=x\/H e=some (.own x))(k:∀b u,b≠e->h.get? b=some u->h'.get? b=some u)(heo:∃u,h'.get? e=some u)
  (new:vE P w (upd H x o') h' x o'):HOk P w (upd H x o') h':=fun b u q=>by
 have nown:∀c y,H c=some (.own y)->c≠x:=fun c y r z=>by subst z;rw[r]at mu;exact mu
 have ntup:∀c xs,H c=some (.tup xs)->c≠x:=fun c xs r z=>by subst z;rw[r]at mu;exact mu
 by_cases hb:b=x
 ·subst hb;rw[jT]at q;cases q;exact new
 ·rw[kF hb]at q
  by_cases hbe:b=e
  ·have q':H b=some (.own x):=by
    rcases he with z|z
    ·exact absurd (hbe.trans z) hb
    ·rw[hbe];exact z
   rw[q]at q';cases q';obtain⟨v,hv⟩:=heo;exact⟨v,by rw[hbe];exact hv⟩
  ·refine(ok b u q).stay (fun c v hc r=>k c v ?_ r) (fun c r=>by rw[kF (nown c b r)];exact r) fun c xs r=>by rw[kF (ntup c xs r)];exact r
   rcases hc with rfl|hc
   ·exact hbe
   ·rintro rfl;rcases he with z|z
    ·exact nown c b hc z
    ·rw[hc]at z;cases z;exact hb rfl
end
structure Un (fs ex:List Addr) (H H':Hp) (h h':nc):Prop where
 keep:∀b o,h.get? b=some o->H b=none->b∉fs->b∉ex->h'.get? b=some o
 slot:∀b o,h.get? b=some o->H b=none->b∈fs->b∉ex->∃sl,h'.get? b=some { o with slots:=sl }
 free:∀b o,h.get? b=some o->H b=none->b∉ex->H' b=none
 there:∀b o,h.get? b=some o->b∉ex->∃o',h'.get? b=some o'
 tups:∀b xs,H b=some (.tup xs)->H' b=some (.tup xs)
 frzs:∀b o u,H b=some (.frz o u)->H' b=some (.frz o u)
 tbls:∀b ps,H b=some (.tbl ps)->∃more,H' b=some (.tbl (ps++more))
section
variable {fs fs' ex ex':List Addr}{H H1 H2:Hp}{h h1 h2 h':nc}{a x e:Addr}{o:HO}
theorem Un.any(u:Un fs ex H H1 h h1){b:Addr}{ob:Obj}(q:h.get? b=some ob)(n:H b=none)(hx:b∉ex):∃sl,h1.get? b=some { ob with slots:=sl }:=by
 by_cases hb:b∈fs
 ·exact u.slot b ob q n hb hx
 ·exact⟨ob.slots,u.keep b ob q n hb hx⟩
theorem Un.trans(a:Un fs ex H H1 h h1)(b:Un fs ex H1 H2 h1 h2):Un fs ex H H2 h h2 where
 keep:=fun c ob q n hc hx=>b.keep c ob (a.keep c ob q n hc hx) (a.free c ob q n hx) hc hx
 slot:=fun c ob q n hc hx=>by
  obtain⟨sl,e1⟩:=a.slot c ob q n hc hx;obtain⟨sl',e2⟩:=b.slot c _ e1 (a.free c ob q n hx) hc hx;exact⟨sl',e2⟩
 free:=fun c ob q n hx=>by
  obtain⟨o',e1⟩:=a.there c ob q hx;exact b.free c o' e1 (a.free c ob q n hx) hx
 there:=fun c ob q hx=>by
  obtain⟨o',e1⟩:=a.there c ob q hx;exact b.there c o' e1 hx
 tups:=fun c xs q=>b.tups c xs (a.tups c xs q)
 frzs:=fun c ob xs q=>b.frzs c ob xs (a.frzs c ob xs q)
 tbls:=fun c ps q=>by
  obtain⟨m1,e1⟩:=a.tbls c ps q;obtain⟨m2,e2⟩:=b.tbls c _ e1;exact⟨m1++m2,by rw[e2,Array.append_assoc]⟩
theorem Un.kept(k:∀b u,h.get? b=some u->h'.get? b=some u):Un fs ex H H h h' :=
 ⟨fun b ob q _ _ _=>k b ob q,fun b ob q _ _ _=>⟨ob.slots,k b ob q⟩,fun _ _ _ n _=>n,fun b ob q _=>⟨ob,k b ob q⟩,fun _ _ q=>q,fun _ _ _ q=>q,fun _ ps q=>⟨#[],by rw[q];simp⟩⟩
theorem Un.refl:Un fs ex H H h h:=Un.kept fun _ _ q=>q
theorem Un.laid(k:∀b u,h.get? b=some u->h'.get? b=some u)(hp:h.objs.size<=a)(hn:H a=none):Un fs ex H (upd H a o) h h' where
 keep:=fun b u q _ _ _=>k b u q
 slot:=fun b u q _ _ _=>⟨u.slots,k b u q⟩
 free:=fun b u q n _=>by rw[kF (ji (ω (ik q) hp))];exact n
 there:=fun b u q _=>⟨u,k b u q⟩
 tups:=fun b xs q=>by rw[kF (jS q hn)];exact q
 frzs:=fun b u xs q=>by rw[kF (jS q hn)];exact q
 tbls:=fun b ps q=>⟨#[],by rw[kF (jS q hn),q];simp⟩
theorem Un.write(mu:Mut (H x))(he:e=x\/H e=some (.own x))(k:∀b u,b≠e->h.get? b=some u->h'.get? b=some u)(heo:∃u,h'.get? e=some u):Un fs ex H (upd H x o) h h':=by
 have hx:∀b,H b=none->b≠x:=fun b n z=>by subst z;rw[n]at mu;exact mu
 have hb:∀b,H b=none->b≠e:=fun b n z=>by
  subst z;rcases he with r|r
  ·exact hx b n r
  ·rw[n]at r;cases r
 have hm:∀b u,H b=some u->¬ Mut (some u)->b≠x:=fun b u q nm z=>by subst z;rw[q]at mu;exact nm mu
 refine⟨fun b u q n _ _=>k b u (hb b n) q,fun b u q n _ _=>⟨u.slots,k b u (hb b n) q⟩,fun b u q n _=>by rw[kF (hx b n)];exact n,fun b u q _=>?_,
  fun b xs q=>by rw[kF (hm b _ q fun z=>z)];exact q,fun b u xs q=>by rw[kF (hm b _ q fun z=>z)];exact q,fun b ps q=>⟨#[],by rw[kF (hm b _ q fun z=>z),q];simp⟩⟩
 by_cases hbe:b=e
 ·subst hbe;exact heo
 ·exact⟨u,k b u hbe q⟩
theorem Un.mono(u:Un fs ex H H1 h h1)(hs:∀b∈fs,b∈fs')(hx:∀b∈ex,b∈ex'):Un fs' ex' H H1 h h1 :=
 ⟨fun b ob q n hb he=>u.keep b ob q n (fun z=>hb (hs b z)) fun z=>he (hx b z),fun _ _ q n _ he=>u.any q n fun z=>he (hx _ z),fun b ob q n he=>u.free b ob q n fun z=>he (hx b z),fun b ob q he=>u.there b ob q fun z=>he (hx b z),u.tups,u.frzs,u.tbls⟩
end
def trk (h:nc) (H:Hp):List Addr:=(ir h.objs.size).filter fun a=>(H a).isSome
def tV (h:nc) (H:Hp):nc:=PySem.W.hideAll h (trk h H)
theorem aHu(h:nc)(H:Hp):(tV h H).objs.size=h.objs.size:=PySem.W.hideAll_size _ _
theorem aMw{h:nc}{H:Hp}{b:Addr}(e:h.get? b=some o)(n:H b=none):(tV h H).get? b=some o :=
 PySem.W.hideAll_get _ e fun hm=>by
  have q:(H b).isSome=true:=(List.mem_filter.mp hm).2;rw[n]at q;simp at q
theorem aNp{H:Hp}{b:Addr}(e:(tV h H).get? b=some o):h.get? b=some o/\H b=none:=by
 have e':h.get? b=some o:=PySem.W.of_hideAll (trk h H) e;refine⟨e',?_⟩;cases q:H b with
 |none=>rfl
 |some x =>
  have hm:b∈trk h H:=List.mem_filter.mpr ⟨ua.mpr (ik e'),by simp[q]⟩;have z:(tV h H).get? b=none:=PySem.W.hideAll_none (trk h H) hm;rw[z]at e;cases e
def aOx (g h:nc) (L:Addr):List (Addr×Obj):=(ir h.objs.size).filterMap fun a=>if a=L\/(g.get? a).isSome=true then none else (h.get? a).map fun o=>(a,o)
def rest (g h:nc) (L d:Addr):List (Addr×Obj):=(aOx g h L).filter fun p=>decide (p.1≠d)
structure Mod (K:ς) (mg:Str->Option Value) (base:nc):Prop where
 kin:K.In base
 glob:base.Ns ie mg
 blt:∃mb,base.Ns builtinsNs mb/\∀x:Str,x ≠ "__name__"->mb x=oe x
 nolimit:base.NoLimit
 sys:∃m,base.Ns jw m
structure Cx where
 prog:lu
 w:my
 K:ς
 mg:Str->Option Value
 base:nc
 A:mj
 N:List Str
 s₀ : χ
 H₀ : Hp
 env:Env
 outer:List Env
 stack:List Env
 ex:List Addr
 fn:Str->Bool
 calm:Bool
 pn:List (Addr×Obj)
 xe:Value->χ->Prop
def frs (l:List Env):List Addr:=l.filterMap (·.frame)
abbrev Cx.fs (X:Cx):List Addr:=frs X.outer
def Vis (sc:Scope) (x:Str):Prop:=sc.names.lookup x=some .local\/sc.names.lookup x=some .cell\/sc.names.lookup x=some .free
def Loc (sc:Scope) (x:Str):Prop:=sc.names.lookup x=some .local\/sc.names.lookup x=some .cell
def Look (env:Env) (h:nc) (m:Str->Option Value) (x:Str) (u:Value):Prop :=
 (env.kindOf x=some .local/\m x=some u)\/((env.kindOf x=some .cell\/env.kindOf x=some .free)/\∃c,env.cells.lookup x=some c/\h.IsCell c (some u))
structure Cx.Ok (X:Cx):Prop where
 mod:Mod X.K X.mg X.base
 kind:X.env.scope.kind=.function
 glob:X.env.globals=ie
 blt:X.env.builtins=builtinsNs
 above:X.s₀.heap.objs.size<=X.env.locals
 inj:∀x y c,X.env.cells.lookup x=some c->X.env.cells.lookup y=some c->x=y
 has:∀x,(X.env.kindOf x=some .cell\/X.env.kindOf x=some .free)->∃c,X.env.cells.lookup x=some c
 cab:∀x c,X.fn x=true->X.env.cells.lookup x=some c->X.s₀.heap.objs.size<=c
 hd:X.calm=true->X.A.handled=none
 frames:X.A.frames=some X.stack
 stk:X.stack=X.outer\/(X.stack=X.env::X.outer/\X.env.frame=some X.env.locals)
 exf:∀b∈X.ex,b≠X.env.locals/\∀x c,X.env.cells.lookup x=some c->c≠b
 bs:∀b o,X.base.get? b=some o->X.s₀.heap.get? b=some o/\X.H₀ b=none
 bsz:X.base.objs.size<=X.s₀.heap.objs.size
 noex:∀b o,X.base.get? b=some o->b∉X.ex
 exfs:∀b∈X.ex,b∉X.fs
 funs:X.s₀.heap.FunFrames X.base X.outer
 frf:∀b∈X.fs,X.H₀ b=none
structure Inv (X:Cx) (pins:List (Addr×Obj)) (σ:List (Option V)) (H:Hp) (s:χ):Prop where
 ok:X.Ok
 os:s.os=X.s₀.os
 bare:AllBare s.gens
 base:Un X.fs X.ex X.H₀ H X.s₀.heap s.heap
 loc:∃m,s.heap.Ns X.env.locals m/\∀(i:Nat) (x:Str) (v:V),X.N[i]?=some x->σ[i]?=some (some v)->Vis X.env.scope x->∃u,RelV v u/\Look X.env s.heap m x u
 cell:∀x c,X.env.cells.lookup x=some c->∃v,s.heap.IsCell c v
 free:H X.env.locals=none
 freeC:∀x c,X.env.cells.lookup x=some c->H c=none
 pin:∀p∈X.pn++pins,s.heap.get? p.1=some p.2/\H p.1=none/\p.1≠X.env.locals/\p.1∉X.fs/\∀v,p.2.data≠.cell v
 hok:HOk X.prog X.w H s.heap
 len : σ.length=X.N.length
section
variable {X:Cx}{pins:List (Addr×Obj)}{σ:List (Option V)}{H H':Hp}{s:χ}{h':nc}
theorem Cx.Ok.nofr(ok:X.Ok){b:Addr}(e:X.base.get? b=some o):b∉X.fs:=fun hb=>by
 have:=(ok.funs.mem hb).1;rw[e]at this;cases this
theorem Inv.bs(I:Inv X pins σ H s):∀b o,X.base.get? b=some o->s.heap.get? b=some o/\H b=none:=fun b o e =>
 ⟨I.base.keep b o (I.ok.bs b o e).1 (I.ok.bs b o e).2 (I.ok.nofr e) (I.ok.noex b o e),I.base.free b o (I.ok.bs b o e).1 (I.ok.bs b o e).2 (I.ok.noex b o e)⟩
theorem Inv.bk(I:Inv X pins σ H s):∀b o,X.base.get? b=some o->s.heap.get? b=some o:=fun b o e=>(I.bs b o e).1
theorem Inv.mod(I:Inv X pins σ H s):Mod X.K X.mg X.base:=I.ok.mod
theorem Inv.kIn(I:Inv X pins σ H s):X.K.In s.heap:=I.ok.mod.kin.keeps I.bk
theorem Inv.nolimit(I:Inv X pins σ H s):s.heap.NoLimit:=I.ok.mod.nolimit.keeps I.bk
theorem Inv.fr(I:Inv X pins σ H s):∃m,Fr X.base X.env.locals s.heap m :=
 let ⟨m,hn,_⟩:=I.loc
 ⟨m,hn,I.bk,iq I.ok.bsz I.ok.above⟩
theorem Inv.lt(I:Inv X pins σ H s):X.env.locals<s.heap.objs.size:=let ⟨_,hn,_⟩:=I.loc;hn.lt
theorem Inv.sz(I:Inv X pins σ H s):X.s₀.heap.objs.size<=s.heap.objs.size:=iq I.ok.above (kq I.lt)
theorem Inv.nofs(I:Inv X pins σ H s){a:Addr}(h:s.heap.objs.size<=a):a∉X.fs:=fun hb=>by
 obtain⟨_,o,ho,_⟩:=I.ok.funs.mem hb;exact absurd (ω (ik ho) (iq I.sz h)) (oy _)
theorem Inv.cne(I:Inv X pins σ H s):∀x c,X.env.cells.lookup x=some c->c≠X.env.locals:=fun x c e z=>by
 obtain⟨v,o,ho,hd⟩:=I.cell x c e;obtain⟨m,⟨o',es,ep,ho',hd',_⟩,_⟩:=I.loc;rw[z,ho']at ho;cases ho;rw[hd']at hd;cases hd
theorem Inv.funs(I:Inv X pins σ H s):s.heap.FunFrames X.base X.outer:=by
 have all:∀(l:List Env),(∀b∈frs l,b∈X.fs)->X.s₀.heap.FunFrames X.base l->s.heap.FunFrames X.base l:=by
  intro l
  induction l with
  |nil=>intro _ _;trivial
  |cons env r ih =>
   intro hs hl;obtain⟨hk,⟨L,o,hf,hn,ho,hd⟩,hr⟩:=hl;have hL:L∈X.fs:=hs L (by unfold frs;rw[List.filterMap_cons,hf];exact Δ);obtain⟨sl,e⟩:=I.base.slot L o ho (I.ok.frf L hL) hL fun z=>I.ok.exfs L z hL;exact⟨hk,⟨L,_,hf,hn,e,hd⟩,ih (fun b hb=>hs b (by unfold frs;rw[List.filterMap_cons,hf];exact Ψ _ hb)) hr⟩
 exact all X.outer (fun _ hb=>hb) I.ok.funs
theorem Inv.stack(I:Inv X pins σ H s):s.heap.FunFrames X.base X.stack:=by
 rcases I.ok.stk with e|⟨e,hf⟩
 ·rw[e];exact I.funs
 ·rw[e];obtain⟨m,hn,_⟩:=I.loc;refine .cons (by rw[I.ok.kind];decide) hf hn ?_ I.funs;exact nc.get?_none_of_le (iq I.ok.bsz I.ok.above)
theorem Inv.stkSub(I:Inv X pins σ H s):∀b∈frs X.stack,b∈X.env.locals::X.fs:=fun b hb=>by
 rcases I.ok.stk with e|⟨e,hf⟩
 ·rw[e]at hb;exact Ψ _ hb
 ·rw[e]at hb;unfold frs at hb;rw[List.filterMap_cons,hf]at hb;exact hb
theorem Inv.stkFree(I:Inv X pins σ H s):∀b∈frs X.stack,H b=none:=fun b hb=>by
 rcases Ξ.mp (I.stkSub b hb) with e|hb
 ·rw[e];exact I.free
 ·obtain⟨_,o,ho,_⟩:=I.ok.funs.mem hb;exact I.base.free b o ho (I.ok.frf b hb) fun z=>I.ok.exfs b z hb
theorem Inv.step{t':Nat}{d':Drawn}{ch:List Addr}(I:Inv X pins σ H s)
  (hch:∀b∈ch,(b∈X.ex\/X.s₀.heap.objs.size<=b)/\b≠X.env.locals/\(∀x c,X.env.cells.lookup x=some c->c≠b)/\∀p∈X.pn++pins,p.1≠b)
  (keep:∀b o,b≠X.env.locals->b∉X.fs->b∉ch->s.heap.get? b=some o->H b=none->h'.get? b=some o)
  (slot:∀b o,b≠X.env.locals->b∈X.fs->b∉ch->s.heap.get? b=some o->H b=none->∃sl,h'.get? b=some { o with slots:=sl })(free:∀b o,b∉ch->s.heap.get? b=some o->H b=none->H' b=none)
  (there:∀b o,b∉ch->s.heap.get? b=some o->∃o',h'.get? b=some o')
  (tups:∀b xs,H b=some (.tup xs)->H' b=some (.tup xs))(frzs:∀b o u,H b=some (.frz o u)->H' b=some (.frz o u))(tbls:∀b ps,H b=some (.tbl ps)->∃more,H' b=some (.tbl (ps++more)))
  (ns:∀m,s.heap.Ns X.env.locals m->h'.Ns X.env.locals m)(hok:HOk X.prog X.w H' h')(hg:AllBare g'):
  Inv X pins σ H' { s with heap:=h',gens:=g',drawn:=d',toks:=t' }:=by
 have neL:∀b o,X.s₀.heap.get? b=some o->b≠X.env.locals:=fun b o e=>ji (ω (ik e) I.ok.above);have neC:∀b o,X.s₀.heap.get? b=some o->b∉X.ex->b∉ch:=fun b o e hx hb=>by
  rcases (hch b hb).1 with z|z
  ·exact hx z
  ·exact absurd (ω (ik e) z) (oy _)
 have cellK:∀x c,X.env.cells.lookup x=some c->∀v,s.heap.IsCell c v->h'.IsCell c v:=fun x c e v ⟨o,ho,hd⟩=>by
  have nch:c∉ch:=fun z=>(hch c z).2.2.1 x c e rfl
  by_cases hc:c∈X.fs
  ·obtain⟨sl,q⟩:=slot c o (I.cne x c e) hc nch ho (I.freeC x c e);exact⟨_,q,hd⟩
  ·exact⟨o,keep c o (I.cne x c e) hc nch ho (I.freeC x c e),hd⟩
 refine⟨I.ok,I.os,hg,⟨fun b o e n hb hx=>?_,fun b o e n hb hx=>?_,fun b o e n hx=>?_,fun b o e hx=>?_,fun b xs e=>tups b xs (I.base.tups b xs e),fun b o xs e=>frzs b o xs (I.base.frzs b o xs e),fun b ps e=>?_⟩,?_,fun x c e=>?_,?_,fun x c e=>?_,fun p hp=>?_,hok,I.len⟩
 ·exact keep b o (neL b o e) hb (neC b o e hx) (I.base.keep b o e n hb hx) (I.base.free b o e n hx)
 ·obtain⟨sl,e1⟩:=I.base.slot b o e n hb hx;obtain⟨sl',e2⟩:=slot b _ (neL b o e) hb (neC b o e hx) e1 (I.base.free b o e n hx);exact⟨sl',e2⟩
 ·obtain⟨o',e1⟩:=I.base.there b o e hx;exact free b o' (neC b o e hx) e1 (I.base.free b o e n hx)
 ·obtain⟨o',e1⟩:=I.base.there b o e hx;exact there b o' (neC b o e hx) e1
 ·obtain⟨m1,e1⟩:=I.base.tbls b ps e;obtain⟨m2,e2⟩:=tbls b _ e1;exact⟨m1++m2,by rw[e2,Array.append_assoc]⟩
 ·obtain⟨m,hn,hl⟩:=I.loc;refine⟨m,ns m hn,fun i x v e1 e2 e3=>?_⟩;obtain⟨u,r,l⟩:=hl i x v e1 e2 e3;refine⟨u,r,?_⟩;rcases l with l|⟨k,c,e,z⟩
  ·exact .inl l
  ·exact .inr ⟨k,c,e,cellK x c e _ z⟩
 ·obtain⟨v,z⟩:=I.cell x c e;exact⟨v,cellK x c e v z⟩
 ·obtain⟨m,⟨o,_,_,ho,_⟩,_⟩:=I.loc;exact free _ o (fun z=>(hch _ z).2.1 rfl) ho I.free
 ·obtain⟨v,o,ho,hd⟩:=I.cell x c e;exact free c o (fun z=>(hch c z).2.2.1 x c e rfl) ho (I.freeC x c e)
 ·obtain⟨e,n,ne,nf,d⟩:=I.pin p hp;have nch:p.1∉ch:=fun z=>(hch p.1 z).2.2.2 p hp rfl;exact⟨keep p.1 p.2 ne nf nch e n,free p.1 p.2 nch e n,ne,nf,d⟩
theorem Inv.un{t':Nat}(I:Inv X pins σ H s)(u:Un X.fs [] H H' s.heap h')(hok:HOk X.prog X.w H' h'):Inv X pins σ H' { s with heap:=h',toks:=t' }:=by
 obtain⟨m,⟨o,es,ep,ho,r⟩,_⟩:=id I.loc;obtain⟨sl,hL⟩:=u.any ho I.free (by simp);exact I.step (g':=s.gens) (d':=s.drawn) (ch:=[]) (fun _ z=>nomatch z) (fun b o _ hb _ e n=>u.keep b o e n hb (by simp)) (fun b o _ hb _ e n=>u.slot b o e n hb (by simp)) (fun b o _ e n=>u.free b o e n (by simp)) (fun b o _ e=>u.there b o e (by simp)) u.tups u.frzs u.tbls (fun m' hm=>by
  obtain⟨o',es',ep',ho',r'⟩:=hm;rw[ho]at ho';cases ho';exact⟨_,es',ep',hL,r'⟩) hok I.bare
theorem Inv.call{t':Nat}{d':Drawn}(I:Inv X pins σ H s)(u:Un (frs X.stack) ch H H' s.heap h')(hok:HOk X.prog X.w H' h')(hg:AllBare g')
  (hch:∀b∈ch,(b∈X.ex\/X.s₀.heap.objs.size<=b)/\b≠X.env.locals/\(∀x c,X.env.cells.lookup x=some c->c≠b)/\∀p∈X.pn++pins,p.1≠b):
  Inv X pins σ H' { s with heap:=h',gens:=g',drawn:=d',toks:=t' }:=by
 obtain⟨m,⟨o,es,ep,ho,r⟩,_⟩:=id I.loc;obtain⟨sl,hL⟩:=u.any ho I.free fun z=>(hch _ z).2.1 rfl;exact I.step (ch:=ch) hch (fun b o hL hb hc e n=>u.keep b o e n (fun z=>(Ξ.mp (I.stkSub b z)).elim hL hb) hc) (fun b o _ _ hc e n=>u.any e n hc) (fun b o hc e n=>u.free b o e n hc) (fun b o hc e=>u.there b o e hc) u.tups u.frzs u.tbls (fun m' hm=>by
  obtain⟨o',es',ep',ho',r'⟩:=hm;rw[ho]at ho';cases ho';exact⟨_,es',ep',hL,r'⟩) hok hg
theorem Inv.turned{t':Nat}{it:Addr}(I:Inv X pins σ H s)(k:∀b o,b≠it->s.heap.get? b=some o->h'.get? b=some o)(hn:H it=none)(hL:it≠X.env.locals)
  (h1:it∈X.ex\/X.s₀.heap.objs.size<=it)(h2:∀x c,X.env.cells.lookup x=some c->c≠it)(h3:∀p∈X.pn++pins,p.1≠it):Inv X pins σ H { s with heap:=h',toks:=t' }:=by
 have nit:∀b u,H b=some u->b≠it:=fun b u e z=>by rw[z,hn]at e;cases e
 refine I.step (g':=s.gens) (d':=s.drawn) (ch:=[it]) (fun b hb=>?_) (fun b o _ _ hc e _=>k b o (fun z=>hc (by simp[z])) e) (fun b o _ _ hc e _=>⟨o.slots,k b o (fun z=>hc (by simp[z])) e⟩) (fun _ _ _ _ n=>n)
  (fun b o hc e=>⟨o,k b o (fun z=>hc (by simp[z])) e⟩) (fun _ _ e=>e) (fun _ _ _ e=>e) (fun b ps e=>⟨#[],by rw[e];simp⟩) (fun m hm=>?_) (fun b u e=>?_) I.bare
 ·have e:b=it:=by simpa using hb
  subst e;exact⟨h1,hL,h2,h3⟩
 ·obtain⟨o,es,ep,ho,r⟩:=hm;exact⟨o,es,ep,k _ o (lm hL) ho,r⟩
 ·refine(I.hok b u e).stay (fun c v hc q=>k c v ?_ q) (fun _ q=>q) fun _ _ q=>q;rcases hc with z|z
  ·rw[z];exact nit b u e
  ·exact nit c _ z
theorem Inv.tok(I:Inv X pins σ H s)(t:Nat):Inv X pins σ H { s with toks:=t }:=I.un (h':=s.heap) (t':=t) Un.refl I.hok
theorem Inv.kept{t':Nat}(I:Inv X pins σ H s)(k:∀b u,s.heap.get? b=some u->h'.get? b=some u):Inv X pins σ H { s with heap:=h',toks:=t' }:=I.un (Un.kept k) (I.hok.kept k)
theorem Inv.laid{a:Addr}{t':Nat}(I:Inv X pins σ H s)(k:∀b u,s.heap.get? b=some u->h'.get? b=some u)(hp:s.heap.objs.size<=a)(new:vE X.prog X.w (upd H a o) h' a o):
  Inv X pins σ (upd H a o) { s with heap:=h',toks:=t' }:=I.un (Un.laid k hp (I.hok.fresh hp)) (I.hok.laid k hp new)
theorem Inv.write{e:Addr}{t':Nat}(I:Inv X pins σ H s)(mu:Mut (H x))(he:e=x\/H e=some (.own x))(k:∀b u,b≠e->s.heap.get? b=some u->h'.get? b=some u)(heo:∃u,h'.get? e=some u)
  (new:vE X.prog X.w (upd H x o) h' x o):Inv X pins σ (upd H x o) { s with heap:=h',toks:=t' }:=I.un (Un.write mu he k heo) (I.hok.write mu he k heo new)
theorem Inv.pins_of{pins':List (Addr×Obj)}(I:Inv X pins σ H s)(h:∀p∈pins',s.heap.get? p.1=some p.2/\H p.1=none/\p.1≠X.env.locals/\p.1∉X.fs/\∀v,p.2.data≠.cell v):Inv X pins' σ H s :=
 ⟨I.ok,I.os,I.bare,I.base,I.loc,I.cell,I.free,I.freeC,fun p hp=>(je.mp hp).elim (fun z=>I.pin p (iu _ z)) (h p),I.hok,I.len⟩
theorem aCj{N:List Str}(hN:N.Nodup){i j:Nat}(a:N[i]?=some x)(b:N[j]?=some x):i=j:=by
 obtain⟨h1,e1⟩:=ε.mp a;obtain⟨h2,e2⟩:=ε.mp b;exact(List.getElem_inj hN).mp (e1.trans e2.symm)
theorem aJg{i:Nat}{Q:Unit->χ->Prop}(I:Inv X pins σ H s)(hN:X.N.Nodup)(hi:X.N[i]?=some x)(hx:Loc X.env.scope x)(r:RelV v u)
  (h:∀s',Inv X pins (σ.set i (some v)) H s'->(∃a,sf a s.heap s'.heap/\(a=X.env.locals\/X.env.cells.lookup x=some a))->Q () s')(hf:X.fn x=true\/X.env.scope.names.lookup x=some .local:=by first|exact .inl rfl|exact .inr rfl|assumption):iz M A (storeName X.env x u) Q E s:=by
 obtain⟨m,hn,hl⟩:=id I.loc;have hcls:(X.env.scope.kind == .class||(X.env.scope.kind == .module&&X.env.locals != X.env.globals))=false:=by rw[I.ok.kind];rfl
 have hiσ:i<σ.length:=by rw[I.len];exact(ε.mp hi).1
 have cne:=I.cne;have tracked:∀{a:Addr}{h':nc},(∃o,s.heap.get? a=some o/\H a=none)->sf a s.heap h'->HOk X.prog X.w H h':=fun {a h'} ha hs b ob e=>by
  obtain⟨_,_,hfree⟩:=ha;refine(I.hok b ob e).stay (fun c w' hc q=>(hs.2 c ?_).trans q) (fun _ q=>q) fun _ _ q=>q;rintro rfl;rcases hc with rfl|hc
  ·rw[hfree]at e;cases e
  ·rw[hfree]at hc;cases hc
 rcases hx with hk|hk
 ·refine wpAny_storeName_local hk hn (fun h' hn' hs=>?_) hcls;obtain⟨oL,_,_,hoL,_⟩:=id hn;refine h _ ⟨I.ok,I.os,I.bare,⟨fun b o e n hb hx=>?_,fun b o e n hb hx=>?_,I.base.free,fun b o e hx=>?_,I.base.tups,I.base.frzs,I.base.tbls⟩,⟨_,hn',fun j y v' e1 e2 e3=>?_⟩,fun y c e=>?_,I.free,I.freeC,fun p hp=>?_,tracked ⟨oL,hoL,I.free⟩ hs,by simpa using I.len⟩ ⟨_,hs,.inl rfl⟩
  ·exact(hs.2 b (ji (ω (ik e) I.ok.above))).trans (I.base.keep b o e n hb hx)
  ·obtain⟨sl,e1⟩:=I.base.slot b o e n hb hx;exact⟨sl,(hs.2 b (ji (ω (ik e) I.ok.above))).trans e1⟩
  ·obtain⟨o',e1⟩:=I.base.there b o e hx;exact⟨o',(hs.2 b (ji (ω (ik e) I.ok.above))).trans e1⟩
  ·by_cases hj:j=i
   ·subst hj;rw[hi]at e1;cases e1;rw[sg hiσ]at e2;cases e2;exact⟨u,r,.inl ⟨hk,by simp⟩⟩
   ·rw[List.getElem?_set_ne (lm hj)]at e2;obtain⟨u',r',q⟩:=hl j y v' e1 e2 e3;refine⟨u',r',?_⟩;rcases q with⟨k,e⟩|⟨k,c,e,z⟩
    ·refine .inl ⟨k,?_⟩;have:y≠x:=fun e=>hj (aCj hN e1 (e ▸ hi));simp[this,e]
    ·exact .inr ⟨k,c,e,z.sameBut hs (cne y c e)⟩
  ·obtain⟨w',z⟩:=I.cell y c e;exact⟨w',z.sameBut hs (cne y c e)⟩
  ·obtain⟨e,n,ne,nf,d⟩:=I.pin p hp;exact⟨(hs.2 p.1 ne).trans e,n,ne,nf,d⟩
 ·have hfn:X.fn x=true:=by
   rcases hf with z|z
   ·exact z
   ·rw[z]at hk;cases hk
  obtain⟨c,hc⟩:=I.ok.has x (.inl hk);obtain⟨w',z⟩:=I.cell x c hc;refine wpAny_storeName_cell I.ok.kind hk hc z (fun h' hc' hs=>?_);obtain⟨oc,hoc,hocd⟩:=id z;refine h { s with heap:=h' } ⟨I.ok,I.os,I.bare,⟨fun b o e n hb hx=>?_,fun b o e n hb hx=>?_,I.base.free,fun b o e hx=>?_,I.base.tups,I.base.frzs,I.base.tbls⟩,⟨m,hn.sameBut hs (lm (cne x c hc)),fun j y v' e1 e2 e3=>?_⟩,fun y c' e=>?_,I.free,I.freeC,fun p hp=>?_,tracked ⟨oc,hoc,I.freeC x c hc⟩ hs,by simpa using I.len⟩ ⟨c,hs,.inr hc⟩
  ·exact(hs.2 b (ji (ω (ik e) (I.ok.cab x c hfn hc)))).trans (I.base.keep b o e n hb hx)
  ·obtain⟨sl,e1⟩:=I.base.slot b o e n hb hx;exact⟨sl,(hs.2 b (ji (ω (ik e) (I.ok.cab x c hfn hc)))).trans e1⟩
  ·obtain⟨o',e1⟩:=I.base.there b o e hx;exact⟨o',(hs.2 b (ji (ω (ik e) (I.ok.cab x c hfn hc)))).trans e1⟩
  ·by_cases hj:j=i
   ·subst hj;rw[hi]at e1;cases e1;rw[sg hiσ]at e2;cases e2;exact⟨u,r,.inr ⟨.inl hk,c,hc,hc'⟩⟩
   ·rw[List.getElem?_set_ne (lm hj)]at e2;obtain⟨u',r',q⟩:=hl j y v' e1 e2 e3;refine⟨u',r',?_⟩;rcases q with q|⟨k,c',e,z'⟩
    ·exact .inl q
    ·refine .inr ⟨k,c',e,z'.sameBut hs ?_⟩;rintro rfl;exact hj (aCj hN e1 (I.ok.inj _ _ _ e hc ▸ hi))
  ·by_cases hcc:c'=c
   ·subst hcc;exact⟨_,hc'⟩
   ·obtain⟨w2,z2⟩:=I.cell y c' e;exact⟨w2,z2.sameBut hs hcc⟩
  ·obtain⟨e,n,ne,nf,d⟩:=I.pin p hp;refine⟨(hs.2 p.1 ?_).trans e,n,ne,nf,d⟩;intro q;rw[q,hoc]at e;have q':oc=p.2:=jv e;exact d w' (by rw[←q'];exact hocd)
theorem aBc{i:Nat}{Q:Unit->χ->Prop}(I:Inv X pins σ H s)(hN:X.N.Nodup)(hi:X.N[i]?=some x)(hx:Loc X.env.scope x)(r:RelV v u)
  (h:∀s',Inv X pins (σ.set i (some v)) H s'->Q () s')(hf:X.fn x=true\/X.env.scope.names.lookup x=some .local:=by first|exact .inl rfl|exact .inr rfl|assumption):iz M A (storeName X.env x u) Q E s :=
 aJg I hN hi hx r (fun s' I' _=>h s' I') hf
end
abbrev XK:=Value->Option Addr->Hp->Prop
abbrev St:=List (Option V)
abbrev VK:=V->Hp->Prop
abbrev TE:=St->Hp->VK->Prop
abbrev TT:=St->Hp->(Bool->Hp->Prop)->Prop
abbrev TA:=St->Hp->(List V->Hp->Prop)->Prop
structure Ends where
 nx:St->Hp->Prop
 rt:VK
 bk:St->Hp->Prop:=fun _ _=>False
 ct:St->Hp->Prop:=fun _ _=>False
abbrev TS:=Ends->St->Hp->Prop
def EP (X:Cx) (pins:List (Addr×Obj)) (σ:St) (Q:VK) (u:Value) (s':χ):Prop:=∃v H',Inv X pins σ H' s'/\RelV v u/\Q v H'
def TP (X:Cx) (pins:List (Addr×Obj)) (σ:St) (Q:Bool->Hp->Prop) (b:Bool) (s':χ):Prop:=∃H',Inv X pins σ H' s'/\Q b H'
def AP (X:Cx) (pins:List (Addr×Obj)) (σ:St) (Q:List V->Hp->Prop) (us:List Value) (s':χ):Prop:=∃vs H',Inv X pins σ H' s'/\kJ vs us/\Q vs H'
theorem EP.el{Q:VK}{C:Prop}(h:EP X pins σ Q u s)(f:∀v H,Inv X pins σ H s->RelV v u->Q v H->C):C:=by
 obtain⟨v,H,a,b,c⟩:=h;exact f v H a b c
theorem AP.el{Q:List V->Hp->Prop}{C:Prop}(h:AP X pins σ Q u s)(f:∀v H,Inv X pins σ H s->kJ v u->Q v H->C):C:=by
 obtain⟨v,H,a,b,c⟩:=h;exact f v H a b c
def SP (X:Cx) (pins:List (Addr×Obj)) (D:Ends) (f:Flow) (s':χ):Prop :=
 match f with
 |.next=>∃σ' H',Inv X pins σ' H' s'/\D.nx σ' H'
 |.brk=>∃σ' H',Inv X pins σ' H' s'/\D.bk σ' H'
 |.cont=>∃σ' H',Inv X pins σ' H' s'/\D.ct σ' H'
 |.ret u=>∃v σ' H',Inv X pins σ' H' s'/\RelV v u/\D.rt v H'
def PE (X:Cx) (e:Expr) (t:TE):Prop :=
 ∀(pins:List (Addr×Obj)) (s:χ) (σ:St) (H:Hp) (Q:VK),Inv X pins σ H s->t σ H Q->iz (jj X.prog X.w) X.A (eval e X.env) (EP X pins σ Q) X.xe s
def PT (X:Cx) (e:Expr) (t:TT):Prop :=
 ∀(pins:List (Addr×Obj)) (s:χ) (σ:St) (H:Hp) (Q:Bool->Hp->Prop),Inv X pins σ H s->t σ H Q->iz (jj X.prog X.w) X.A (isTrue e X.env (eval e X.env)) (TP X pins σ Q) X.xe s
def PW (X:Cx) (e:Expr) (t:TT):Prop :=
 ∀(whole:Sem Value) (pins:List (Addr×Obj)) (s:χ) (σ:St) (H:Hp) (Q:Bool->Hp->Prop),Inv X pins σ H s->t σ H Q->iz (jj X.prog X.w) X.A (isTrue e X.env whole) (TP X pins σ Q) X.xe s
theorem PW.pt(h:PW X e t):PT X e t:=h _
def PA (X:Cx) (es:List Expr) (t:TA):Prop :=
 ∀(pos:Pos) (pins:List (Addr×Obj)) (s:χ) (σ:St) (H:Hp) (Q:List V->Hp->Prop),Inv X pins σ H s->t σ H Q->iz (jj X.prog X.w) X.A (spliced (uf pos (jk es X.env))) (AP X pins σ Q) X.xe s
def PS (X:Cx) (st:Stmt) (t:TS):Prop :=
 ∀(pins:List (Addr×Obj)) (s:χ) (σ:St) (H:Hp) (D:Ends),Inv X pins σ H s->t D σ H->iz (jj X.prog X.w) X.A (exec st X.env) (SP X pins D) X.xe s
def PSs (X:Cx) (st:List Stmt) (t:TS):Prop :=
 ∀(pins:List (Addr×Obj)) (s:χ) (σ:St) (H:Hp) (D:Ends),Inv X pins σ H s->t D σ H->iz (jj X.prog X.w) X.A (execs st X.env) (SP X pins D) X.xe s
theorem thn{α : Type}{t:Sem α}{Q Q' : α->χ->Prop}{M:Model}{A:mj}{E:Value->χ->Prop}{s:χ}(h:iz M A t Q E s)(hQ:∀a s,Q a s->Q' a s):iz M A t Q' E s:=mh h hQ fun _ _ x=>x
section
variable {X:Cx}
inductive aLe (i:Nat) (σ:St) (H:Hp) (Q:VK):Prop|mk:∀v,σ[i]?=some (some v)->Q v H->aLe i σ H Q
def aBi (i:Nat):TE:=fun σ H Q=>aLe i σ H Q
def tC (v:V):TE:=fun _ H Q=>Q v H
theorem aPz{i:Nat}(hN:X.N[i]?=some x)(hv:Vis X.env.scope x)(hd:(x == ("__debug__" : Str))=false:=by decide)(hcd:(x == ("__classdict__" : Str))=false:=by decide):PE X (.Name x pos) (aBi i):=by
 intro pins s σ H Q I h;obtain⟨v,e,h⟩:=h;obtain⟨m,hn,hl⟩:=I.loc;obtain⟨u,r,l⟩:=hl i x v hN e hv;have fin:EP X pins σ Q u s:=⟨v,H,I,r,h⟩;rcases l with⟨hk,hm⟩|⟨hk,c,hc,hcell⟩
 ·exact wpAny_Name (wpAny_loadName_local I.ok.kind hk hn hm fin) hd
 ·rcases hk with hk|hk
  ·exact wpAny_Name (wpAny_loadName_cell I.ok.kind hk hc hcell fin) hd
  ·exact wpAny_Name (wpAny_loadName_free I.ok.kind hk hc hcell fin hcd) hd
theorem jD{i j pos}: PE X (.Constant (.int i) j pos) (tC (.int i)):=fun _ _ _ H _ I h=>wpAny_Constant_int ⟨.int i,H,I.tok _,⟨_,rfl⟩,h⟩
theorem cO{b j pos}: PE X (.Constant (.bool b) j pos) (tC (.bl b)):=fun _ _ _ H _ I h=>Constant_bool ⟨.bl b,H,I,rfl,h⟩
theorem vA{j pos}: PE X (.Constant .none j pos) (tC .non):=fun _ _ _ H _ I h=>Constant_none ⟨.non,H,I,rfl,h⟩
theorem jO{x j pos}: PE X (.Constant (.str x) j pos) (tC (.str x)):=fun _ _ _ H _ I h=>Calls.Constant_str ⟨.str x,H,I.tok _,⟨_,rfl⟩,h⟩
def Gl (X:Cx) (x:Str):Prop:=X.env.kindOf x=some .globalImplicit
theorem uD{Q:Value->χ->Prop}(I:Inv X pins σ H s)(hg:Gl X x)(hm:X.mg x=some u)(h:Q u s)
  (hd:(x == ("__debug__" : Str))=false:=by decide):iz (jj X.prog X.w) X.A (eval (.Name x pos) X.env) Q E s :=
 Calls.Name_function_global I.ok.kind hg (Calls.loadGlobal_global (by rw[I.ok.glob];exact I.mod.glob.keeps I.bk) hm h) hd
theorem pE{Q:Value->χ->Prop}(I:Inv X pins σ H s)(hg:Gl X x)(hm:X.mg x=none)(hv:oe x=some u)(h:Q u s)
  (hn:x ≠ "__name__":=by decide)(hd:(x == ("__debug__" : Str))=false:=by decide):iz (jj X.prog X.w) X.A (eval (.Name x pos) X.env) Q E s:=by
 obtain⟨mb,h1,h2⟩:=I.mod.blt;exact Calls.Name_function_global I.ok.kind hg (Calls.loadGlobal_builtin (by rw[I.ok.glob];exact I.mod.glob.keeps I.bk) hm (by rw[I.ok.blt];exact h1.keeps I.bk) ((h2 x hn).trans hv) h) hd
theorem vD(hg:Gl X x)(hm:X.mg x=some u)(r:RelV v u)(hd:(x == ("__debug__" : Str))=false:=by decide):PE X (.Name x pos) (tC v) :=
 fun _ _ _ H _ I h=>uD I hg hm ⟨v,H,I,r,h⟩ hd
theorem qM(hg:Gl X x)(hm:X.mg x=none)(hv:oe x=some u)(r:RelV v u)(hn:x ≠ "__name__":=by decide)(hd:(x == ("__debug__" : Str))=false:=by decide):PE X (.Name x pos) (tC v) :=
 fun _ _ _ H _ I h=>pE I hg hm hv ⟨v,H,I,r,h⟩ hn hd
variable {a b:Expr}{ta tb:TE}{pos:Pos}
def PC (X:Cx) (op:CmpOp) (a b:Expr) (t:TE):Prop :=
 ∀(pins:List (Addr×Obj)) (s:χ) (σ:St) (H:Hp) (Q:VK),Inv X pins σ H s->t σ H Q →
  iz (jj X.prog X.w) X.A (eval a X.env) (fun v s₁=>iz (jj X.prog X.w) X.A (eval b X.env) (fun u s₂=>iz (jj X.prog X.w) X.A (lh op v u) (EP X pins σ Q) X.xe s₂) X.xe s₁) X.xe s
theorem aAt(b:Expr){op:CmpOp}(h:op≠.In)(h2:op≠.NotIn):qv op b=false:=by
 have e1:(op == CmpOp.In)=false:=by cases op <;> first|rfl|exact absurd rfl h
 have e2:(op == CmpOp.NotIn)=false:=by cases op <;> first|rfl|exact absurd rfl h2
 cases b <;> simp[qv,e1,e2]
def tB (t:TE):TT:=fun σ H Q=>t σ H fun x H1=>∃c,x=.bl c/\Q c H1
theorem aRt(h:PC X op a b t)(h1:qv op b=false:=by first|exact aAt _ (by decide) (by decide)|rfl):PE X (.Compare a [op] [b] pos) t:=fun pins s σ H Q I hw=>wpAny_Compare1 (h pins s σ H Q I hw) h1
theorem aQs(h:PC X op a b t)(h1:qv op b=false:=by first|exact aAt _ (by decide) (by decide)|rfl):PT X (.Compare a [op] [b] pos) (tB t):=by
 intro pins s σ H Q I hw;refine wpAny_isTrue_Compare1 (thn (h pins s σ H _ I hw) fun v s1 h1=>thn h1 fun u s2 h2=>thn h2 fun c s3 zq=>?_) h1;obtain⟨x,H1,I1,r1,q1⟩:=zq;obtain⟨d,rfl,q⟩:=q1;cases r1;exact lq ⟨H1,I1,q⟩
theorem kR(h:PE X e t)(he:∀whole,isTrue e X.env whole=(do let v ←whole;standAt e.pos;holding [v] (truthy v)):=by intro _;rfl):PT X e (tB t):=by
 intro pins s σ H Q I hw;refine isTrue_plain (thn (h pins s σ H _ I hw) fun v s1 zq=>?_) (he _);obtain⟨x,H1,I1,r1,q1⟩:=zq;obtain⟨d,rfl,q⟩:=q1;cases r1;exact lq ⟨H1,I1,q⟩
variable {tA tB':TT}{rest:List Expr}
def tAnd (t u:TT):TT:=fun σ H Q=>t σ H fun c H1=>if c=true then u σ H1 Q else Q false H1
def tOr (t u:TT):TT:=fun σ H Q=>t σ H fun c H1=>if c=true then Q true H1 else u σ H1 Q
def tNot (t:TT):TT:=fun σ H Q=>t σ H fun c H1=>Q (!c) H1
theorem yJ(ha:PT X a tA):PW X (.BoolOp .And [a] pos) tA:=by
 intro wh pins s σ H Q I h;refine isTrue_and (thn (ha pins s σ H Q I h) fun c s1 e=>?_);cases c with
 |true=>exact isTrue_and_nil e
 |false=>exact e
theorem yA(ha:PT X a tA):PW X (.BoolOp .Or [a] pos) tA:=by
 intro wh pins s σ H Q I h;refine isTrue_or (thn (ha pins s σ H Q I h) fun c s1 e=>?_);cases c with
 |false=>exact isTrue_or_nil e
 |true=>exact e
theorem zJ(ha:PT X a tA)(hb:PW X (.BoolOp .And (b::rest) pos) tB'):PW X (.BoolOp .And (a::b::rest) pos) (tAnd tA tB'):=by
 intro wh pins s σ H Q I h;refine isTrue_and (thn (ha pins s σ H _ I h) fun c s1 zq=>?_);obtain⟨H1,I1,q1⟩:=zq;cases c with
 |true=>exact hb wh pins s1 σ H1 Q I1 q1
 |false=>exact⟨H1,I1,q1⟩
theorem yP(ha:PT X a tA)(hb:PW X (.BoolOp .Or (b::rest) pos) tB'):PW X (.BoolOp .Or (a::b::rest) pos) (tOr tA tB'):=by
 intro wh pins s σ H Q I h;refine isTrue_or (thn (ha pins s σ H _ I h) fun c s1 zq=>?_);obtain⟨H1,I1,q1⟩:=zq;cases c with
 |true=>exact⟨H1,I1,q1⟩
 |false=>exact hb wh pins s1 σ H1 Q I1 q1
theorem vL(ha:PT X a tA):PT X (.UnaryOp .Not a pos) (tNot tA):=by
 intro pins s σ H Q I h;exact isTrue_not (ha pins s σ H (fun c H1=>Q (!c) H1) I h)
def tAndV (ta tb:TE):TE:=fun σ H Q=>ta σ H fun x H1=>∃c,x=.bl c/\if c=true then tb σ H1 Q else Q (.bl false) H1
def tOrV (ta tb:TE):TE:=fun σ H Q=>ta σ H fun x H1=>∃c,x=.bl c/\if c=true then Q (.bl true) H1 else tb σ H1 Q
def tNotV (ta:TE):TE:=fun σ H Q=>ta σ H fun x H1=>∃c,x=.bl c/\Q (.bl (!c)) H1
theorem xP{op}(h:PE X a t):PE X (.BoolOp op [a] pos) t:=fun pins s σ H Q I hw=>BoolOp_one (h pins s σ H Q I hw)
theorem vY(ha:PE X a ta)(hb:PE X (.BoolOp .And (b::rest) pos) tb):PE X (.BoolOp .And (a::b::rest) pos) (tAndV ta tb):=by
 intro pins s σ H Q I h;refine BoolOp_and (thn (ha pins s σ H _ I h) fun v s1 zq=>?_);obtain⟨x,H1,I1,r1,q1⟩:=zq;obtain⟨c,rfl,q1⟩:=q1;cases r1;refine lq ?_;cases c with
 |true=>exact hb pins s1 σ H1 Q I1 q1
 |false=>exact⟨.bl false,H1,I1,rfl,q1⟩
theorem pe_or(ha:PE X a ta)(hb:PE X (.BoolOp .Or (b::rest) pos) tb):PE X (.BoolOp .Or (a::b::rest) pos) (tOrV ta tb):=by
 intro pins s σ H Q I h;refine BoolOp_or (thn (ha pins s σ H _ I h) fun v s1 zq=>?_);obtain⟨x,H1,I1,r1,q1⟩:=zq;obtain⟨c,rfl,q1⟩:=q1;cases r1;refine lq ?_;cases c with
 |false=>exact hb pins s1 σ H1 Q I1 q1
 |true=>exact⟨.bl true,H1,I1,rfl,q1⟩
theorem aJl(ha:PE X a ta):PE X (.UnaryOp .Not a pos) (tNotV ta):=by
 intro pins s σ H Q I h;refine UnaryOp_ (thn (ha pins s σ H _ I h) fun v s1 zq=>?_);obtain⟨x,H1,I1,r1,q1⟩:=zq;obtain⟨c,rfl,q1⟩:=q1;cases r1;exact not_of (lq ⟨.bl (!c),H1,I1,rfl,q1⟩)
def tIf (t:TT) (ta tb:TE):TE:=fun σ H Q=>t σ H fun c H1=>if c=true then ta σ H1 Q else tb σ H1 Q
theorem oE(hc:PT X c tA)(ha:PE X a ta)(hb:PE X b tb):PE X (.IfExp c a b pos) (tIf tA ta tb):=by
 intro pins s σ H Q I h;refine wpAny_IfExp (thn (hc pins s σ H _ I h) fun d s1 zq=>?_);obtain⟨H1,I1,q1⟩:=zq;cases d with
 |true=>exact ha pins s1 σ H1 Q I1 q1
 |false=>exact hb pins s1 σ H1 Q I1 q1
end
def SqL (K:ς) (H:Hp) (a:Addr) (xs:List V):Prop :=
 Rd H a (.lst xs) ∨
  ∃(o:Obj) (its:Array Value) (n:Nat),K.lookup a=some o/\o.cls=.type "list"/\o.dict=none/\o.data=.seq its n/\its.size<=τ/\kJ xs its.toList
def SqT (K:ς) (H:Hp) (a:Addr) (xs:List V):Prop :=
 Rd H a (.tup xs) ∨
  ∃(o:Obj) (its:Array Value) (n:Nat),K.lookup a=some o/\o.cls=.type "tuple"/\o.data=.seq its n/\its.size<=τ/\kJ xs its.toList
def absV:Value->Option V
 |.none=>some .non
 |.bool b=>some (.bl b)
 |.int i _=>some (.int i)
 |.str x _=>some (.str x)
 |.bytes b _=>some (.byt b)
 |.float b _=>some (.flt b)
 |.ref a=>some (.ref a)
 |.type n=>some (.ty n)
 |_=>none
theorem RelV.abs(r:RelV x u):absV u=some x:=by
 cases x with
 |non=>cases r;rfl
 |bl _=>cases r;rfl
 |int _=>obtain⟨t,rfl⟩:=r;rfl
 |str _=>obtain⟨t,rfl⟩:=r;rfl
 |byt _=>obtain⟨t,rfl⟩:=r;rfl
 |flt _=>obtain⟨t,rfl⟩:=r;rfl
 |ref _=>cases r;rfl
 |ty _=>cases r;rfl
theorem RelV.inj(r:RelV x u)(q:RelV y u):x=y:=jv (r.abs.symm.trans q.abs)
theorem kJ.inj:∀{xs ys:List V}{us:List Value},kJ xs us->kJ ys us->xs=ys
 |_,_,_,.nil,.nil=>rfl
 |_,_,_,.cons r t,.cons r' t'=>by rw[r.inj r',kJ.inj t t']
section
variable {X:Cx}{pins:List (Addr×Obj)}{σ:St}{H:Hp}{s:χ}{a:Addr}{xs ys:List V}
theorem SqL.of{K:ς}(h:H a=some (.lst xs)):SqL K H a xs:=.inl (.inl h)
theorem SqT.of{K:ς}(h:H a=some (.tup xs)):SqT K H a xs:=.inl (.inl h)
theorem Inv.list(I:Inv X pins σ H s)(h:SqL X.K H a xs):∃its:List Value,kJ xs its/\PlainL s.heap a its.toArray/\xs.length<=τ:=by
 rcases h with h|⟨o,its,n,hk,hc,hd,hs,hz,r⟩
 ·obtain⟨z,its,n,r,e⟩:=h.ok I.hok;exact⟨its,r,⟨_,n,e,rfl,rfl,rfl⟩,z⟩
 ·refine⟨its.toList,r,⟨o,n,I.kIn a o hk,hc,hd,by simpa using hs⟩,?_⟩;have e:=r.length;simp only[lj]at e;omega
theorem Inv.tuple(I:Inv X pins σ H s)(h:SqT X.K H a xs):∃its:List Value,kJ xs its/\IsTup s.heap a its.toArray/\xs.length<=τ:=by
 rcases h with h|⟨o,its,n,hk,hc,hs,hz,r⟩
 ·obtain⟨z,its,r,p⟩:=h.ok I.hok;exact⟨its,r,p,z⟩
 ·refine⟨its.toList,r,⟨o,I.kIn a o hk,hc,n,by simpa using hs⟩,?_⟩;have e:=r.length;simp only[lj]at e;omega
theorem Inv.list_inj(I:Inv X pins σ H s)(h:SqL X.K H a xs)(h':SqL X.K H a ys):xs=ys:=by
 obtain⟨its,r,⟨o,n,e,_,_,d⟩,_⟩:=I.list h;obtain⟨its',r',⟨o',n',e',_,_,d'⟩,_⟩:=I.list h';rw[e]at e';cases e';rw[d]at d';injection d' with d1 _;have:its=its':=by simpa using congrArg Array.toList d1
 subst this;exact r.inj r'
theorem Inv.tuple_inj(I:Inv X pins σ H s)(h:SqT X.K H a xs)(h':SqT X.K H a ys):xs=ys:=by
 obtain⟨its,r,⟨o,e,_,n,d⟩,_⟩:=I.tuple h;obtain⟨its',r',⟨o',e',_,n',d'⟩,_⟩:=I.tuple h';rw[e]at e';cases e';rw[d]at d';injection d' with d1 _;have:its=its':=by simpa using congrArg Array.toList d1
 subst this;exact r.inj r'
end
abbrev Cx.wish (X:Cx) (E:Value->χ->Prop):Cx:={ X with xe:=E }
abbrev Cx.nox (X:Cx):Cx:=X.wish fun _ _=>False
theorem Cx.Ok.wish{X:Cx}(ok:X.Ok)(E:Value->χ->Prop):(X.wish E).Ok :=
 ⟨ok.mod,ok.kind,ok.glob,ok.blt,ok.above,ok.inj,ok.has,ok.cab,ok.hd,ok.frames,ok.stk,ok.exf,ok.bs,ok.bsz,ok.noex,ok.exfs,ok.funs,ok.frf⟩
theorem Cx.Ok.unwish{X:Cx}(ok:(X.wish E).Ok):X.Ok :=
 ⟨ok.mod,ok.kind,ok.glob,ok.blt,ok.above,ok.inj,ok.has,ok.cab,ok.hd,ok.frames,ok.stk,ok.exf,ok.bs,ok.bsz,ok.noex,ok.exfs,ok.funs,ok.frf⟩
section
variable {X:Cx}{pins:List (Addr×Obj)}{σ:St}{H:Hp}{s:χ}{E:Value->χ->Prop}
theorem Inv.wish(I:Inv X pins σ H s)(E:Value->χ->Prop):Inv (X.wish E) pins σ H s:=⟨I.ok.wish E,I.os,I.bare,I.base,I.loc,I.cell,I.free,I.freeC,I.pin,I.hok,I.len⟩
theorem Inv.unwish(I:Inv (X.wish E) pins σ H s):Inv X pins σ H s:=⟨I.ok.unwish,I.os,I.bare,I.base,I.loc,I.cell,I.free,I.freeC,I.pin,I.hok,I.len⟩
theorem SP.unwish(h:SP (X.wish E) pins D f s'):SP X pins D f s':=by
 cases f with
 |next=>obtain⟨σ',H',I,q⟩:=h;exact⟨σ',H',I.unwish,q⟩
 |brk=>obtain⟨σ',H',I,q⟩:=h;exact⟨σ',H',I.unwish,q⟩
 |cont=>obtain⟨σ',H',I,q⟩:=h;exact⟨σ',H',I.unwish,q⟩
 |ret u=>obtain⟨v,σ',H',I,r,q⟩:=h;exact⟨v,σ',H',I.unwish,r,q⟩
theorem PE.nox(h:PE X.nox e t):PE X e t:=fun pins s σ H Q I hw =>
 mh (h pins s σ H Q (I.wish _) hw) (fun _ _ zq=>zq.el fun v H' I' r q=>⟨v,H',I'.unwish,r,q⟩) fun _ _ z=>ke z
theorem PT.nox(h:PT X.nox e t):PT X e t:=fun pins s σ H Q I hw =>
 mh (h pins s σ H Q (I.wish _) hw) (fun _ _ ⟨H',I',q⟩=>⟨H',I'.unwish,q⟩) fun _ _ z=>ke z
theorem PSs.nox{st:List Stmt}{t:TS}(h:PSs X.nox st t):PSs X st t:=fun pins s σ H D I hw =>
 mh (h pins s σ H D (I.wish _) hw) (fun _ _ q=>q.unwish) fun _ _ z=>ke z
end
section
variable {X:Cx}{st:Stmt}{rest:List Stmt}{t u:TS}{e:Expr}{te:TE}{pos:Pos}
def tNext:TS:=fun D σ H=>D.nx σ H
def vH (t u:TS):TS:=fun D σ H=>t { D with nx:=u D } σ H
theorem jL:PSs X [] tNext:=fun _ _ σ H _ I h=>wpAny_execs_nil ⟨σ,H,I,h⟩
theorem jE(h1:PS X st t)(h2:PSs X rest u):PSs X (st::rest) (vH t u):=by
 intro pins s σ H D I h;refine wpAny_execs_cons (thn (h1 pins s σ H { D with nx:=u D } I h) fun f s1 q=>?_);cases f with
 |next =>
  obtain⟨σ',H',I',q⟩:=q;exact h2 pins s1 σ' H' D I' q
 |ret v=>exact q
 |brk=>exact q
 |cont=>exact q
theorem jC(h1:PS X st t):PSs X [st] t:=by
 intro pins s σ H D I h;refine wpAny_execs_cons (thn (h1 pins s σ H D I h) fun f s1 q=>?_);cases f with
 |next=>exact wpAny_execs_nil q
 |ret v=>exact q
 |brk=>exact q
 |cont=>exact q
theorem Inv.quiet(I:Inv X pins σ H s):interactive X.env=false:=by simp[interactive,I.ok.kind]
def tDrop (te:TE):TS:=fun D σ H=>te σ H fun _ H1=>D.nx σ H1
theorem vM(he:PE X e te)(hs:swapsWith e none pos.line X.env=pure false:=by rfl):PS X (.Expr e pos) (tDrop te):=by
 intro pins s σ H D I h;exact wpAny_Expr_any (thn (he pins s σ H _ I h) fun v s1 zq=>zq.el fun x H1 I1 r1 q1=>⟨σ,H1,I1,q1⟩) I.quiet hs
def tRet (te:TE):TS:=fun D σ H=>te σ H D.rt
theorem jI(he:PE X e te):PS X (.Return (some e) pos) (tRet te):=by
 intro pins s σ H D I h;exact wpAny_Return_some (thn (he pins s σ H _ I h) fun v s1 zq=>zq.el fun x H1 I1 r1 q1=>⟨x,σ,H1,I1,r1,q1⟩)
def aKn (c:TT) (t u:TS):TS:=fun D σ H=>c σ H fun b H1=>if b=true then t D σ H1 else u D σ H1
theorem jV(hc:PT X c tc)(ha:PSs X a t)(hb:PSs X b u):PS X (.If c a b pos) (aKn tc t u):=by
 intro pins s σ H D I h;refine wpAny_If (thn (hc pins s σ H _ I h) fun d s1 zq=>?_);obtain⟨H1,I1,q1⟩:=zq;cases d with
 |true=>exact ha pins s1 σ H1 D I1 q1
 |false=>exact hb pins s1 σ H1 D I1 q1
def aRh:TS:=fun _ _ _=>False
theorem qY:PS X st aRh:=fun _ _ _ _ _ _ h=>h.elim
end
abbrev TG:=V->St->Hp->(St->Hp->Prop)->Prop
abbrev TGs:=List V->St->Hp->(St->Hp->Prop)->Prop
def PG (X:Cx) (target:Expr) (t:TG):Prop :=
 ∀(pins:List (Addr×Obj)) (s:χ) (σ:St) (H:Hp) (v:V) (u:Value) (Q:St->Hp->Prop),Inv X pins σ H s->RelV v u->t v σ H Q →
  iz (jj X.prog X.w) X.A (assign target X.env u) (fun _ s'=>∃σ' H',Inv X pins σ' H' s'/\Q σ' H') X.xe s
def PGs (X:Cx) (ts:List Expr) (t:TGs):Prop :=
 ∀(pins:List (Addr×Obj)) (s:χ) (σ:St) (H:Hp) (vs:List V) (us:List Value) (Q:St->Hp->Prop),Inv X pins σ H s->kJ vs us->t vs σ H Q →
  iz (jj X.prog X.w) X.A (assignInOrder ((uw ts X.env).map (·.2)) us) (fun _ s'=>∃σ' H',Inv X pins σ' H' s'/\Q σ' H') X.xe s
abbrev TSet:=V->V->V->Hp->(Hp->Prop)->Prop
def PSet (X:Cx) (t:TSet):Prop :=
 ∀(pins:List (Addr×Obj)) (s:χ) (σ:St) (H:Hp) (o i v:V) (ov iv u:Value) (Q:Hp->Prop),Inv X pins σ H s->RelV o ov->RelV i iv->RelV v u->t o i v H Q →
  iz (jj X.prog X.w) X.A (setItem ov iv u) (fun _ s'=>∃H',Inv X pins σ H' s'/\Q H') X.xe s
section
variable {X:Cx}{pos:Pos}
def yC (i:Nat):TG:=fun v σ H Q=>Q (σ.set i (some v)) H
theorem uR{i:Nat}(hN:X.N.Nodup)(hi:X.N[i]?=some x)(hx:Loc X.env.scope x)(hf:X.fn x=true\/X.env.scope.names.lookup x=some .local:=by first|exact .inl rfl|exact .inr rfl|assumption):PG X (.Name x pos) (yC i):=by
 intro pins s σ H v u Q I r h;exact wpAny_assign_Name (aBc I hN hi hx r (fun s' I'=>⟨_,H,I',h⟩) hf)
inductive aKd (vs:List V) (σ:St) (H:Hp) (Q:St->Hp->Prop):Prop|mk:vs=[]->Q σ H->aKd vs σ H Q
def gNil:TGs:=fun vs σ H Q=>aKd vs σ H Q
inductive aGl (t:TG) (u:TGs) (vs:List V) (σ:St) (H:Hp) (Q:St->Hp->Prop):Prop|mk:∀v r,vs=v::r->(t v σ H fun σ' H'=>u r σ' H' Q)->aGl t u vs σ H Q
def gCons (t:TG) (u:TGs):TGs:=fun vs σ H Q=>aGl t u vs σ H Q
theorem qQ:PGs X [] gNil:=by
 intro pins s σ H vs us Q I r h;obtain⟨e,h⟩:=h;subst e;cases r;exact assignInOrder_nil ⟨σ,H,I,h⟩
theorem kH(h1:PG X e t)(h2:PGs X es u)
  (hs:(uw (e::es) X.env).map (·.2)=assign e X.env::(uw es X.env).map (·.2):=by rfl):PGs X (e::es) (gCons t u):=by
 intro pins s σ H vs us Q I r h;obtain⟨v,vr,e1,h⟩:=h;subst e1;cases r with
 |cons r rr =>
  rw[hs];refine assignInOrder_cons (thn (h1 pins s σ H _ _ _ I r h) fun _ s1 zq=>?_);obtain⟨σ1,H1,I1,q1⟩:=zq;exact h2 pins s1 σ1 H1 _ _ Q I1 rr q1
inductive aKc (K:ς) (n:Nat) (t:TGs) (v:V) (σ:St) (H:Hp) (Q:St->Hp->Prop):Prop|mk:∀a xs,v=.ref a->SqT K H a xs->xs.length=n->t xs σ H Q->aKc K n t v σ H Q
def gTup (K:ς) (n:Nat) (t:TGs):TG:=fun v σ H Q=>aKc K n t v σ H Q
theorem xL{n:Nat}(hc:X.calm=true)(h:PGs X es t)
  (hn:(uw es X.env).length=n:=by rfl)(hst:(uw es X.env).findIdx? (·.1)=none:=by rfl):PG X (.Tuple es k pos) (gTup X.K n t):=by
 intro pins s σ H v u Q I r hw;obtain⟨a,xs,e1,hq,hl,hw⟩:=hw;subst e1;cases r;obtain⟨its,rv,ht,hz⟩:=I.tuple hq;refine assign_Tuple_tuple (I.ok.hd hc) ht (by simp[hn,←hl,rv.length]) hst fun h' hx=>?_;have I1:Inv X pins σ H { s with heap:=h' }:=I.kept (t':=s.toks) fun b o e=>hx b o (ji (ik e)) e;exact h pins _ σ H xs _ Q I1 (by simpa using rv) hw
def gSub (to ti:TE) (t:TSet):TG:=fun v σ H Q=>to σ H fun o H1=>ti σ H1 fun i H2=>t o i v H2 fun H3=>Q σ H3
theorem wT(ho:PE X o to)(hi:PE X i ti)(hs:PSet X t)
  (ha:∀v,assign (.Subscript o i pos) X.env v=(do
   let ov ←holding [v] (eval o X.env)
   let iv ←holding [v,ov] (eval i X.env)
   standAt pos
   holding [v,ov,iv] (setItem ov iv v)
   release [v,ov,iv] []):=by intro _;rfl):PG X (.Subscript o i pos) (gSub to ti t):=by
 intro pins s σ H v u Q I r h;rw[ha];refine ψ (qf (thn (ho pins s σ H _ I h) fun ov s1 zq=>?_));obtain⟨x,H1,I1,r1,q1⟩:=zq;refine ψ (qf (thn (hi pins s1 σ H1 _ I1 q1) fun iv s2 zq=>?_));obtain⟨y,H2,I2,r2,q2⟩:=zq;refine ψ (wpAny_standAt (ψ (qf (thn (hs pins s2 σ H2 x y v ov iv u _ I2 r1 r2 r q2) fun _ s3 zq=>?_))));obtain⟨H3,I3,q3⟩:=zq;exact wpAny_release ⟨σ,H3,I3,q3⟩
def aJk (te:TE) (g:TG):TS:=fun D σ H=>te σ H fun x H1=>g x σ H1 D.nx
theorem eI(he:PE X e te)(hg:PG X tg g)(hs:swapsWithSole [tg] e pos.line X.env=pure false:=by rfl)(hw:swappedStores [tg] e X.env=pure none:=by rfl)
  (h1:(uw [tg] X.env).map (·.2)=[assign tg X.env]:=by rfl):PS X (.Assign [tg] e pos) (aJk te g):=by
 intro pins s σ H D I h;refine wpAny_Assign_stores (thn (he pins s σ H _ I h) fun v s1 zq=>?_) hs hw;obtain⟨x,H1,I1,r1,q1⟩:=zq;rw[h1];exact thn (hg pins s1 σ H1 x v _ I1 r1 q1) fun _ s2 q=>q
theorem aEt{i:Nat}(hN:X.N.Nodup)(hi:X.N[i]?=some x)(hx:Loc X.env.scope x)(he:PE X e te)(hs:swapsWith e (some (.Name x pos')) pos.line X.env=pure false:=by rfl)(hf:X.fn x=true\/X.env.scope.names.lookup x=some .local:=by first|exact .inl rfl|exact .inr rfl|assumption):
  PS X (.Assign [.Name x pos'] e pos) (aJk te (yC i)):=by
 intro pins s σ H D I h;refine wpAny_Assign_Name (thn (he pins s σ H _ I h) fun v s1 zq=>?_) hs;obtain⟨y,H1,I1,r1,q1⟩:=zq;exact aBc I1 hN hi hx r1 (fun s2 I2=>⟨_,H1,I2,q1⟩) hf
end
section
variable {X:Cx}{pos:Pos}
def aLx (c:TT) (tb:TS):TS:=fun D σ H=>∃W:Nat->St->Hp->Prop,(∃m,W m σ H)/\∀m σ H,W m σ H →
 c σ H fun b H1=>if b=true then ∃N:St->Hp->Prop,(∀σ' H',N σ' H'->∃m',m'<m/\W m' σ' H')/\tb { D with nx:=N,ct:=N,bk:=D.nx } σ H1 else D.nx σ H1
theorem aBv(hp:PassesOwn (jj X.prog X.w) X.A X.env X.xe)(hc:PT X c tc)(hb:PSs X body tb):PS X (.While c body [] pos) (aLx tc tb):=by
 intro pins s σ H D I h;obtain⟨W,⟨m0,w0⟩,turn⟩:=h;refine wpAny_While (codeAny_whileLoop (fun n s'=>∃σ' H',Inv X pins σ' H' s'/\W n σ' H') ?_ m0 ⟨σ,H,I,w0⟩);rintro n s1 ⟨σ1,H1,I1,w1⟩;refine qq hp (thn (hc pins s1 σ1 H1 _ I1 (turn n σ1 H1 w1)) fun b s2 zq=>?_);obtain⟨H2,I2,q2⟩:=zq;cases b with
 |true =>
  obtain⟨N,hN,q2⟩:=q2;rw[if_pos rfl];refine qq hp (thn (hb pins s2 σ1 H2 _ I2 q2) fun f s3 q3=>?_);cases f with
  |next =>
   obtain⟨σ3,H3,I3,n3⟩:=q3;obtain⟨m',hm,w3⟩:=hN σ3 H3 n3;exact⟨m',hm,σ3,H3,I3,w3⟩
  |cont =>
   obtain⟨σ3,H3,I3,n3⟩:=q3;obtain⟨m',hm,w3⟩:=hN σ3 H3 n3;exact⟨m',hm,σ3,H3,I3,w3⟩
  |brk=>exact q3
  |ret v=>exact q3
 |false =>
  rw[if_neg π];exact wpAny_execs_nil ⟨σ1,H2,I2,q2⟩
end
structure It where
 go:Nat->Hp->Prop
 yld:Nat->Hp->V->Hp->Prop
 stop:Nat->Hp->Prop
def iA (X:Cx) (pins:List (Addr×Obj)) (H:Hp) (b:Addr):Prop :=
 H b=none/\b≠X.env.locals/\b∉X.fs/\(b∈X.ex\/X.s₀.heap.objs.size<=b)/\(∀x c,X.env.cells.lookup x=some c->c≠b)/\∀p∈X.pn++pins,p.1≠b
theorem Inv.fpOk{H':Hp}{b:Addr}(I:Inv X pins σ H s)(hb:s.heap.objs.size<=b)(hn:H' b=none):iA X pins H' b:=by
 refine⟨hn,Nat.ne_of_gt (ω I.lt hb),I.nofs hb,.inr (iq I.sz hb),fun x c e z=>?_,fun p hp z=>?_⟩
 ·obtain⟨v,q⟩:=I.cell x c e;exact absurd (ω q.lt (by rw[z];exact hb)) (oy _)
 ·exact absurd (ω (ik (I.pin p hp).1) (by rw[z];exact hb)) (oy _)
structure Turn (P:lu) (w:my) (K:ς) (tg:Expr) (J:It) (fp:List Addr) (it:Addr) (tn:Nat->nc->Prop):Prop where
 mem:it∈fp
 obj:∀i h,tn i h->∀b∈fp,∃o,h.get? b=some o/\∀v,o.data≠.cell v
 keep:∀i h h',tn i h->(∀b∈fp,∀o,h.get? b=some o->h'.get? b=some o)->tn i h'
 item:∀(X:Cx),X.prog=P->X.w=w->X.K=K->X.calm=true->∀(i:Nat) (pins:List (Addr×Obj)) (s:χ) (σ:St) (H:Hp) (E:Value->χ->Prop),Inv X pins σ H s->(∀b∈fp,iA X pins H b)->tn i s.heap->J.go i H →
  iz (jj P w) X.A (pyNext (.ref it)) (fun r s1=>∃u,r=some u ∧
   iz (jj P w) X.A (ul tg (.ref it) u) (fun _ s2=>∃x H',Inv X pins σ H' s2/\RelV x u/\J.yld i H x H'/\tn (i+1) s2.heap/\∀b∈fp,H' b=none) E s1) E s
 done:∀(X:Cx),X.prog=P->X.w=w->X.K=K->X.calm=true->∀(i:Nat) (pins:List (Addr×Obj)) (s:χ) (σ:St) (H:Hp) (E:Value->χ->Prop),Inv X pins σ H s->(∀b∈fp,iA X pins H b)->tn i s.heap->J.stop i H →
  iz (jj P w) X.A (pyNext (.ref it)) (fun r s1=>r=none/\Inv X pins σ H s1) E s
 self:∀(A:mj) (i:Nat) (s:χ) (Q:Value->χ->Prop) (E:Value->χ->Prop),tn i s.heap->Q (.ref it) s->iz (jj P w) A (pyIter (.ref it)) Q E s
abbrev TI:=St->Hp->(It->Hp->Prop)->Prop
def PIE (X:Cx) (pins:List (Addr×Obj)) (σ:St) (tg:Expr) (R:It->Hp->Prop) (itv:Value) (s2:χ):Prop :=
 ∃(it:Addr) (fp:List Addr) (tn:Nat->nc->Prop) (J:It) (H':Hp),itv=.ref it/\Inv X pins σ H' s2/\Turn X.prog X.w X.K tg J fp it tn/\tn 0 s2.heap/\(∀b∈fp,iA X pins H' b)/\R J H'
def PI (X:Cx) (tg iter:Expr) (wi:TI):Prop :=
 ∀(pins:List (Addr×Obj)) (s:χ) (σ:St) (H:Hp) (R:It->Hp->Prop),Inv X pins σ H s->wi σ H R →
  iz (jj X.prog X.w) X.A (eval iter X.env) (fun v s1=>iz (jj X.prog X.w) X.A (pyIter v) (PIE X pins σ tg R) X.xe s1) X.xe s
theorem aGg{s:χ}{it:Addr}{Q:Unit->χ->Prop}(ho:s.heap.get? it=some o)(hc:o.cls=.type n)(hd:o.data=.fields vs)
  (hn : ["enumerate","zip","dict_itemiterator","dict_reverseitemiterator","odict_iterator","itertools.zip_longest","itertools.pairwise"].contains n=false)(hQ:Q () s):iz M A (ul tg (.ref it) u) Q E s:=by
 unfold ul;cases tg <;> first
  |exact io hQ
  | (cases u <;> first
      |exact io hQ
      | (refine ψ (wpAny_load ho ?_)
         rw[hc,hd];show iz M A (if (["enumerate","zip","dict_itemiterator","dict_reverseitemiterator","odict_iterator","itertools.zip_longest","itertools.pairwise"].contains n&&vs[0]? == some (rawInt _))=true then _ else _) Q E s;rw[if_neg (by intro h;rw[hn,qh]at h;cases h)];exact io hQ))
def Itl (K:ς) (a:Addr):It :=
 ⟨fun i H=>∃xs x,SqL K H a xs/\xs[i]?=some x,fun i H x H'=>H'=H/\∀xs,SqL K H a xs->xs[i]?=some x,fun i H=>∃xs,SqL K H a xs/\xs.length<=i⟩
def Itt (K:ς) (a:Addr):It :=
 ⟨fun i H=>∃xs x,SqT K H a xs/\xs[i]?=some x,fun i H x H'=>H'=H/\∀xs,SqT K H a xs->xs[i]?=some x,fun i H=>∃xs,SqT K H a xs/\xs.length<=i⟩
def Itr (lo:Int) (n:Nat):It:=⟨fun i _=>i<n,fun i H x H'=>H'=H/\x=.int (lo+i),fun i _=>n<=i⟩
theorem sL{K:ς}(a it:Addr):Turn P w K tg (Itl K a) [it] it (fun i h=>h.IsListIter it a i) where
 mem:=by simp
 obj:=fun i h st b hb=>by
  have e:b=it:=by simpa using hb
  subst e;obtain⟨o,e,c,d⟩:=st;exact⟨o,e,fun v z=>by rw[d]at z;cases z⟩
 keep:=fun i h h' st k=>st.at fun o e=>k it (by simp) o e
 item:=by
  intro X hP hw hK hc i pins s σ H E I hf st hg;subst hP hw hK;obtain⟨xs,x,hq,hx⟩:=hg;obtain⟨its,rv,p,hz⟩:=I.list hq;obtain⟨u,hu,ru⟩:=rv.get hx;obtain⟨f0,f1,f2,f3,f4,f5⟩:=hf it (by simp);refine wpAny_pyNext_list_item st p.isList (x:=u) (by simpa using hu) fun h' st' sb=>?_;have I1:Inv X pins σ H { s with heap:=h' }:=I.turned (t':=s.toks) (fun b o hb e=>(sb.2 b hb).trans e) f0 f1 f3 f4 f5;obtain⟨o,e,c,d⟩:=id st';exact⟨u,rfl,aGg (s:={ s with heap:=h' }) e c d (by decide) ⟨x,H,I1,ru,⟨rfl,fun ys hy=>by rw[I.list_inj hy hq];exact hx⟩,st',fun b hb=>(hf b hb).1⟩⟩
 done:=by
  intro X hP hw hK hc i pins s σ H E I hf st hg;subst hP hw hK;obtain⟨xs,hq,hx⟩:=hg;obtain⟨its,rv,p,hz⟩:=I.list hq;obtain⟨f0,f1,f2,f3,f4,f5⟩:=hf it (by simp);have hl:=rv.length;exact wpAny_pyNext_list_end (I.ok.hd hc) st p.isList (by simp;omega) fun h' eb=>⟨rfl,I.turned (t':=s.toks) (fun b o hb e=>eb b o hb e) f0 f1 f3 f4 f5⟩
 self:=fun _ _ _ _ _ st h=>wpAny_pyIter_listiter st h
theorem pR{K:ς}(a it:Addr):Turn P w K tg (Itt K a) [it] it (fun i h=>h.IsTupleIter it a i) where
 mem:=by simp
 obj:=fun i h st b hb=>by
  have e:b=it:=by simpa using hb
  subst e;obtain⟨o,e,c,d⟩:=st;exact⟨o,e,fun v z=>by rw[d]at z;cases z⟩
 keep:=fun i h h' st k=>st.at fun o e=>k it (by simp) o e
 item:=by
  intro X hP hw hK hc i pins s σ H E I hf st hg;subst hP hw hK;obtain⟨xs,x,hq,hx⟩:=hg;obtain⟨its,rv,p,hz⟩:=I.tuple hq;obtain⟨u,hu,ru⟩:=rv.get hx;obtain⟨f0,f1,f2,f3,f4,f5⟩:=hf it (by simp);refine wpAny_pyNext_tuple_item st (show s.heap.IsTuple a its.toArray from p) (x:=u) (by simpa using hu) fun h' st' sb=>?_;have I1:Inv X pins σ H { s with heap:=h' }:=I.turned (t':=s.toks) (fun b o hb e=>(sb.2 b hb).trans e) f0 f1 f3 f4 f5;obtain⟨o,e,c,d⟩:=id st';exact⟨u,rfl,aGg (s:={ s with heap:=h' }) e c d (by decide) ⟨x,H,I1,ru,⟨rfl,fun ys hy=>by rw[I.tuple_inj hy hq];exact hx⟩,st',fun b hb=>(hf b hb).1⟩⟩
 done:=by
  intro X hP hw hK hc i pins s σ H E I hf st hg;subst hP hw hK;obtain⟨xs,hq,hx⟩:=hg;obtain⟨its,rv,p,hz⟩:=I.tuple hq;obtain⟨f0,f1,f2,f3,f4,f5⟩:=hf it (by simp);have hl:=rv.length;exact wpAny_pyNext_tuple_end (I.ok.hd hc) st (show s.heap.IsTuple a its.toArray from p) (by simp;omega) fun h' eb=>⟨rfl,I.turned (t':=s.toks) (fun b o hb e=>eb b o hb e) f0 f1 f3 f4 f5⟩
 self:=fun _ _ _ _ _ st h=>wpAny_pyIter_tupleiter st h
theorem aFk{K:ς}(it:Addr)(lo:Int)(n:Nat):Turn P w K tg (Itr lo n) [it] it (fun i h=>IsRangeIter h it (lo+(i:Nat)*1) ((n:Int)-(i:Nat)) 1) where
 mem:=by simp
 obj:=fun i h st b hb=>by
  have e:b=it:=by simpa using hb
  subst e;exact⟨_,st,fun v z=>by
   have z':Data.fields _=Data.cell v:=z;cases z'⟩
 keep:=fun i h h' st k=>k it (by simp) _ st
 item:=by
  intro X hP hw hK hc i pins s σ H E I hf st hg;subst hP hw hK;obtain⟨f0,f1,f2,f3,f4,f5⟩:=hf it (by simp);have W:=Walks.range (prog:=X.prog) (w:=X.w) (I.ok.hd hc) it lo 1 n;refine W.item i s _ _ hg st fun v h' tk hv st' kk=>?_;obtain⟨t,rfl⟩:=hv;have I1:Inv X pins σ H { s with heap:=h',toks:=tk }:=I.turned (fun b o hb e=>kk b o (by simpa using hb) e) f0 f1 f3 f4 f5;refine⟨_,rfl,aGg (s:={ s with heap:=h',toks:=tk }) (n:="range_iterator") st' rfl rfl (by decide) ⟨.int (lo+i),H,I1,⟨t,?_⟩,⟨rfl,rfl⟩,st',fun b hb=>(hf b hb).1⟩⟩;rw[Int.mul_one]
 done:=by
  intro X hP hw hK hc i pins s σ H E I hf st hg;subst hP hw hK;obtain⟨f0,f1,f2,f3,f4,f5⟩:=hf it (by simp);exact wpAny_pyNext_range_end (I.ok.hd hc) st (by have:n<=i:=hg;omega) fun h' eb=>⟨rfl,I.turned (t':=s.toks) (fun b o hb e=>eb b o hb e) f0 f1 f3 f4 f5⟩
 self:=fun _ _ _ _ _ st h=>wpAny_pyIter_rangeiter st h
section
variable {X:Cx}{tg:Expr}
inductive aHj (K:ς) (R:It->Hp->Prop) (x:V) (H1:Hp):Prop|mk:∀a,x=.ref a->((∃xs,SqL K H1 a xs))->R (Itl K a) H1->aHj K R x H1
def iList (K:ς) (tl:TE):TI:=fun σ H R=>tl σ H fun x H1=>aHj K R x H1
def iTup (K:ς) (tl:TE):TI:=fun σ H R=>tl σ H fun x H1=>∃a,x=.ref a/\(∃xs,SqT K H1 a xs)/\R (Itt K a) H1
theorem qK(hl:PE X l tl):PI X tg l (iList X.K tl):=by
 intro pins s σ H R I h;refine thn (hl pins s σ H _ I h) fun v s1 zq=>?_;obtain⟨x,H1,I1,r1,q1⟩:=zq;obtain⟨a,e,⟨xs,hq⟩,q⟩:=q1;subst e;cases r1;obtain⟨its,rv,p,hz⟩:=I1.list hq;refine wpAny_pyIter_list p.isList ?_;refine⟨s1.heap.objs.size,[s1.heap.objs.size],_,_,H1,rfl,I1.kept (t':=s1.toks) fun b o e=>Θ _ e,sL a _,⟨_,jb _ rfl,rfl,rfl⟩,fun b hb=>?_,q⟩;have e:b=s1.heap.objs.size:=by simpa using hb
 subst e;exact I1.fpOk (ξ _) (I1.hok.fresh (ξ _))
theorem xQ(hl:PE X l tl):PI X tg l (iTup X.K tl):=by
 intro pins s σ H R I h;refine thn (hl pins s σ H _ I h) fun v s1 zq=>?_;obtain⟨x,H1,I1,r1,q1⟩:=zq;obtain⟨a,e,⟨xs,hq⟩,q⟩:=q1;subst e;cases r1;obtain⟨its,rv,p,hz⟩:=I1.tuple hq;refine wpAny_pyIter_tuple (show s1.heap.IsTuple a its.toArray from p) ?_;refine⟨s1.heap.objs.size,[s1.heap.objs.size],_,_,H1,rfl,I1.kept (t':=s1.toks) fun b o e=>Θ _ e,pR a _,⟨_,jb _ rfl,rfl,rfl⟩,fun b hb=>?_,q⟩;have e:b=s1.heap.objs.size:=by simpa using hb
 subst e;exact I1.fpOk (ξ _) (I1.hok.fresh (ξ _))
theorem aJx{s:χ}{R:It->Hp->Prop}{lo hi:Int}{tk:Nat}(I:Inv X pins σ H s)(h1 : -(2 ^ 62)<=lo)(h2:lo<2 ^ 62)(h3 : -(2 ^ 62)<=hi)(h4:hi<2 ^ 62)
  (q:R (Itr lo (hi-lo).toNat) H):iz (jj X.prog X.w) X.A (pyIter (.ref s.heap.objs.size)) (PIE X pins σ tg R) E { s with heap:=s.heap.push { cls:=.type "range",data:=.fields #[.int lo t,.int hi u,.int 1 v] },toks:=tk }:=by
 refine wpAny_pyIter_range (IsRange.new ..) (small_one h1 h2 h3 h4) ?_;have I1:Inv X pins σ H { s with heap:=s.heap.push { cls:=.type "range",data:=.fields #[.int lo t,.int hi u,.int 1 v] },toks:=tk }:=I.kept fun b o e=>Θ _ e;refine⟨(s.heap.push { cls:=.type "range",data:=.fields #[.int lo t,.int hi u,.int 1 v] }).objs.size,[(s.heap.push { cls:=.type "range",data:=.fields #[.int lo t,.int hi u,.int 1 v] }).objs.size],_,_,H,rfl,
  I1.kept (t':=tk) fun b o e=>Θ _ e,aFk _ lo (hi-lo).toNat,?_,fun b hb=>?_,q⟩
 ·have e1:lo+((0:Nat):Int)*1=lo:=by simp
  have e2:(((hi-lo).toNat:Nat):Int)-((0:Nat):Int)=si.Range.rangeSize lo hi 1:=by rw[rangeSize_one];split <;> omega
  show IsRangeIter _ _ (lo+((0:Nat):Int)*1) ((((hi-lo).toNat:Nat):Int)-((0:Nat):Int)) 1;rw[e1,e2];exact jb _ rfl
 ·have e:b=(s.heap.push { cls:=.type "range",data:=.fields #[.int lo t,.int hi u,.int 1 v] }).objs.size:=by simpa using hb
  subst e;exact I1.fpOk (ξ _) (I1.hok.fresh (ξ _))
inductive aHa (R:It->Hp->Prop) (vs:List V) (H1:Hp):Prop|mk:∀j:Int,vs=[.int j]->-(2 ^ 62)<=j->j<2 ^ 62->R (Itr 0 j.toNat) H1->aHa R vs H1
def iRng1 (ta:TA):TI:=fun σ H R=>ta σ H fun vs H1=>aHa R vs H1
theorem vI{a:Expr}(hg:Gl X "range")(hm:X.mg "range" = none)(ha:PA X [a] ta)(hs:jk [a] X.env=[(false,eval a X.env)]:=by rfl):PI X tg (.Call (.Name "range" p) [a] [] pos) (iRng1 ta):=by
 intro pins s σ H R I h;refine Call_ (pE I hg hm boot_range (tq (thn (ha pos pins s σ H _ I h) fun us s1 zq=>?_) hs rfl));obtain⟨vs,H1,I1,r1,q1⟩:=zq;obtain⟨j,e,q1,q2,q⟩:=q1;subst e;cases r1 with
 |cons r rr =>
  cases rr;obtain⟨t,rfl⟩:=r;exact call_range_1 (aJx I1 (by omega) (by omega) q1 q2 (by simpa using q))
def tFor (wi:TI) (g:TG) (tb:TS):TS:=fun D σ H=>wi σ H fun J H1=>∃W:Nat->Nat->St->Hp->Prop,(∃m,W 0 m σ H1)/\∀i m σ H,W i m σ H →
 (J.stop i H/\D.nx σ H)\/(J.go i H/\∃N:St->Hp->Prop,(∀σ' H',N σ' H'->∃m',m'<m/\W (i+1) m' σ' H')/\∀x H',J.yld i H x H'->g x σ H' fun σ2 H2=>tb { D with nx:=N,ct:=N,bk:=D.nx } σ2 H2)
def cU (fp:List Addr) (h:nc):List (Addr×Obj):=fp.filterMap fun b=>(h.get? b).map fun o=>(b,o)
theorem yD{fp:List Addr}{h:nc}{b:Addr}(hb:b∈fp)(e:h.get? b=some o):(b,o)∈cU fp h:=List.mem_filterMap.mpr ⟨b,hb,by rw[e];rfl⟩
theorem aIt{p:Addr×Obj}(hp:p∈cU fp h):p.1∈fp/\h.get? p.1=some p.2:=by
 obtain⟨b,hb,e⟩:=List.mem_filterMap.mp hp;cases q:h.get? b with
 |none=>rw[q]at e;cases e
 |some o =>
  rw[q]at e;have e':(b,o)=p:=jv e;subst e';exact⟨hb,q⟩
theorem Inv.pinned{fp:List Addr}(I:Inv X pins σ H s)(hf:∀b∈fp,iA X pins H b)(ho:∀b∈fp,∃o,s.heap.get? b=some o/\∀v,o.data≠.cell v):Inv X (pins++cU fp s.heap) σ H s :=
 I.pins_of fun p hp=>(je.mp hp).elim (fun z=>I.pin p (ia _ z)) fun z=>by
  obtain⟨hb,e⟩:=aIt z;obtain⟨f0,f1,f2,_⟩:=hf p.1 hb;obtain⟨o,e',d⟩:=ho p.1 hb;rw[e]at e';cases e';exact⟨e,f0,f1,f2,d⟩
theorem Inv.unpinned{pins pl:List (Addr×Obj)}(I:Inv X (pins++pl) σ H s):Inv X pins σ H s:=I.pins_of fun p hp=>I.pin p (ia _ (iu _ hp))
theorem qZ(hp:PassesOwn (jj X.prog X.w) X.A X.env X.xe)(hc:X.calm=true)(hi:PI X tg iter wi)(hg:PG X tg g)(hb:PSs X body tb)
  (hs:∀x,foldedSetIterable iter X.env x=pure x:=by intro _;rfl):PS X (.For tg iter body [] pos) (tFor wi g tb):=by
 intro pins s σ H D I h;refine wpAny_For (thn (hi pins s σ H _ I h) fun v s1 h1=>thn h1 fun itv s2 h2=>?_) hs;obtain⟨it,fp,tn,J,H2,e,I2,T,st2,f2,W,⟨m0,w0⟩,turn⟩:=h2;subst e;have stat:∀{H':Hp},(∀b∈fp,H' b=none)->∀b∈fp,iA X pins H' b:=fun hn b hb=>⟨hn b hb,(f2 b hb).2⟩;refine codeAny_forLoop_any (fun n s'=>∃i σ' H',Inv X pins σ' H' s'/\tn i s'.heap/\(∀b∈fp,H' b=none)/\W i n σ' H') ?_ m0 ⟨0,σ,H2,I2,st2,fun b hb=>(f2 b hb).1,w0⟩;rintro n s3 ⟨i,σ3,H3,I3,st3,fr3,w3⟩;rcases turn i n σ3 H3 w3 with⟨stop,qn⟩|⟨go,N,hN,step⟩
 ·refine qq hp (thn (T.done X rfl rfl rfl hc i pins s3 σ3 H3 X.xe I3 (stat fr3) st3 stop) fun r s4 zq=>?_);obtain⟨hr,I4⟩:=zq;subst hr;exact wpAny_execs_nil ⟨σ3,H3,I4,qn⟩
 ·refine qq hp (thn (T.item X rfl rfl rfl hc i pins s3 σ3 H3 X.xe I3 (stat fr3) st3 go) fun r s4 zq=>?_);obtain⟨u,hr,h4⟩:=zq;subst hr;refine qq hp (thn h4 fun _ s5 zq=>?_);obtain⟨x,H5,I5,r5,y5,st5,fr5⟩:=zq;have I5':=I5.pinned (stat fr5) (T.obj _ _ st5);refine qq hp (thn (hg _ s5 σ3 H5 x u _ I5' r5 (step x H5 y5)) fun _ s6 zq=>?_);obtain⟨σ6,H6,I6,q6⟩:=zq;refine qq hp (thn (hb _ s6 σ6 H6 _ I6 q6) fun f s7 q7=>?_);have again:∀{σ7:St}{H7:Hp},Inv X (pins++cU fp s5.heap) σ7 H7 s7->N σ7 H7->∃m,m<n/\∃i σ' H',Inv X pins σ' H' s7/\tn i s7.heap/\(∀b∈fp,H' b=none)/\W i m σ' H':=fun {σ7 H7} I7 n7=>by
   obtain⟨m',hm,w7⟩:=hN σ7 H7 n7;refine⟨m',hm,i+1,σ7,H7,I7.unpinned,T.keep _ _ _ st5 fun b hb o e=>(I7.pin (b,o) (ia _ (ia _ (yD hb e)))).1,fun b hb=>?_,w7⟩;obtain⟨o,e,d⟩:=T.obj _ _ st5 b hb;exact(I7.pin (b,o) (ia _ (ia _ (yD hb e)))).2.1
  cases f with
  |next=>obtain⟨σ7,H7,I7,n7⟩:=q7;exact again I7 n7
  |cont=>obtain⟨σ7,H7,I7,n7⟩:=q7;exact again I7 n7
  |brk=>obtain⟨σ7,H7,I7,q7⟩:=q7;exact⟨σ7,H7,I7.unpinned,q7⟩
  |ret v=>obtain⟨x7,σ7,H7,I7,r7,q7⟩:=q7;exact⟨x7,σ7,H7,I7.unpinned,r7,q7⟩
end
theorem xI{K:ς}{xs:List V}{g:TG}{tb:TS}{D:Ends}{σ:St}(Pv:Nat->St->Hp->Prop)(h0:Pv 0 σ H)(hl:∀i σ H,i<=xs.length->Pv i σ H->SqL K H a xs)
  (hs:∀i x σ H,xs[i]?=some x->Pv i σ H->LpL (let D2:Ends:={ D with nx:=Pv (i+1),ct:=Pv (i+1),bk:=D.nx };g x σ H fun σ2 H2=>tb D2 σ2 H2))(hd:∀σ H,Pv xs.length σ H->D.nx σ H):
  ∃W:Nat->Nat->St->Hp->Prop,(∃m,W 0 m σ H)/\∀i m σ H,W i m σ H →
   ((Itl K a).stop i H/\D.nx σ H)\/((Itl K a).go i H/\∃N:St->Hp->Prop,(∀σ' H',N σ' H'->∃m',m'<m/\W (i+1) m' σ' H')/\∀x H',(Itl K a).yld i H x H'->g x σ H' fun σ2 H2=>tb { D with nx:=N,ct:=N,bk:=D.nx } σ2 H2):=by
 refine⟨fun i m σ H=>m=xs.length-i/\i<=xs.length/\Pv i σ H,⟨xs.length,by simp,ij _,h0⟩,?_⟩;rintro i m σ H ⟨rfl,hi,p⟩;have q:=hl i σ H hi p
 by_cases hlt:i<xs.length
 ·refine .inr ⟨⟨xs,xs[i],q,by simp[hlt]⟩,Pv (i+1),fun σ' H' p'=>⟨xs.length-(i+1),by omega,rfl,hlt,p'⟩,fun x H' y=>?_⟩;obtain⟨e,y⟩:=y;subst e;exact hs i x σ _ (y xs q) p
 ·have e:i=xs.length:=by omega
  subst e;exact .inl ⟨⟨xs,q,ξ _⟩,hd σ H p⟩
theorem eK{K:ς}{xs:List V}{g:TG}{tb:TS}{D:Ends}{σ:St}(Pv:Nat->St->Hp->Prop)(h0:Pv 0 σ H)(hl:∀i σ H,i<=xs.length->Pv i σ H->SqT K H a xs)
  (hs:∀i x σ H,xs[i]?=some x->Pv i σ H->LpL (let D2:Ends:={ D with nx:=Pv (i+1),ct:=Pv (i+1),bk:=D.nx };g x σ H fun σ2 H2=>tb D2 σ2 H2))(hd:∀σ H,Pv xs.length σ H->D.nx σ H):
  ∃W:Nat->Nat->St->Hp->Prop,(∃m,W 0 m σ H)/\∀i m σ H,W i m σ H →
   ((Itt K a).stop i H/\D.nx σ H)\/((Itt K a).go i H/\∃N:St->Hp->Prop,(∀σ' H',N σ' H'->∃m',m'<m/\W (i+1) m' σ' H')/\∀x H',(Itt K a).yld i H x H'->g x σ H' fun σ2 H2=>tb { D with nx:=N,ct:=N,bk:=D.nx } σ2 H2):=by
 refine⟨fun i m σ H=>m=xs.length-i/\i<=xs.length/\Pv i σ H,⟨xs.length,by simp,ij _,h0⟩,?_⟩;rintro i m σ H ⟨rfl,hi,p⟩;have q:=hl i σ H hi p
 by_cases hlt:i<xs.length
 ·refine .inr ⟨⟨xs,xs[i],q,by simp[hlt]⟩,Pv (i+1),fun σ' H' p'=>⟨xs.length-(i+1),by omega,rfl,hlt,p'⟩,fun x H' y=>?_⟩;obtain⟨e,y⟩:=y;subst e;exact hs i x σ _ (y xs q) p
 ·have e:i=xs.length:=by omega
  subst e;exact .inl ⟨⟨xs,q,ξ _⟩,hd σ H p⟩
theorem bA{lo:Int}{n:Nat}{g:TG}{tb:TS}{D:Ends}{σ:St}(Pv:Nat->St->Hp->Prop)(h0:Pv 0 σ H)
  (hs:∀i σ H,i<n->Pv i σ H->LpL (let D2:Ends:={ D with nx:=Pv (i+1),ct:=Pv (i+1),bk:=D.nx };g (.int (lo+i)) σ H fun σ2 H2=>tb D2 σ2 H2))(hd:∀σ H,Pv n σ H->D.nx σ H):
  ∃W:Nat->Nat->St->Hp->Prop,(∃m,W 0 m σ H)/\∀i m σ H,W i m σ H →
   ((Itr lo n).stop i H/\D.nx σ H)\/((Itr lo n).go i H/\∃N:St->Hp->Prop,(∀σ' H',N σ' H'->∃m',m'<m/\W (i+1) m' σ' H')/\∀x H',(Itr lo n).yld i H x H'->g x σ H' fun σ2 H2=>tb { D with nx:=N,ct:=N,bk:=D.nx } σ2 H2):=by
 refine⟨fun i m σ H=>m=n-i/\i<=n/\Pv i σ H,⟨n,by simp,ij _,h0⟩,?_⟩;rintro i m σ H ⟨rfl,hi,p⟩
 by_cases hlt:i<n
 ·refine .inr ⟨hlt,Pv (i+1),fun σ' H' p'=>⟨n-(i+1),by omega,rfl,hlt,p'⟩,fun x H' y=>?_⟩;obtain⟨e,y⟩:=y;subst e y;exact hs i σ _ hlt p
 ·have e:i=n:=by omega
  subst e;exact .inl ⟨ξ _,hd σ H p⟩
theorem aMi{c:TT}{tb:TS}{D:Ends}{σ:St}(Pv:St->Hp->Prop)(μ : St->Hp->Nat)(h0:Pv σ H)
  (hs:∀σ H,Pv σ H->c σ H fun b H1=>if b=true then tb { D with nx:=fun σ' H'=>Pv σ' H'/\μ σ' H'<μ σ H,ct:=fun σ' H'=>Pv σ' H'/\μ σ' H'<μ σ H,bk:=D.nx } σ H1 else D.nx σ H1)
  (mono:∀σ H Q Q',(∀b H1,Q b H1->Q' b H1)->c σ H Q->c σ H Q'):aLx c tb D σ H:=by
 refine⟨fun m σ H=>m = μ σ H/\Pv σ H,⟨_,rfl,h0⟩,?_⟩;rintro m σ H ⟨rfl,p⟩;refine mono σ H _ _ (fun b H1 q=>?_) (hs σ H p);cases b with
 |true=>exact⟨_,fun σ' H' ⟨p',l⟩=>⟨_,l,rfl,p'⟩,q⟩
 |false=>exact q
abbrev R2:=V->V->Hp->VK->Prop
def OpR (X:Cx) (f:Value->Value->Sem Value) (r:R2):Prop :=
 ∀(pins:List (Addr×Obj)) (s:χ) (σ:St) (H:Hp) (x y:V) (v u:Value) (Q:VK),Inv X pins σ H s->RelV x v->RelV y u->r x y H Q →
  iz (jj X.prog X.w) X.A (f v u) (EP X pins σ Q) X.xe s
def UnR (X:Cx) (f:Value->Sem Value) (r:V->Hp->VK->Prop):Prop :=
 ∀(pins:List (Addr×Obj)) (s:χ) (σ:St) (H:Hp) (x:V) (v:Value) (Q:VK),Inv X pins σ H s->RelV x v->r x H Q →
  iz (jj X.prog X.w) X.A (f v) (EP X pins σ Q) X.xe s
def vR (X:Cx) (f:Value) (r:List V->Hp->VK->Prop):Prop :=
 ∀(pins:List (Addr×Obj)) (s:χ) (σ:St) (H:Hp) (xs:List V) (us:List Value) (Q:VK),Inv X pins σ H s->kJ xs us->r xs H Q →
  iz (jj X.prog X.w) X.A (call f us) (EP X pins σ Q) X.xe s
def TruR (X:Cx) (r:V->Hp->(Bool->Hp->Prop)->Prop):Prop :=
 ∀(pins:List (Addr×Obj)) (s:χ) (σ:St) (H:Hp) (x:V) (v:Value) (Q:Bool->Hp->Prop),Inv X pins σ H s->RelV x v->r x H Q →
  iz (jj X.prog X.w) X.A (truthy v) (TP X pins σ Q) X.xe s
def tOp (r:R2) (ta tb:TE):TE:=fun σ H Q=>ta σ H fun x H1=>tb σ H1 fun y H2=>r x y H2 Q
def tUn (r:V->Hp->VK->Prop) (ta:TE):TE:=fun σ H Q=>ta σ H fun x H1=>r x H1 Q
inductive rI_i (C:Int->Int->Prop) (g:Int->Int->V) (x:V) (y:V) (H:Hp) (Q:VK):Prop|mk:∀i j,x=.int i->y=.int j->C i j->Q (g i j) H->rI_i C g x y H Q
def rI (C:Int->Int->Prop) (g:Int->Int->V):R2:=fun x y H Q=>rI_i C g x y H Q
inductive aPn (g:Int->Int->V) (x:V) (y:V) (H:Hp) (Q:VK):Prop|mk:∀i j,x=.int i->y=.int j->Q (g i j) H->aPn g x y H Q
def rI0 (g:Int->Int->V):R2:=fun x y H Q=>aPn g x y H Q
def rU (g:Int->V):V->Hp->VK->Prop:=fun x H Q=>∃i,x=.int i/\Q (g i) H
section
variable {X:Cx}{a b c:Expr}{ta tb tc:TE}{pos:Pos}
theorem binT(ha:PE X a ta)(hb:PE X b tb){R:V->V->Hp->Prop}(I:Inv X pins σ H s)
  (h:ta σ H fun x H1=>tb σ H1 fun y H2=>R x y H2){f:Value->Value->Sem Value}
  (hf:∀v u s2 x y H2,Inv X pins σ H2 s2->RelV x v->RelV y u->R x y H2->iz (jj X.prog X.w) X.A (f v u) Q X.xe s2):
  iz (jj X.prog X.w) X.A (eval a X.env) (fun v s₁=>iz (jj X.prog X.w) X.A (eval b X.env) (fun u s₂=>iz (jj X.prog X.w) X.A (f v u) Q X.xe s₂) X.xe s₁) X.xe s:=by
 refine thn (ha pins s σ H _ I h) fun v s1 zq=>?_;obtain⟨x,H1,I1,r1,q1⟩:=zq;refine thn (hb pins s1 σ H1 _ I1 q1) fun u s2 zq=>?_;obtain⟨y,H2,I2,r2,q2⟩:=zq;exact hf v u s2 x y H2 I2 r1 r2 q2
theorem jW(ho:OpR X (qb op) r)(ha:PE X a ta)(hb:PE X b tb):PE X (.BinOp a op b pos) (tOp r ta tb):=by
 intro pins s σ H Q I h;exact wpAny_BinOp (binT ha hb I h fun v u s2 x y H2 I2 rx ry q=>ho pins s2 σ H2 x y v u Q I2 rx ry q)
theorem eB(ho:UnR X (unaryOp op) r)(ha:PE X a ta):PE X (.UnaryOp op a pos) (tUn r ta):=by
 intro pins s σ H Q I h;exact UnaryOp_ (thn (ha pins s σ H _ I h) fun v s1 zq=>zq.el fun x H1 I1 r1 q1=>ho pins s1 σ H1 x v Q I1 r1 q1)
theorem opI{f:Value->Value->Sem Value}{C:Int->Int->Prop}{g:Int->Int->Int}
  (rule:∀(i j:Int) (t u:Tok) (s:χ) (Q:Value->χ->Prop) (E:Value->χ->Prop),C i j->Q (.int (g i j) s.toks) { s with toks:=s.toks+1 }->iz (jj X.prog X.w) X.A (f (.int i t) (.int j u)) Q E s):
  OpR X f (rI C fun i j=>.int (g i j)):=by
 intro pins s σ H x y v u Q I rx ry h;obtain⟨i,j,rfl,rfl,hc,q⟩:=h;obtain⟨t,rfl⟩:=rx;obtain⟨t',rfl⟩:=ry;exact rule i j t t' s _ _ hc ⟨.int (g i j),H,I.tok _,⟨_,rfl⟩,q⟩
theorem opI0{f:Value->Value->Sem Value}{g:Int->Int->Int}
  (rule:∀(i j:Int) (t u:Tok) (s:χ) (Q:Value->χ->Prop) (E:Value->χ->Prop),Q (.int (g i j) s.toks) { s with toks:=s.toks+1 }->iz (jj X.prog X.w) X.A (f (.int i t) (.int j u)) Q E s):
  OpR X f (rI0 fun i j=>.int (g i j)):=by
 intro pins s σ H x y v u Q I rx ry h;obtain⟨i,j,rfl,rfl,q⟩:=h;obtain⟨t,rfl⟩:=rx;obtain⟨t',rfl⟩:=ry;exact rule i j t t' s _ _ ⟨.int (g i j),H,I.tok _,⟨_,rfl⟩,q⟩
theorem opB0{f:Value->Value->Sem Value}{g:Int->Int->Bool}
  (rule:∀(i j:Int) (t u:Tok) (s:χ) (Q:Value->χ->Prop) (E:Value->χ->Prop),Q (.bool (g i j)) s->iz (jj X.prog X.w) X.A (f (.int i t) (.int j u)) Q E s):
  OpR X f (rI0 fun i j=>.bl (g i j)):=by
 intro pins s σ H x y v u Q I rx ry h;obtain⟨i,j,rfl,rfl,q⟩:=h;obtain⟨t,rfl⟩:=rx;obtain⟨t',rfl⟩:=ry;exact rule i j t t' s _ _ ⟨.bl (g i j),H,I,rfl,q⟩
def CDiv (i j:Int):Prop:=0<j/\j<1073741824
def CPow (i j:Int):Prop:=0<=j/\j<=1000000/\i.natAbs<2 ^ 64
def CMul (i j:Int):Prop:=(-(2 ^ 64)<i/\i<2 ^ 64)\/(-(2 ^ 64)<j/\j<2 ^ 64)
theorem CMul.ok(h:CMul i j):IntMulOk i j:=by
 rcases h with⟨h1,h2⟩|⟨h1,h2⟩
 ·exact .of_left (intBits_le_64 h1 h2)
 ·exact .of_right (intBits_le_64 h1 h2)
theorem qG:OpR X (qb .Add) (rI0 fun i j=>.int (i+j)):=opI0 fun _ _ _ _ _ _ _ q=>add_int q
theorem yR:OpR X (qb .Sub) (rI0 fun i j=>.int (i-j)):=opI0 fun _ _ _ _ _ _ _ q=>sub_int q
theorem yF:OpR X (qb .Mult) (rI CMul fun i j=>.int (i*j)):=opI fun _ _ _ _ _ _ _ hc q=>mul_int q hc.ok
theorem aOq:OpR X (qb .FloorDiv) (rI CDiv fun i j=>.int (i / j)):=opI fun i j _ _ _ _ _ hc q=>by
 have h1:(0:Int)<j:=hc.1;have h2:j<1073741824:=hc.2;exact floordiv_int (by omega) (by rw[Int.fdiv_eq_ediv_of_nonneg i (by omega)];exact q) (.inl (PyProof.noPylong_small (by omega)))
theorem xO:OpR X (qb .Mod) (rI (fun _ j=>0<j) fun i j=>.int (i % j)):=opI fun i j _ _ _ _ _ hc q=>by
 have h1:(0:Int)<j:=hc;exact mod_int' (by omega) (by rw[Int.fmod_eq_emod_of_nonneg i (by omega)];exact q)
theorem aEn:OpR X (qb .Pow) (rI CPow fun i j=>.int (i ^ j.toNat)):=opI fun _ _ _ _ _ _ _ hc q=>pow_int_small hc.1 hc.2.1 hc.2.2 q
theorem uJ:OpR X (qb .LShift) (rI CPow fun i j=>.int (i*2 ^ j.toNat)):=opI fun _ _ _ _ _ _ _ hc q=>lshift_int_small hc.1 hc.2.1 hc.2.2 q
theorem unI{f:Value->Sem Value}{g:Int->Int}
  (rule:∀(i:Int) (t:Tok) (s:χ) (Q:Value->χ->Prop) (E:Value->χ->Prop),Q (.int (g i) s.toks) { s with toks:=s.toks+1 }->iz (jj X.prog X.w) X.A (f (.int i t)) Q E s):
  UnR X f (rU fun i=>.int (g i)):=by
 intro pins s σ H x v Q I rx h;obtain⟨i,rfl,q⟩:=h;obtain⟨t,rfl⟩:=rx;exact rule i t s _ _ ⟨.int (g i),H,I.tok _,⟨_,rfl⟩,q⟩
theorem zS:UnR X (unaryOp .USub) (rU fun i=>.int (-i)):=unI fun _ _ _ _ _ q=>neg_int q
end
def scal:V->V->Bool
 |.non,.non=>true | .non,.int _=>true | .int _,.non=>true | .non,.bl _=>true | .bl _,.non=>true | .non,.str _=>true | .str _,.non=>true
 |.int _,.int _=>true | .bl _,.bl _=>true | .str _,.str _=>true | .byt _,.byt _=>true
 |.int _,.str _=>true | .str _,.int _=>true | .bl _,.str _=>true | .str _,.bl _=>true
 |_,_=>false
inductive aPd (x:V) (y:V) (H:Hp) (Q:VK):Prop|mk:scal x y=true->Q (.bl (decide (x=y))) H->aPd x y H Q
def rEq:R2:=fun x y H Q=>aPd x y H Q
inductive aPl (x:V) (y:V) (H:Hp) (Q:VK):Prop|mk:scal x y=true->Q (.bl (!decide (x=y))) H->aPl x y H Q
def rNe:R2:=fun x y H Q=>aPl x y H Q
theorem aGf : decide (V.int i=V.int j)=(i == j):=by
 rw[px];simp
theorem aJm : decide (V.bl i=V.bl j)=(i == j):=by
 rw[px];simp
theorem aHr : decide (V.str i=V.str j)=(i == j):=by
 rw[px];simp
theorem aHn : decide (V.byt i=V.byt j)=(i.toList == j.toList):=by
 rw[px];cases i;cases j;simp
section
variable {X:Cx}{a b c:Expr}{ta tb tc:TE}{pos:Pos}
theorem qC{Q:VK}{k':Bool}(I:Inv X pins σ H s)(q:Q (.bl k) H)(e:k=k'):EP X pins σ Q (.bool k') s:=by
 subst e;exact⟨.bl k,H,I,rfl,q⟩
theorem kS:OpR X (lh .Eq) rEq:=by
 intro pins s σ H x y v u Q I rx ry h;obtain⟨hs,q⟩:=h;cases x with
 |non =>
  cases rx;cases y with
  |non=>cases ry;exact PySem.EqNone.eq_none_none (qC I q (by simp))
  |bl j=>cases ry;exact PySem.EqNone.eq_none_bool (qC I q (by simp))
  |int j=>obtain⟨t',rfl⟩:=ry;exact PySem.EqNone.eq_none_int (qC I q (by simp))
  |str j=>obtain⟨t',rfl⟩:=ry;exact PySem.EqNone.eq_none_str (qC I q (by simp))
  |_=>exact absurd (show false=true from hs) π
 |bl i =>
  cases rx;cases y with
  |non=>cases ry;exact PySem.EqNone.eq_bool_none (qC I q (by simp))
  |bl j=>cases ry;exact eq_bool (qC I q aJm)
  |str j=>obtain⟨t',rfl⟩:=ry;exact PySem.EqMixed.eq_bool_str (qC I q (by simp))
  |_=>exact absurd (show false=true from hs) π
 |int i =>
  obtain⟨t,rfl⟩:=rx;cases y with
  |non=>cases ry;exact PySem.EqNone.eq_int_none (qC I q (by simp))
  |int j=>obtain⟨t',rfl⟩:=ry;exact eq_int (qC I q aGf)
  |str j=>obtain⟨t',rfl⟩:=ry;exact PySem.EqMixed.eq_int_str (qC I q (by simp))
  |_=>exact absurd (show false=true from hs) π
 |str i =>
  obtain⟨t,rfl⟩:=rx;cases y with
  |non=>cases ry;exact PySem.EqNone.eq_str_none (qC I q (by simp))
  |bl j=>cases ry;exact PySem.EqMixed.eq_str_bool (qC I q (by simp))
  |int j=>obtain⟨t',rfl⟩:=ry;exact PySem.EqMixed.eq_str_int (qC I q (by simp))
  |str j=>obtain⟨t',rfl⟩:=ry;exact eq_str (qC I q aHr)
  |_=>exact absurd (show false=true from hs) π
 |byt i =>
  obtain⟨t,rfl⟩:=rx;cases y with
  |byt j=>obtain⟨t',rfl⟩:=ry;exact PySem.W.eq_bytes (qC I q aHn)
  |_=>exact absurd (show false=true from hs) π
 |_=>cases y <;> exact absurd (show false=true from hs) π
theorem yB:OpR X (lh .NotEq) rNe:=by
 intro pins s σ H x y v u Q I rx ry h;obtain⟨hs,q⟩:=h;cases x with
 |non =>
  cases rx;cases y with
  |non=>cases ry;exact PySem.EqNone.ne_none_none (qC I q (by simp))
  |bl j=>cases ry;exact PySem.EqNone.ne_none_bool (qC I q (by simp))
  |int j=>obtain⟨t',rfl⟩:=ry;exact PySem.EqNone.ne_none_int (qC I q (by simp))
  |str j=>obtain⟨t',rfl⟩:=ry;exact PySem.EqNone.ne_none_str (qC I q (by simp))
  |_=>exact absurd (show false=true from hs) π
 |bl i =>
  cases rx;cases y with
  |non=>cases ry;exact PySem.EqNone.ne_bool_none (qC I q (by simp))
  |bl j=>cases ry;exact ne_bool (qC I q (congrArg not aJm))
  |str j=>obtain⟨t',rfl⟩:=ry;exact PySem.EqMixed.ne_bool_str (qC I q (by simp))
  |_=>exact absurd (show false=true from hs) π
 |int i =>
  obtain⟨t,rfl⟩:=rx;cases y with
  |non=>cases ry;exact PySem.EqNone.ne_int_none (qC I q (by simp))
  |int j=>obtain⟨t',rfl⟩:=ry;exact ne_int (qC I q (congrArg not aGf))
  |str j=>obtain⟨t',rfl⟩:=ry;exact PySem.EqMixed.ne_int_str (qC I q (by simp))
  |_=>exact absurd (show false=true from hs) π
 |str i =>
  obtain⟨t,rfl⟩:=rx;cases y with
  |non=>cases ry;exact PySem.EqNone.ne_str_none (qC I q (by simp))
  |bl j=>cases ry;exact PySem.EqMixed.ne_str_bool (qC I q (by simp))
  |int j=>obtain⟨t',rfl⟩:=ry;exact PySem.EqMixed.ne_str_int (qC I q (by simp))
  |str j=>obtain⟨t',rfl⟩:=ry;exact ne_str (qC I q (congrArg not aHr))
  |_=>exact absurd (show false=true from hs) π
 |byt i =>
  obtain⟨t,rfl⟩:=rx;cases y with
  |byt j=>obtain⟨t',rfl⟩:=ry;exact PySem.W.ne_bytes (qC I q (congrArg not aHn))
  |_=>exact absurd (show false=true from hs) π
 |_=>cases y <;> exact absurd (show false=true from hs) π
theorem aLs:OpR X (lh .Lt) (rI0 fun i j=>.bl (decide (i<j))):=opB0 fun _ _ _ _ _ _ _ q=>lt_int q
theorem iB:OpR X (lh .LtE) (rI0 fun i j=>.bl (decide (i<=j))):=opB0 fun _ _ _ _ _ _ _ q=>le_int q
theorem cQ:OpR X (lh .Gt) (rI0 fun i j=>.bl (decide (j<i))):=opB0 fun _ _ _ _ _ _ _ q=>gt_int q
theorem aAs:OpR X (lh .GtE) (rI0 fun i j=>.bl (decide (j<=i))):=opB0 fun _ _ _ _ _ _ _ q=>ge_int q
theorem aHz:OpR X (lh .In) (fun x y H Q=>∃i j,x=.str i/\y=.str j/\Q (.bl (!(og j i 0 j.length 1).isEmpty)) H):=by
 intro pins s σ H x y v u Q I rx ry h;obtain⟨i,j,rfl,rfl,q⟩:=h;obtain⟨t,rfl⟩:=rx;obtain⟨t',rfl⟩:=ry;exact in_str (qC I q rfl)
theorem aFf:OpR X (lh .Is) (fun x y H Q=>y=.non/\Q (.bl (decide (x=.non))) H):=by
 intro pins s σ H x y v u Q I rx ry h;obtain⟨rfl,q⟩:=h;cases ry;refine is_none_gen (qC I q ?_);cases x <;> first
  | (cases rx;rfl)
  | (obtain⟨t,rfl⟩:=rx;rfl)
theorem nW:OpR X (lh .IsNot) (fun x y H Q=>y=.non/\Q (.bl (!decide (x=.non))) H):=by
 intro pins s σ H x y v u Q I rx ry h;obtain⟨rfl,q⟩:=h;cases ry;refine isnot_none_gen (qC I q ?_);cases x <;> first
  | (cases rx;rfl)
  | (obtain⟨t,rfl⟩:=rx;rfl)
theorem OpR.or{r r':R2}(h:OpR X f r)(h':OpR X f r'):OpR X f (fun x y H Q=>r x y H Q\/r' x y H Q):=by
 intro pins s σ H x y v u Q I rx ry q;rcases q with q|q
 ·exact h pins s σ H x y v u Q I rx ry q
 ·exact h' pins s σ H x y v u Q I rx ry q
theorem vX(b:Expr){op:CmpOp}(h:op≠.In:=by decide)(h2:op≠.NotIn:=by decide):qv op b=false:=by
 have e1:(op == CmpOp.In)=false:=by cases op <;> first|rfl|exact absurd rfl h
 have e2:(op == CmpOp.NotIn)=false:=by cases op <;> first|rfl|exact absurd rfl h2
 cases b <;> simp[qv,e1,e2]
theorem vC(ho:OpR X (lh op) r)(ha:PE X a ta)(hb:PE X b tb)(hm:qv op b=false):PE X (.Compare a [op] [b] pos) (tOp r ta tb):=by
 intro pins s σ H Q I h;exact wpAny_Compare1 (binT ha hb I h fun v u s2 x y H2 I2 rx ry q=>ho pins s2 σ H2 x y v u Q I2 rx ry q) hm
inductive aHf (Q:Bool->Hp->Prop) (x:V) (H':Hp):Prop|mk:∀k,x=.bl k->Q k H'->aHf Q x H'
def aKm (t:TE):TT:=fun σ H Q=>t σ H fun x H'=>aHf Q x H'
theorem nT(ho:OpR X (lh op) r)(ha:PE X a ta)(hb:PE X b tb)(hm:qv op b=false):PT X (.Compare a [op] [b] pos) (aKm (tOp r ta tb)):=by
 intro pins s σ H Q I h;refine wpAny_isTrue_Compare1 (thn (ha pins s σ H _ I h) fun v s1 zq=>zq.el fun x H1 I1 r1 q1=>thn (hb pins s1 σ H1 _ I1 q1) fun u s2 zq=>zq.el fun y H2 I2 r2 q2=>
  thn (ho pins s2 σ H2 x y v u _ I2 r1 r2 q2) fun c s3 ⟨z,H3,I3,r3,k,e,q3⟩=>?_) hm
 subst e;cases r3;exact lq ⟨H3,I3,q3⟩
def aMf (r r':R2) (ta tb tc:TE):TE:=fun σ H Q=>ta σ H fun x H1=>tb σ H1 fun y H2=>r x y H2 fun z H3=>∃k,z=.bl k ∧
 (if k=true then tc σ H3 fun w' H4=>r' y w' H4 Q else Q (.bl false) H3)
theorem aDv(ho:OpR X (lh op) r)(ho':OpR X (lh op') r')(ha:PE X a ta)(hb:PE X b tb)(hc:PE X c tc)
  (hm:lastMarks [op,op'] [b,c]=false:=by with_unfolding_all rfl):PE X (.Compare a [op,op'] [b,c] pos) (aMf r r' ta tb tc):=by
 intro pins s σ H Q I h;refine Compare_chain (thn (ha pins s σ H _ I h) fun v s1 zq=>zq.el fun x H1 I1 r1 q1=>chain_link (thn (hb pins s1 σ H1 _ I1 q1) fun u s2 zq=>zq.el fun y H2 I2 r2 q2=>
  thn (ho pins s2 σ H2 x y v u _ I2 r1 r2 q2) fun d s3 ⟨z,H3,I3,r3,k,e,q3⟩=>?_)) hm
 subst e;cases r3;refine lq ?_;cases k with
 |false=>exact ite_ff ⟨.bl false,H3,I3,rfl,q3⟩
 |true=>exact ite_tt (chain_last (thn (hc pins s3 σ H3 _ I3 q3) fun w' s4 zq=>zq.el fun z' H4 I4 r4 q4=>ho' pins s4 σ H4 y z' u w' Q I4 r2 r4 q4))
theorem aDy(ho:OpR X (lh op) r)(ho':OpR X (lh op') r')(ha:PE X a ta)(hb:PE X b tb)(hc:PE X c tc)
  (hm:lastMarks [op,op'] [b,c]=false:=by with_unfolding_all rfl):PT X (.Compare a [op,op'] [b,c] pos) (aKm (aMf r r' ta tb tc)):=by
 intro pins s σ H Q I h;refine isTrue_chain (thn (ha pins s σ H _ I h) fun v s1 zq=>zq.el fun x H1 I1 r1 q1=>test_link (thn (hb pins s1 σ H1 _ I1 q1) fun u s2 zq=>zq.el fun y H2 I2 r2 q2=>
  thn (ho pins s2 σ H2 x y v u _ I2 r1 r2 q2) fun d s3 ⟨z,H3,I3,r3,k,e,q3⟩=>?_)) hm
 subst e;cases r3;refine lq ?_;cases k with
 |false =>
  obtain⟨k',e',q'⟩:=q3;cases e';exact ite_ff ⟨H3,I3,q'⟩
 |true =>
  refine ite_tt (test_last (thn (hc pins s3 σ H3 _ I3 q3) fun w' s4 zq=>zq.el fun z' H4 I4 r4 q4=>thn (ho' pins s4 σ H4 y z' u w' _ I4 r2 r4 q4) fun d' s5 zq=>?_));obtain⟨z2,H5,I5,r5,k2,e2,q5⟩:=zq;subst e2;cases r5;exact lq ⟨H5,I5,q5⟩
def TruV (K:ς) (x:V) (H:Hp) (k:Bool):Prop :=
 match x with
 |.non=>k=false
 |.bl b=>k=b
 |.int i=>k=(i != 0)
 |.str y=>y.length<=τ/\k=((y.length:Int) != 0)
 |.byt y=>y.size<=τ/\k=((y.size:Int) != 0)
 |.ref p=>(∃xs,SqL K H p xs/\k = !xs.isEmpty)\/(∃xs,SqT K H p xs/\k = !xs.isEmpty)\/∃kvs,H p=some (.dK kvs)/\k = !kvs.isEmpty
 |_=>False
theorem aEi{κ : Type}{kvs:List (κ×V)}{vs:List (κ×Value)}(r:KV kvs vs):(!vs.isEmpty) = !kvs.isEmpty:=by
 cases r <;> rfl
theorem oC(r:kJ xs its):(!its.toArray.isEmpty) = !xs.isEmpty:=by
 cases r <;> simp
theorem fL:(τ:Nat)<2 ^ 63:=by rw[il];decide
theorem aQj:TruR X (fun x H Q=>∃k,TruV X.K x H k/\Q k H):=by
 intro pins s σ H x v Q I rx h;obtain⟨k,e,q⟩:=h;have hl:=fL;have hs:τ=16777216:=il;cases x with
 |non =>
  cases rx;have e':k=false:=e;subst e';exact truthy_none ⟨H,I,q⟩
 |bl b =>
  cases rx;have e':k=b:=e;subst e';exact lq ⟨H,I,q⟩
 |int i =>
  obtain⟨t,rfl⟩:=rx;have e':k=(i != 0):=e;subst e';exact PySem.P.truthy_int ⟨H,I,q⟩
 |str y =>
  obtain⟨t,rfl⟩:=rx;obtain⟨hy,e'⟩ : y.length<=τ/\k=((y.length:Int) != 0):=e;subst e';exact PySem.P.truthy_str (by omega) ⟨H,I.tok _,q⟩
 |byt y =>
  obtain⟨t,rfl⟩:=rx;obtain⟨hy,e'⟩ : y.size<=τ/\k=((y.size:Int) != 0):=e;subst e';exact PySem.W.truthy_bytes (by omega) ⟨H,I.tok _,q⟩
 |ref p =>
  cases rx;have e':(∃xs,SqL X.K H p xs/\k = !xs.isEmpty)\/(∃xs,SqT X.K H p xs/\k = !xs.isEmpty)\/∃kvs,H p=some (.dK kvs)/\k = !kvs.isEmpty:=e;rcases e' with⟨xs,hx,e'⟩|⟨xs,hx,e'⟩|⟨kvs,hx,e'⟩
  ·subst e';obtain⟨its,r,pl,hz⟩:=I.list hx;have hlen:=r.length;exact wpAny_truthy_list pl.isList (by simp only[Φ];omega) ⟨H,I.tok _,by rw[oC r];exact q⟩
  ·subst e';obtain⟨its,r,pl,hz⟩:=I.tuple hx;have hlen:=r.length;exact truthy_tuple pl (by simp only[Φ];omega) ⟨H,I.tok _,by rw[oC r];exact q⟩
  ·subst e';obtain⟨hz,hS,vs,r,m⟩ : kvs.length<=τ/\(p == jw)=false/\∃vs,KV kvs vs/\s.heap.DictOf (qN X.prog X.w) p vs:=I.hok p _ hx;have hlen:kvs.length=vs.length:=om r;exact wpAny_truthy_dict hS m (by omega) ⟨H,I.tok _,by rw[aEi r];exact q⟩
 |_=>exact(show False from e).elim
theorem dS(ha:PE X a ta)(he:∀whole,isTrue a X.env whole=(do let v ←whole;standAt a.pos;holding [v] (truthy v))):
  PT X a (fun σ H Q=>ta σ H fun x H'=>∃k,TruV X.K x H' k/\Q k H'):=by
 intro pins s σ H Q I h;exact isTrue_plain (thn (ha pins s σ H _ I h) fun v s1 zq=>zq.el fun x H1 I1 r1 q1=>aQj pins s1 σ H1 x v Q I1 r1 q1) (he _)
theorem qW:OpR X (qb .Add) (fun x y H Q=>∃i j,x=.str i/\y=.str j/\i.length+j.length<=τ/\Q (.str (i++j)) H):=by
 intro pins s σ H x y v u Q I rx ry h;obtain⟨i,j,rfl,rfl,hz,q⟩:=h;obtain⟨t,rfl⟩:=rx;obtain⟨t',rfl⟩:=ry;exact add_str (fun t' tk=>⟨.str (i++j),H,I.tok _,⟨_,rfl⟩,q⟩) hz
theorem vals1{x:V}(r:kJ [x] us):∃u,us=[u]/\RelV x u:=by
 cases r with
 |cons r1 r2=>cases r2;exact⟨_,rfl,r1⟩
theorem vals2{x y:V}(r:kJ [x,y] us):∃u w',us=[u,w']/\RelV x u/\RelV y w':=by
 cases r with
 |cons r1 r2 =>
  cases r2 with
  |cons r3 r4=>cases r4;exact⟨_,_,rfl,r1,r3⟩
theorem sX(hc:X.calm=true):vR X (.builtin "max") (fun xs H Q=>∃i j,xs=[.int i,.int j]/\Q (.int (if j > i then j else i)) H):=by
 intro pins s σ H xs us Q I r h;obtain⟨i,j,rfl,q⟩:=h;obtain⟨u,w',rfl,⟨t,rfl⟩,⟨t',rfl⟩⟩:=vals2 r;refine max_two_ints (I.ok.hd hc) fun h' tk k=>⟨_,H,I.kept k,?_,q⟩
 by_cases hj:j > i
 ·rw[if_pos hj,if_pos hj];exact⟨_,rfl⟩
 ·rw[if_neg hj,if_neg hj];exact⟨_,rfl⟩
theorem tJ(hc:X.calm=true):vR X (.builtin "min") (fun xs H Q=>∃i j,xs=[.int i,.int j]/\Q (.int (if j<i then j else i)) H):=by
 intro pins s σ H xs us Q I r h;obtain⟨i,j,rfl,q⟩:=h;obtain⟨u,w',rfl,⟨t,rfl⟩,⟨t',rfl⟩⟩:=vals2 r;refine min_two_ints (I.ok.hd hc) fun h' tk k=>⟨_,H,I.kept k,?_,q⟩
 by_cases hj:j<i
 ·rw[if_pos hj,if_pos hj];exact⟨_,rfl⟩
 ·rw[if_neg hj,if_neg hj];exact⟨_,rfl⟩
theorem bY:vR X (.type "str") (fun xs H Q=>∃i,xs=[.int i]/\i.natAbs.log2<1920/\Q (.str (toString i)) H):=by
 intro pins s σ H xs us Q I r h;obtain⟨i,rfl,hz,q⟩:=h;obtain⟨u,rfl,t,rfl⟩:=vals1 r;exact PySem.P.str_of_int hz ⟨.str _,H,I.tok _,⟨_,rfl⟩,q⟩
def LenV (K:ς) (x:V) (H:Hp) (n:Nat):Prop :=
 match x with
 |.str y=>y.length<=τ/\n=y.length
 |.byt y=>y.size<=τ/\n=y.size
 |.ref p=>(∃xs,SqL K H p xs/\n=xs.length)\/∃xs,SqT K H p xs/\n=xs.length
 |_=>False
theorem aCr:vR X (.builtin "len") (fun xs H Q=>∃x n,xs=[x]/\LenV X.K x H n/\Q (.int n) H):=by
 intro pins s σ H xs us Q I r h;obtain⟨x,n,rfl,e,q⟩:=h;obtain⟨u,rfl,rx⟩:=vals1 r;have hl:=fL;have hs:τ=16777216:=il;cases x with
 |str y =>
  obtain⟨t,rfl⟩:=rx;obtain⟨hy,e'⟩ : y.length<=τ/\n=y.length:=e;subst e';exact len_str (by omega) ⟨.int _,H,I.tok _,⟨_,rfl⟩,q⟩
 |byt y =>
  obtain⟨t,rfl⟩:=rx;obtain⟨hy,e'⟩ : y.size<=τ/\n=y.size:=e;subst e';exact PySem.W.len_bytes (by omega) ⟨.int _,H,I.tok _,⟨_,rfl⟩,q⟩
 |ref p =>
  cases rx;have e':(∃xs,SqL X.K H p xs/\n=xs.length)\/∃xs,SqT X.K H p xs/\n=xs.length:=e;rcases e' with⟨xs,hx,e'⟩|⟨xs,hx,e'⟩
  ·subst e';obtain⟨its,r',pl,hz⟩:=I.list hx;have hlen:=r'.length;exact Calls.call_len_list pl.isList (by simp only[Φ];omega) ⟨.int xs.length,H,I.tok _,⟨_,by simp only[Φ];rw[hlen]⟩,q⟩
  ·subst e';obtain⟨its,r',pl,hz⟩:=I.tuple hx;have hlen:=r'.length;exact len_tuple pl (by simp only[Φ];omega) ⟨.int xs.length,H,I.tok _,⟨_,by simp only[Φ];rw[hlen]⟩,q⟩
 |_=>exact(show False from e).elim
end
structure aGa (h:nc) (x dx C:Addr) (mA:Str->Option Value):Prop where
 obj:h.get? x=some (pq C dx)
 ns:h.Ns1 dx mA
 ne:dx≠x
theorem aIo{h:nc}{mA:Str->Option Value}(n:h.Ns1 dx mA):∃od,h.get? dx=some od/\∀name,PySem.W.lookIn name od=some (mA name):=by
 obtain⟨o,es,ep,ho,hd,hk,_,hm⟩:=n;refine⟨o,ho,fun name=>?_⟩;have e:=hm name;unfold nsFind findBy at e;rw[←Array.find?_toList]at e;unfold PySem.W.lookIn;rw[hd];dsimp only
 split
 ·rename_i y q;rw[q]at e;exact congrArg some e
 ·rename_i q;rw[q]at e;have a:es.toList.any (·.refKey)=false:=by
   rw[List.any_eq_false];intro y hy;obtain⟨z,t,hkey⟩:=hk y (Array.mem_toList_iff.mp hy);simp[DictEntry.refKey,hkey]
  have a':¬ es.toList.any (·.refKey)=true:=by rw[a];exact π
  rw[if_neg a'];exact congrArg some e
theorem aGa.look{mA:Str->Option Value}(I:aGa h x dx C mA):∃od,PySem.W.InstAt h x (pq C dx) C (some od)/\∀name,PySem.W.lookIn name od=some (mA name) :=
 let ⟨od,ho,hl⟩:=aIo I.ns
 ⟨od,⟨I.obj,rfl,rfl,ho⟩,hl⟩
section
variable {prog:lu}{w:my}{A:mj}{E:Value->χ->Prop}{s:χ}{K:ς}{x dx C f:Addr}{mA:Str->Option Value}{name:Str}{v:Value}
theorem aOf{Q:Value->χ->Prop}(X:K.In s.heap)(I:aGa s.heap x dx C mA)(hg:vq K C name=true)(hh:PySem.W.hasDictIn K C=true)
  (ha:ql K (.ref C) name=some none)(hv:mA name=some v)(hv':PySem.W.handedIn v=true)(h:Q v { s with toks:=s.toks+1 }):
  iz (jj prog w) A (getAttr (.ref x) name expr) Q E s:=by
 obtain⟨od,J,hl⟩:=I.look;exact PySem.W.get_value X J (PySem.W.plainGet_of hg).1 (PySem.W.findObj_own hh ha rfl (by rw[hl,hv])) hv' h
theorem aMa{Q:Value×List Value->χ->Prop}(X:K.In s.heap)(I:aGa s.heap x dx C mA)(hg:vq K C name=true)
  (hf:ql K (.ref C) name=some (some (.ref f)))(ht:isFn K (.ref f)=true)(hv:mA name=none)(h:Q (.ref f,[.ref x]) s):
  iz (jj prog w) A (getMethod (.ref x) name pl) Q E s:=by
 obtain⟨od,J,hl⟩:=I.look;exact PySem.W.method_fn X J (PySem.W.plainGet_of hg).1 (PySem.W.plainGet_of hg).2 hf (beq_iff_eq.mp ht) (by show(PySem.W.lookIn name od).map (·.isSome)=some false;rw[hl,hv];rfl) h
theorem aNy{Q:Unit->χ->Prop}(X:K.In s.heap)(I:aGa s.heap x dx C mA)
  (hs:ql K (.ref C) "__setattr__" = some (some (.builtin "object.__setattr__")))(hp:PySem.W.plainOver K C=true)(ht:PySem.W.takerIn K C name=some none)(hh:PySem.W.hasDictIn K C=true)
  (hw:PySem.Within mA ns)(hsz:ns.length<=τ)
  (h:∀h',aGa h' x dx C (fun y=>if y=name then some v else mA y)->sf dx s.heap h'->Q () { s with heap:=h',toks:=s.toks+2 }):
  iz (jj prog w) A (setAttr (.ref x) name v) Q E s:=by
 obtain⟨od,J,hl⟩:=I.look;refine PySem.W.set_plain X J hs (PySem.W.osa_open (s:={ s with toks:=s.toks+1 }) (r:=none) X J hp ht fun b=>?_);obtain⟨cd,hc,hd'⟩:=PySem.W.any_some hh;have hx:s.heap.get? x=some ⟨.ref C,some dx,.plain,#[]⟩:=I.obj;refine ψ (io (ψ (ψ (wpAny_loadPart hx (ψ (PySem.W.Looks.here (s:={ s with toks:=s.toks+1 }) (PySem.W.looks_clsIn X hc) ?_))))));rw[hd'];refine io (a:=some dx) (ψ (io (ψ ?_)));refine wpAny_nsSet1 (s:={ s with toks:=s.toks+1 }) I.ns fun h' hn2 hs2=>?_;obtain⟨oD,esD,epD,hoD,hdD,hcD⟩:=hn2.count (PySem.Within.cons name v hw);refine ψ (wpAny_lookBehind hoD (by rw[hdD];exact pastItsLine_dict (iq hcD (by rw[Γ];omega))) ?_);exact io (h _ ⟨(hs2.2 _ (lm I.ne)).trans I.obj,hn2,I.ne⟩ hs2)
theorem aKx{vs:List Value}{kw:List (Str×Value)}(X:K.In s.heap)(hm:PySem.W.makesIn K C=true)
  (hi:ql K (.ref C) "__init__" = some (some (.ref f)))(hf:PySem.W.typeIn K (.ref f)=some (.type "function"))
  (h:codeAny (jj prog w) (A.under (.builtin "type.__call__" ⟨.ref C::vs,kw⟩)) (.call (.ref f) ⟨.ref (s.heap.objs.size+1)::vs,kw⟩) (PySem.W.InitBack (s.heap.objs.size+1) R)
   { s with heap:=(s.heap.push PySem.W.emptyDict).push (pq C s.heap.objs.size) }):
  codeAny (jj prog w) A (.call (.ref C) ⟨vs,kw⟩) R s:=by
 obtain⟨hh,g,d,t,os⟩:=s;exact PySem.W.make_core (PySem.W.makes_of X hm) (PySem.W.looks_findIn X hi) (fun self=>PySem.W.bind_fn X self hf) (.inl rfl) h
end
def bR (f:Str) (v:V):List (Str×V)->List (Str×V)
 |[]=>[(f,v)]
 | (g,x)::r=>if g=f then (g,v)::r else (g,x)::bR f v r
theorem mV(f g:Str)(v:V):∀fs:List (Str×V),(bR f v fs).lookup g=if g=f then some v else fs.lookup g
 |[]=>by
  show va g [(f,v)]=_
  by_cases h:g=f
  ·have hb:(g == f)=true:=beq_iff_eq.mpr h;simp only[va,hb,if_pos h]
  ·have hb:(g == f)=false:=beq_eq_false_iff_ne.mpr h;simp only[va,hb,if_neg h]
 | (k,x)::r=>by
  have ih:=mV f g v r;rw[show bR f v ((k,x)::r)=(if k=f then (k,v)::r else (k,x)::bR f v r) from rfl]
  by_cases hk:k=f
  ·rw[if_pos hk]
   by_cases h:g=k
   ·have hb:(g == k)=true:=beq_iff_eq.mpr h;simp only[va,hb,if_pos (h.trans hk)]
   ·have hb:(g == k)=false:=beq_eq_false_iff_ne.mpr h;simp only[va,hb,if_neg (fun e:g=f=>h (e.trans hk.symm))]
  ·rw[if_neg hk]
   by_cases h:g=k
   ·have hb:(g == k)=true:=beq_iff_eq.mpr h;simp only[va,hb,if_neg (fun e:g=f=>hk (h.symm.trans e))]
   ·have hb:(g == k)=false:=beq_eq_false_iff_ne.mpr h;simp only[va,hb];exact ih
theorem lL(f:Str)(v:V):∀fs:List (Str×V),f∈(bR f v fs).map (·.1)/\∀g,g∈fs.map (·.1)->g∈(bR f v fs).map (·.1)
 |[]=>⟨by simp[bR],fun g h=>by simp at h⟩
 | (k,x)::r=>by
  obtain⟨i1,i2⟩:=lL f v r;rw[show bR f v ((k,x)::r)=(if k=f then (k,v)::r else (k,x)::bR f v r) from rfl]
  by_cases hk:k=f
  ·rw[if_pos hk];subst hk;exact⟨by simp,fun g h=>by simpa using h⟩
  ·rw[if_neg hk];refine⟨?_,fun g h=>?_⟩
   ·rw[ki];exact Ψ _ i1
   ·rw[ki]at h ⊢;rcases Ξ.mp h with e|e
    ·exact Ξ.mpr (.inl e)
    ·exact Ψ _ (i2 g e)
theorem mW(f:Str)(v:V):∀fs:List (Str×V),(bR f v fs).length<=fs.length+1
 |[]=>by simp[bR]
 | (k,x)::r=>by
  have ih:=mW f v r;rw[show bR f v ((k,x)::r)=(if k=f then (k,v)::r else (k,x)::bR f v r) from rfl]
  by_cases hk:k=f
  ·rw[if_pos hk,Γ,Γ];omega
  ·rw[if_neg hk,Γ,Γ];omega
theorem cS.some_of(r:cS (some v) o):∃u,o=some u/\RelV v u:=by
 cases o with
 |none=>exact(show False from r).elim
 |some u=>exact⟨u,rfl,r⟩
theorem cS.none_of(r:cS none o):o=none:=by
 cases o with
 |none=>rfl
 |some u=>exact(show False from r).elim
theorem aIr(r:RelV v u):PySem.W.handedIn u=true:=by
 cases v with
 |non=>cases (show u=Value.none from r);rfl
 |bl b=>cases (show u=Value.bool b from r);rfl
 |int i=>obtain⟨t,e⟩:=(show ∃t,u=Value.int i t from r);cases e;rfl
 |str x=>obtain⟨t,e⟩:=(show ∃t,u=Value.str x t from r);cases e;rfl
 |byt b=>obtain⟨t,e⟩:=(show ∃t,u=Value.bytes b t from r);cases e;rfl
 |flt b=>obtain⟨t,e⟩:=(show ∃t,u=Value.float b t from r);cases e;rfl
 |ref a=>cases (show u=km a from r);rfl
 |ty n=>cases (show u=Value.type n from r);rfl
section
variable {P:lu}{w:my}{H H':Hp}{h h':nc}{a C dx:Addr}{fs fs':List (Str×V)}
theorem nN(hok:HOk P w H h)(e:H a=some (.ins C dx fs)):∃mA,aGa h a dx C mA/\(∀f,cS (fs.lookup f) (mA f))/\PySem.Within mA (fs.map (·.1))/\fs.length<=1000/\H dx=some (.own a):=by
 obtain⟨d,z,ne,ob,mA,n,r,q⟩:=(show vE P w H h a (.ins C dx fs) from hok a _ e);exact⟨mA,⟨ob,n,ne⟩,r,q,z,d⟩
end
structure Cls (K:ς) (C:Addr):Prop where
 pg:vq K C Str.empty=true
 hd:PySem.W.hasDictIn K C=true
 po:PySem.W.plainOver K C=true
 sa:ql K (.ref C) "__setattr__" = some (some (.builtin "object.__setattr__"))
theorem Cls.get{K:ς}(c:Cls K C)(f:Str):vq K C f=true:=c.pg
def yT (K:ς) (C:Addr) (f:Str):Prop:=ql K (.ref C) f=some none
theorem yT.taker{K:ς}(n:yT K C f):PySem.W.takerIn K C f=some none:=by
 unfold PySem.W.takerIn;rw[show ql K (.ref C) f=some none from n];rfl
structure Meth (K:ς) (C:Addr) (m:Str) (f:Addr):Prop where
 at_:ql K (.ref C) m=some (some (.ref f))
 fn:isFn K (.ref f)=true
 kp:keepIn K (.ref f)=true
section
variable {X:Cx}{pins:List (Addr×Obj)}{σ:St}{H:Hp}{s:χ}{a C dx:Addr}{fs:List (Str×V)}{f:Str}{v:V}{A:mj}{E:Value->χ->Prop}
theorem aEu{Q:Value->χ->Prop}(I:Inv X pins σ H s)(e:H a=some (.ins C dx fs))(c:Cls X.K C)(n:yT X.K C f)(l:fs.lookup f=some v)
  (h:∀u s',Inv X pins σ H s'->RelV v u->Q u s'):iz (jj X.prog X.w) A (getAttr (.ref a) f b) Q E s:=by
 obtain⟨mA,O,r,_,_,_⟩:=nN I.hok e;obtain⟨u,hu,ru⟩:=cS.some_of (v:=v) (o:=mA f) (by rw[←l];exact r f);exact aOf I.kIn O (c.get f) c.hd n hu (aIr ru) (h u _ (I.tok _) ru)
theorem gJ{Q:Value×List Value->χ->Prop}(I:Inv X pins σ H s)(e:H a=some (.ins C dx fs))(c:Cls X.K C)(k:Meth X.K C m g)(l:fs.lookup m=none)
  (h:Q (.ref g,[.ref a]) s):iz (jj X.prog X.w) A (getMethod (.ref a) m pl) Q E s:=by
 obtain⟨mA,O,r,_,_,_⟩:=nN I.hok e;have hn:mA m=none:=cS.none_of (by rw[←l];exact r m);exact aMa I.kIn O (c.get m) k.at_ k.fn hn h
theorem aEx{Q:Unit->χ->Prop}(I:Inv X pins σ H s)(e:H a=some (.ins C dx fs))(c:Cls X.K C)(n:yT X.K C f)(hl:fs.length<1000)(ry:RelV y u)
  (h:∀s',Inv X pins σ (upd H a (.ins C dx (bR f y fs))) s'->Q () s'):iz (jj X.prog X.w) A (setAttr (.ref a) f u) Q E s:=by
 obtain⟨mA,O,r,wi,_,ho⟩:=nN I.hok e;have hz:(fs.map (·.1)).length<=τ:=by rw[δ,il];omega
 refine aNy I.kIn O c.sa c.po n.taker c.hd wi hz fun h' O' sb=>h _ ?_;have hd:∃o,h'.get? dx=some o:=let ⟨o,_,_,e',_⟩:=O'.ns; ⟨o,e'⟩;refine I.write (x:=a) (e:=dx) (by rw[e];exact ju) (.inr ho) (fun b q hb z=>(sb.2 b hb).trans z) hd ?_;refine⟨by rw[kF O.ne];exact ho,?_,O.ne,O'.obj,_,O'.ns,fun g=>?_,fun g hg=>?_⟩
 ·have:=mW f y fs;omega
 ·show cS ((bR f y fs).lookup g) (if g=f then some u else mA g);rw[mV]
  by_cases q:g=f
  ·rw[if_pos q,if_pos q];exact ry
  ·rw[if_neg q,if_neg q];exact r g
 ·by_cases q:g=f
  ·rw[q];exact(lL f y fs).1
  ·refine(lL f y fs).2 g (wi g fun z=>hg ?_);show(if g=f then some u else mA g)=none;rw[if_neg q];exact z
theorem Inv.made(I:Inv X pins σ H s):Inv X pins σ (upd (upd H s.heap.objs.size (.own (s.heap.objs.size+1))) (s.heap.objs.size+1) (.ins C s.heap.objs.size []))
  { s with heap:=(s.heap.push PySem.W.emptyDict).push (pq C s.heap.objs.size) }:=by
 have e1:(s.heap.push PySem.W.emptyDict).get? s.heap.objs.size=some PySem.W.emptyDict:=jb s.heap rfl;have e2:((s.heap.push PySem.W.emptyDict).push (pq C s.heap.objs.size)).get? (s.heap.objs.size+1)=some (pq C s.heap.objs.size):=by
  have:=jb (s.heap.push PySem.W.emptyDict) (o:=pq C s.heap.objs.size) rfl
  rwa [nc.size_push]at this
 have e3:(s.heap.push PySem.W.emptyDict).Ns s.heap.objs.size (fun _=>none):=⟨PySem.W.emptyDict,#[],_,e1,rfl,(fun e he=>absurd he (by simp)),fun _=>rfl⟩;have I1:=I.laid (a:=s.heap.objs.size) (o:=.own (s.heap.objs.size+1)) (h':=s.heap.push PySem.W.emptyDict) (t':=s.toks) (fun b u q=>Θ _ q) (ξ _) ⟨_,e1⟩;refine I1.laid (a:=s.heap.objs.size+1) (o:=.ins C s.heap.objs.size []) (t':=s.toks) (fun b u q=>Θ _ q) (Nat.le_of_eq (nc.size_push _ _)) ?_;have ne:s.heap.objs.size≠s.heap.objs.size+1:=ji (ub _);refine⟨by rw[kF ne,jT],ij _,ne,e2,fun _=>none,(nc.Ns1.of_empty e3).at fun o q=>Θ _ q,fun _=>ju,fun y hy=>absurd rfl hy⟩
theorem aOt(hb:ug e f env (eval e env)=eval e env)
  (h:iz (jj prog w) A (eval e env) (fun o s₁=>iz (jj prog w) A (getAttr o f true) Q E s₁) E s):iz (jj prog w) A (eval (.Attribute e f pos) env) Q E s :=
 Attribute_any_ h (by rw[arm_eval_Attribute,hb])
end
inductive aLo (K:ς) (f:Str) (Q:VK) (x:V) (H1:Hp):Prop|mk:∀a C dx fs v,x=.ref a->H1 a=some (.ins C dx fs)->Cls K C->yT K C f->fs.lookup f=some v->Q v H1->aLo K f Q x H1
def tFld (K:ς) (ta:TE) (f:Str):TE:=fun σ H Q=>ta σ H fun x H1=>aLo K f Q x H1
def sFld (K:ς) (ta tv:TE) (f:Str):TS:=fun D σ H=>tv σ H fun y H1=>ta σ H1 fun x H2=>∃a C dx fs,x=.ref a/\H2 a=some (.ins C dx fs)/\Cls K C/\yT K C f/\fs.length<1000 ∧
 D.nx σ (upd H2 a (.ins C dx (bR f y fs)))
section
variable {X:Cx}{o e value:Expr}{f:Str}{pos pos' tpos:Pos}{ta tv:TE}
theorem kP(he:PE X e ta)(hb:ug e f X.env (eval e X.env)=eval e X.env):PE X (.Attribute e f pos) (tFld X.K ta f):=by
 intro pins s σ H Q I h;refine aOt hb (thn (he pins s σ H _ I h) fun u s1 zq=>?_);obtain⟨x,H1,I1,rx,a,C,dx,fs,v,ex,ea,c,n,l,q⟩:=zq;subst ex;obtain rfl:u=km a:=rx;exact aEu I1 ea c n l fun u' s2 I2 ru=>⟨v,H1,I2,ru,q⟩
theorem dE(ha:PE X o ta)(hv:PE X value tv)(hs:swapsWith value (some (.Attribute o f pos')) pos.line X.env=pure false):PS X (.Assign [.Attribute o f pos'] value pos) (sFld X.K ta tv f):=by
 intro pins s σ H D I h;refine plainObj_wpAny_Assign_Attribute (thn (hv pins s σ H _ I h) fun u s1 zq=>zq.el fun y H1 I1 ry q=>thn (ha pins s1 σ H1 _ I1 q) fun ov s2 zq=>?_) hs;obtain⟨x,H2,I2,rx,a,C,dx,fs,ex,ea,c,n,l,q2⟩:=zq;subst ex;obtain rfl:ov=km a:=rx;exact aEx I2 ea c n l ry fun s3 I3=>⟨σ,_,I3,q2⟩
end
section
variable {X:Cx}{pins:List (Addr×Obj)}{σ:St}{H:Hp}{s:χ}{A:mj}{E:Value->χ->Prop}{Q:Value->χ->Prop}{c:Value}{b:Bool}
inductive gY (K:ς) (H:Hp):V->Value->Prop where
 |non:gY K H .non (.type "NoneType")
 |bl (x:Bool):gY K H (.bl x) (.type "bool")
 |int (i:Int):gY K H (.int i) (.type "int")
 |str (x:Str):gY K H (.str x) (.type "str")
 |flt (x:UInt64):gY K H (.flt x) (.type "float")
 |lst {a:Addr}{xs:List V}(e:H a=some (.lst xs)):gY K H (.ref a) (.type "list")
 |frz {a:Addr}{o:Obj}{xs:List V}(e:H a=some (.frz o (.lst xs))):gY K H (.ref a) (.type "list")
 |tup {a:Addr}{xs:List V}(e:H a=some (.tup xs)):gY K H (.ref a) (.type "tuple")
 |dK {a:Addr}{kvs:List (Key×V)}(e:H a=some (.dK kvs)):gY K H (.ref a) (.type "dict")
 |dT {a:Addr}{kvs:List (List Key×V)}(e:H a=some (.dT kvs)):gY K H (.ref a) (.type "dict")
 |ins {a C dx:Addr}{fs:List (Str×V)}(e:H a=some (.ins C dx fs)) (cl:Cls K C) (ha:ql K (.ref C) "__class__" = some (some (.builtin "object.__class__")))
   (hn:PySem.W.specialIn K (.builtin "object.__class__") "__get__" = some (some (.builtin "getset_descriptor.__get__"))) (htk:PySem.W.takesIn K (.builtin "object.__class__")=some true)
   (hm:uh K C (.type "object")=some true):gY K H (.ref a) (.ref C)
theorem aJd(I:Inv X pins σ H s)(rx:RelV x u)(ty:gY X.K H x t)(e:jz X.K t c=some b)(h:∀tk,Q (.bool b) { s with toks:=tk }):
  iz (jj X.prog X.w) A (call (.builtin "isinstance") [u,c]) Q E s:=by
 cases ty with
 |non=>cases (show u=Value.none from rx);exact mx PySem.W.kitx_none I.kIn ju e (fun z=>nomatch z) h
 |bl y=>cases (show u=Value.bool y from rx);exact mx PySem.W.kitx_bool I.kIn ju e (fun z=>nomatch z) h
 |int i=>obtain⟨t,q⟩:=(show ∃t,u=Value.int i t from rx);cases q;exact mx PySem.W.kitx_int I.kIn ju e (fun z=>nomatch z) h
 |str y=>obtain⟨t,q⟩:=(show ∃t,u=Value.str y t from rx);cases q;exact mx PySem.W.kitx_str I.kIn ju e (fun z=>nomatch z) h
 |flt y=>obtain⟨t,q⟩:=(show ∃t,u=Value.float y t from rx);cases q;exact mx PySem.W.kitx_float I.kIn ju e (fun z=>nomatch z) h
 | @lst a xs ea =>
  cases (show u=km a from rx);obtain⟨_,_,n,_,h1⟩:=(show vE X.prog X.w H s.heap a (.lst xs) from I.hok a _ ea);exact mx PySem.W.kitx_list I.kIn ⟨_,h1,rfl⟩ e (fun z=>nomatch z) h
 | @frz a ob xs ea =>
  cases (show u=km a from rx);obtain⟨_,_,_,n,_,h1⟩:=(show vE X.prog X.w H s.heap a (.frz ob (.lst xs)) from I.hok a _ ea);exact mx PySem.W.kitx_list I.kIn ⟨_,h1,rfl⟩ e (fun z=>nomatch z) h
 | @tup a xs ea =>
  cases (show u=km a from rx);obtain⟨_,_,_,p⟩:=(show vE X.prog X.w H s.heap a (.tup xs) from I.hok a _ ea);obtain⟨o,h1,h2,_⟩:=p;exact mx PySem.W.kitx_tuple I.kIn ⟨o,h1,h2⟩ e (fun z=>nomatch z) h
 | @dK a kvs ea =>
  cases (show u=km a from rx);obtain⟨_,_,vs,_,p⟩:=(show vE X.prog X.w H s.heap a (.dK kvs) from I.hok a _ ea);obtain⟨o,es,ep,h1,h2,_⟩:=p;exact mx PySem.W.kitx_dict I.kIn ⟨o,h1,h2.1⟩ e (fun z=>nomatch z) h
 | @dT a kvs ea =>
  cases (show u=km a from rx);obtain⟨_,_,xs,_,o,es,ep,h1,h2,_⟩:=(show vE X.prog X.w H s.heap a (.dT kvs) from I.hok a _ ea);exact mx PySem.W.kitx_dict I.kIn ⟨o,h1,h2.1⟩ e (fun z=>nomatch z) h
 | @ins a C dx fs ea cl ha hn htk hm =>
  cases (show u=km a from rx);obtain⟨mA,O,_⟩:=nN I.hok ea;obtain⟨od,J,_⟩:=O.look;exact mx (PySem.W.kitx_own (cl.get _) cl.hd ha hn htk hm) I.kIn J e (fun z=>nomatch z) h
end
structure xA (k:Nat) (A:mj):Prop where
 hd:A.handled=none
 dp:A.depth+3*k+5<recursionLimit
 un:A.units+16*k+200<qi
 gd:A.guards=some []
theorem xA.mono{j:Nat}(r:xA k A)(h:j<=k):xA j A:=⟨r.hd,by have:=r.dp;omega,by have:=r.un;omega,r.gd⟩
theorem xA.deeper{k:Nat}(r:xA (k+1) A)(env:Env):xA k (A.deeper env) :=
 ⟨r.hd,by have:=r.dp;show A.depth+1+3*k+5<_;omega,by have:=r.un;show A.units+3+16*k+200<_;omega,r.gd⟩
theorem xA.in1{k:Nat}(r:xA (k+1) A):xA k A.in1 :=
 ⟨r.hd,by have:=r.dp;show A.depth+3*k+5<_;omega,by have:=r.un;show A.units+1+16*k+200<_;omega,r.gd⟩
theorem aFv{A:mj}{us:List Value}{kw:List (Str×Value)}: (A.under (.builtin "type.__call__" ⟨.ref C::us,kw⟩)).depth=A.depth+1:=by
 first|rfl|simp[mj.under,Code.weight,Code.isCreation,Code.isGuard,Code.isCaller,Code.frames,Code.isFrame,guardIds]
theorem aFq{A:mj}{us:List Value}{kw:List (Str×Value)}: (A.under (.builtin "type.__call__" ⟨.ref C::us,kw⟩)).units=A.units+1:=by
 first|rfl|simp[mj.under,Code.cUnits,Code.frames,Code.isFrame]
theorem aCx{A:mj}{us:List Value}{kw:List (Str×Value)}: (A.under (.builtin "type.__call__" ⟨.ref C::us,kw⟩)).guards=A.guards:=by
 have hg:guardIds.contains "type.__call__" = false:=by ac_rfl
 have e:Code.guards (.builtin "type.__call__" ⟨.ref C::us,kw⟩)=[]:=by
  unfold Code.guards;rw[if_neg (fun z=>by rw[show Code.isGuard (.builtin "type.__call__" ⟨.ref C::us,kw⟩)=guardIds.contains "type.__call__" from rfl,hg]at z;cases z)]
 unfold mj.under;rw[e];rfl
theorem xA.make{k:Nat}(r:xA (k+1) A)(C:Addr)(us:List Value)(kw:List (Str×Value)):xA k (A.under (.builtin "type.__call__" ⟨.ref C::us,kw⟩)) :=
 ⟨r.hd,by have:=r.dp;rw[aFv];omega,by have:=r.un;rw[aFq];omega,aCx.trans r.gd⟩
theorem xA.depth(r:xA k A):A.depth<recursionLimit:=by have:=r.dp;omega
theorem xA.units(r:xA k A):A.units+64<qi:=by have:=r.un;omega
def aMl:TA:=fun _ H Q=>Q [] H
def aPu (ta:TE) (tr:TA):TA:=fun σ H Q=>ta σ H fun x H1=>tr σ H1 fun xs H2=>Q (x::xs) H2
section
variable {X:Cx}{e:Expr}{es:List Expr}{te:TE}{t:TA}{pos:Pos}
theorem jB:PA X [] aMl:=fun _ _ _ _ H Q I h=>Calls.spliced_nil ⟨[],H,I,.nil,h⟩
theorem jA(ha:PE X e te)(hr:PA X es t)(hs:jk (e::es) X.env=(false,eval e X.env)::jk es X.env:=by rfl):PA X (e::es) (aPu te t):=by
 intro pos pins s σ H Q I h;rw[hs];show iz _ _ (spliced ((false,eval e X.env)::uf pos (jk es X.env))) _ _ s;refine Calls.spliced_cons (thn (ha pins s σ H _ I h) fun u s1 zq=>?_);obtain⟨x,H1,I1,r1,q1⟩:=zq;exact thn (hr pos pins s1 σ H1 _ I1 q1) fun us s2 zq=>zq.el fun xs H2 I2 r2 q2=>⟨x::xs,H2,I2,.cons r1 r2,q2⟩
inductive aMv (Q:VK) (xs:List V) (H1:Hp):Prop|mk:xs.length<=τ->(∀p,H1 p=none->Q (.ref p) (upd H1 p (.tup xs)))->aMv Q xs H1
def tTup (t:TA):TE:=fun σ H Q=>t σ H fun xs H1=>aMv Q xs H1
inductive aKk (Q:VK) (xs:List V) (H1:Hp):Prop|mk:xs.length<=τ->(∀p,H1 p=none->Q (.ref p) (upd H1 p (.lst xs)))->aKk Q xs H1
def tLst (t:TA):TE:=fun σ H Q=>t σ H fun xs H1=>aKk Q xs H1
theorem kQ{x1}(h:PA X es t):PE X (.Tuple es x1 pos) (tTup t):=by
 intro pins s σ H Q I hq;refine wpAny_Tuple_spliced (thn (h pos pins s σ H _ I hq) fun us s1 ⟨xs,H1,I1,r,z,q⟩=>⟨by rw[←r.length];exact z,?_⟩);have hf:H1 s1.heap.objs.size=none:=I1.hok.fresh (ξ _);refine⟨.ref s1.heap.objs.size,upd H1 s1.heap.objs.size (.tup xs),I1.laid (t':=s1.toks) (fun b u e=>Θ _ e) (ξ _) ?_,rfl,q _ hf⟩;exact⟨z,us,r,⟨_,jb _ rfl,rfl,_,rfl⟩⟩
theorem qT(h:PA X es t):PE X (.List es pos) (tLst t):=by
 intro pins s σ H Q I hq;refine wpAny_List_spliced (thn (h pos pins s σ H _ I hq) fun us s1 ⟨xs,H1,I1,r,z,q⟩=>⟨by rw[←r.length];exact z,?_⟩);have hf:H1 s1.heap.objs.size=none:=I1.hok.fresh (ξ _);refine⟨.ref s1.heap.objs.size,upd H1 s1.heap.objs.size (.lst xs),I1.laid (t':=s1.toks) (fun b u e=>Θ _ e) (ξ _) ?_,rfl,q _ hf⟩;exact⟨z,us,0,r,jb _ rfl⟩
end
abbrev Sp:=List V->Hp->VK->XK->Prop
abbrev CXT:=List Env->Hp->χ->XK->Value->χ->Prop
structure sD (P:lu) (w:my) (K:ς) (mg:Str->Option Value) (base:nc) (A:mj) (outer:List Env) (s:χ) (H:Hp):Prop where
 frames:A.frames=some outer
 mod:Mod K mg base
 bs:∀b o,base.get? b=some o->s.heap.get? b=some o/\H b=none
 bsz:base.objs.size<=s.heap.objs.size
 funs:s.heap.FunFrames base outer
 frf:∀b∈frs outer,H b=none
 hok:HOk P w H s.heap
 bare:AllBare s.gens
def CE (outer:List Env) (P:lu) (w:my) (H:Hp) (s:χ) (Q:VK) (u:Value) (s':χ):Prop :=
 ∃v H',s'.os=s.os/\AllBare s'.gens/\Un (frs outer) [] H H' s.heap s'.heap/\HOk P w H' s'.heap/\RelV v u/\Q v H'
def CR (CX:CXT) (outer:List Env) (P:lu) (w:my) (H:Hp) (s:χ) (Q:VK) (E:XK) (r:Result) (s':χ):Prop :=
 match r with
 |.ok (.ret u)=>CE outer P w H s Q u s'
 |.ok _=>False
 |.error e=>CX outer H s E e s'
structure jY (P:lu) (w:my) (K:ς) (mg:Str->Option Value) (base:nc) (CX:CXT) (k:Nat) (f:Addr) (fd:rj) (ps:List Str) (sp:Sp):Prop where
 len:∀vs H Q E,sp vs H Q E->vs.length=ps.length
 run:∀(A:mj) (outer:List Env) (s:χ) (H:Hp) (args:Args) (us:List Value) (vs:List V) (Q:VK) (E:XK),xA k A->sD P w K mg base A outer s H->BindsTo s fd args (ps.zip us)->kJ vs us->sp vs H Q E →
  codeAny (jj P w) A (.call (.ref f) args) (CR CX outer P w H s Q E) s
theorem jY.mono{K:ς}{k:Nat}(F:jY P w K mg base CX j f fd ps sp)(h:j<=k):
  jY P w K mg base CX k f fd ps sp:=⟨F.len,fun A outer s H args us vs Q E hr=>F.run A outer s H args us vs Q E (hr.mono h)⟩
theorem jY.imp{K:ς}{sp sp':Sp}(F:jY P w K mg base CX k f fd ps sp)
  (h:∀vs H Q E,sp' vs H Q E->sp vs H Q E):jY P w K mg base CX k f fd ps sp' :=
 ⟨fun vs H Q E q=>F.len vs H Q E (h _ _ _ _ q),fun A outer s H args us vs Q E hr he hb hv hs=>F.run A outer s H args us vs Q E hr he hb hv (h _ _ _ _ hs)⟩
theorem sD.make{K:ς}(e:sD P w K mg base A outer s H)(C:Addr)(us:List Value)(kw:List (Str×Value)):
  sD P w K mg base (A.under (.builtin "type.__call__" ⟨.ref C::us,kw⟩)) outer s H:=⟨by first|exact e.frames|(simpa [mj.under,Code.envs,Code.isFrame,pushEnvs] using e.frames),e.mod,e.bs,e.bsz,e.funs,e.frf,e.hok,e.bare⟩
theorem sD.in1{K:ς}(e:sD P w K mg base A outer s H):
  sD P w K mg base A.in1 outer s H:=⟨e.frames,e.mod,e.bs,e.bsz,e.funs,e.frf,e.hok,e.bare⟩
section
variable {X:Cx}{pins:List (Addr×Obj)}{σ:St}{H:Hp}{s s':χ}
theorem Inv.env0(I:Inv X pins σ H s):sD X.prog X.w X.K X.mg X.base X.A X.stack s H :=
 ⟨I.ok.frames,I.ok.mod,I.bs,iq I.ok.bsz I.sz,I.stack,I.stkFree,I.hok,I.bare⟩
theorem Inv.after(I:Inv X pins σ H s)(h:CE X.stack X.prog X.w H s Q u s'):EP X pins σ Q u s':=by
 obtain⟨v,H',os,bare,un,hok,r,q⟩:=h;obtain⟨hh,g,d,t,os'⟩:=s';obtain rfl:os'=s.os:=os;exact⟨v,H',I.call (h':=hh) (g':=g) (d':=d) (t':=t) (ch:=[]) un hok bare (fun b z=>absurd z (by simp)),r,q⟩
end
def aMd (sp:Sp) (dvs:List V) (E:XK) (t:TA):TE:=fun σ H Q=>t σ H fun vs H1=>sp (vs++dvs) H1 Q E
def aPm (C:Addr) (m:Str) (sp:Sp) (dvs:List V) (E:XK) (ta:TE) (t:TA):TE:=fun σ H Q=>ta σ H fun x H1=>∃a dx fs,x=.ref a/\H1 a=some (.ins C dx fs)/\fs.lookup m=none ∧
 t σ H1 fun vs H2=>sp (x::(vs++dvs)) H2 Q E
def aPp (C:Addr) (sp:Sp) (dvs:List V) (E:XK) (t:TA):TE:=fun σ H Q=>t σ H fun vs H1=>∀x dx,H1 x=none->H1 dx=none->dx≠x →
 sp (.ref x::(vs++dvs)) (upd (upd H1 dx (.own x)) x (.ins C dx [])) (fun v H2=>v=.non/\Q (.ref x) H2) E
def Binds (K:ς) (fd:rj) (ps:List Str) (ds:List Value):Prop :=
 ∀(s:χ) (us:List Value),K.In s.heap->(us++ds).length=ps.length->BindsTo s fd ⟨us,[]⟩ (ps.zip (us++ds))
theorem Binds.all{K:ς}{ps:List Str}(h:∀us:List Value,us.length=ps.length->bindArgs fd ⟨us,[]⟩=pure (ps.zip us)):Binds K fd ps []:=fun s us _ hl=>by
 rw[ly]at hl ⊢;exact .of_eq (h us hl)
def zR (CX:CXT) (X:Cx) (E:XK):Prop:=∀(pins:List (Addr×Obj)) (σ:St) (H:Hp) (s:χ) (e:Value) (s':χ),Inv X pins σ H s->CX X.stack H s E e s'->X.xe e s'
section
variable {X:Cx}{CX:CXT}{k:Nat}{f C:Addr}{fd:rj}{ps:List Str}{sp:Sp}{dvs:List V}{ds:List Value}{E:XK}{x m:Str}{p pos apos:Pos}{e o:Expr}{es:List Expr}{ta:TE}{t:TA}
theorem wB{Q:VK}(F:jY X.prog X.w X.K X.mg X.base CX k f fd ps sp)(hr:xA k X.A)(hb:Binds X.K fd ps ds)(hd:kJ dvs ds)(hx:zR CX X E)
  (I:Inv X pins σ H s)(r:kJ vs us)(h:sp (vs++dvs) H Q E):iz (jj X.prog X.w) X.A (call (.ref f) us) (EP X pins σ Q) X.xe s:=by
 have r2:kJ (vs++dvs) (us++ds):=r.append hd;have hl:(us++ds).length=ps.length:=by rw[←r2.length];exact F.len _ _ _ _ h
 refine wpAny_call (codeAny_mono (F.run X.A X.stack s H ⟨us,[]⟩ (us++ds) (vs++dvs) Q E hr I.env0 (hb s us I.kIn hl) r2 h) fun r s' hq=>?_);cases r with
 |error e=>exact hx pins σ H s e s' I hq
 |ok fl =>
  cases fl with
  |ret u=>exact I.after hq
  |next=>exact ke hq
  |brk=>exact ke hq
  |cont=>exact ke hq
theorem aOh(F:jY X.prog X.w X.K X.mg X.base CX k f fd ps sp)(hr:xA k X.A)(hg:Gl X x)(hm:X.mg x=some (.ref f))(hk:keepIn X.K (.ref f)=true)(hb:Binds X.K fd ps ds)(hd:kJ dvs ds)(hx:zR CX X E)
  (ha:PA X (e::es) t)(hdb:(x == ("__debug__" : Str))=false:=by decide)(he:jk (e::es) X.env=(false,eval e X.env)::jk es X.env:=by rfl)(hpl:(uf pos (jk es X.env)).any (·.1)=false:=by rfl):
  PE X (.Call (.Name x p) (e::es) [] pos) (aMd sp dvs E t):=by
 intro pins s σ H Q I h;refine ux (uD I hg hm ?_ hdb);refine PySem.W.callWith_K (h₀:=X.base) I.ok.mod.kin hk (thn (ha pos pins s σ H _ I h) fun us s1 zq=>zq.el fun vs H1 I1 r q=>⟨I1.kIn,?_⟩) he hpl;exact wB F hr hb hd hx I1 r q
theorem aLd(he:PE X o ta)(c:Cls X.K C)(hm:Meth X.K C m f)(F:jY X.prog X.w X.K X.mg X.base CX k f fd ps sp)(hr:xA k X.A)(hb:Binds X.K fd ps ds)(hd:kJ dvs ds)(hx:zR CX X E)
  (ht:eval (.Call (.Attribute o m apos) [] [] pos) X.env=(do
   let ov ←eval o X.env
   standAt apos.atName
   let (f,first) ←holding [ov] (getMethod ov m pl)
   callWith pos f first (uf pos (jk [] X.env)) (backToKw pos (keywordEach [] X.env))):=by rfl):
  PE X (.Call (.Attribute o m apos) [] [] pos) (aPm C m sp dvs E ta aMl):=by
 intro pins s σ H Q I h;refine vk (pl:=pl) (thn (he pins s σ H _ I h) fun u s1 zq=>?_) ht;obtain⟨x,H1,I1,rx,a,dx,fs,ex,ea,l,q⟩:=zq;subst ex;obtain rfl:u=km a:=rx;refine gJ I1 ea c hm l ?_;exact PySem.W.callWith_K0 (first:=[.ref a]) I1.kIn hm.kp (wB (us:=[.ref a]) (vs:=[.ref a]) F hr hb hd hx I1 (.cons rfl .nil) q)
structure Mk (K:ς) (C f:Addr):Prop where
 makes:PySem.W.makesIn K C=true
 init:ql K (.ref C) "__init__" = some (some (.ref f))
 fn:isFn K (.ref f)=true
 kp:keepIn K (.ref C)=true
theorem aMg{H:Hp}{Q:VK}(M:Mk X.K C f)(F:jY X.prog X.w X.K X.mg X.base CX k f fd ps sp)(hr:xA (k+1) X.A)(hb:Binds X.K fd ps ds)(hd:kJ dvs ds)
  (hx:zR CX X E)(I:Inv X pins σ H s)(r:kJ vs us)
  (h:∀x dx,H x=none->H dx=none->dx≠x->sp (.ref x::(vs++dvs)) (upd (upd H dx (.own x)) x (.ins C dx [])) (fun v H2=>v=.non/\Q (.ref x) H2) E):
  iz (jj X.prog X.w) X.A (call (.ref C) us) (EP X pins σ Q) X.xe s:=by
 have hq:=h (s.heap.objs.size+1) s.heap.objs.size (I.hok.fresh (Nat.le_succ _)) (I.hok.fresh (ξ _)) (ji (ub _));have I2:=Inv.made (C:=C) I;have r2:kJ (V.ref (s.heap.objs.size+1)::(vs++dvs)) (km (s.heap.objs.size+1)::(us++ds)):=.cons rfl (r.append hd);have hl:(km (s.heap.objs.size+1)::us++ds).length=ps.length:=by
  have e:=r2.length;rw[F.len _ _ _ _ hq]at e;exact e.symm
 refine wpAny_call (aKx (f:=f) I.kIn M.makes M.init (beq_iff_eq.mp M.fn) (codeAny_mono (F.run _ X.stack _ _ ⟨km (s.heap.objs.size+1)::us,[]⟩ (km (s.heap.objs.size+1)::(us++ds)) _ _ E (hr.make C us [])
  (I2.env0.make C us []) (hb _ (km (s.heap.objs.size+1)::us) I2.kIn hl) r2 hq) fun r s' hq'=>?_))
 cases r with
 |error e=>exact hx pins σ _ _ e s' I2 hq'
 |ok fl =>
  cases fl with
  |ret u =>
   obtain⟨v,H',I3,rv,ev,q3⟩:=I2.after hq';subst ev;exact⟨rv,⟨V.ref (s.heap.objs.size+1),H',I3,rfl,q3⟩⟩
  |next=>exact ke hq'
  |brk=>exact ke hq'
  |cont=>exact ke hq'
theorem aOe(M:Mk X.K C f)(F:jY X.prog X.w X.K X.mg X.base CX k f fd ps sp)(hr:xA (k+1) X.A)(hg:Gl X x)(hm:X.mg x=some (.ref C))(hb:Binds X.K fd ps ds)(hd:kJ dvs ds)(hx:zR CX X E)
  (ha:PA X (e::es) t)(hdb:(x == ("__debug__" : Str))=false:=by decide)(he:jk (e::es) X.env=(false,eval e X.env)::jk es X.env:=by rfl)(hpl:(uf pos (jk es X.env)).any (·.1)=false:=by rfl):
  PE X (.Call (.Name x p) (e::es) [] pos) (aPp C sp dvs E t):=by
 intro pins s σ H Q I h;refine ux (uD I hg hm ?_ hdb);refine PySem.W.callWith_K (h₀:=X.base) I.ok.mod.kin M.kp (thn (ha pos pins s σ H _ I h) fun us s1 zq=>zq.el fun vs H1 I1 r q=>⟨I1.kIn,?_⟩) he hpl;exact aMg M F hr hb hd hx I1 r q
end
structure jK (N P:List Str) (sc:Scope):Prop where
 kind:sc.kind=.function
 co:sc.isCoroutine=false
 gen:sc.isGenerator=false
 nd:N.Nodup
 pre:N.take P.length=P
 par:∀x∈P,sc.names.lookup x=some .local\/sc.names.lookup x=some .cell
 nofree:∀y∈sc.names,y.2≠.free
theorem sW{kindOf:Str->Option NameKind}{x:Str}: ∀{binds:List (Str×Value)}{m:Str->Option Value},(∀v,(x,v)∉binds)->bindL kindOf binds m x=m x
 |[],_,_=>rfl
 | (n,v)::r,m,h=>by
  unfold bindL;rw[sW fun w hw=>h w (Ψ _ hw)]
  split
  ·have:x≠n:=by rintro rfl;exact h v Δ
   simp[this]
  ·rfl
theorem tH{kindOf:Str->Option NameKind}{x:Str}: ∀{binds:List (Str×Value)}{m:Str->Option Value},(∀v,(x,v)∉binds)->bindC kindOf binds m x=m x
 |[],_,_=>rfl
 | (n,v)::r,m,h=>by
  unfold bindC;rw[tH fun w hw=>h w (Ψ _ hw)]
  split
  ·rfl
  ·have:x≠n:=by rintro rfl;exact h v Δ
   simp[this]
theorem sM{kindOf:Str->Option NameKind}: ∀{P:List Str}{vs:List Value}{i:Nat}{m:Str->Option Value},P.Nodup->P[i]?=some x->vs[i]?=some v->kindOf x=some .local →
  bindL kindOf (P.zip vs) m x=some v
 |[],_,_,_,_,h,_,_=>by simp at h
 |_::_,[],_,_,_,_,h,_=>by simp at h
 |p::P,w::vs,0,m,nd,h1,h2,hk=>by
  simp at h1 h2;subst h1;subst h2;show bindL kindOf ((p,w)::P.zip vs) m p=_;unfold bindL;rw[sW fun v hv=>(md.mp nd).1 (List.of_mem_zip hv).1,if_pos hk];simp
 |p::P,w::vs,i+1,m,nd,h1,h2,hk=>by
  show bindL kindOf ((p,w)::P.zip vs) m x=_;unfold bindL;exact sM (i:=i) (md.mp nd).2 (by simpa using h1) (by simpa using h2) hk
theorem tG{kindOf:Str->Option NameKind}: ∀{P:List Str}{vs:List Value}{i:Nat}{m:Str->Option Value},P.Nodup->P[i]?=some x->vs[i]?=some v->kindOf x≠some .local →
  bindC kindOf (P.zip vs) m x=some v
 |[],_,_,_,_,h,_,_=>by simp at h
 |_::_,[],_,_,_,_,h,_=>by simp at h
 |p::P,w::vs,0,m,nd,h1,h2,hk=>by
  simp at h1 h2;subst h1;subst h2;show bindC kindOf ((p,w)::P.zip vs) m p=_;unfold bindC;rw[tH fun v hv=>(md.mp nd).1 (List.of_mem_zip hv).1,if_neg hk];simp
 |p::P,w::vs,i+1,m,nd,h1,h2,hk=>by
  show bindC kindOf ((p,w)::P.zip vs) m x=_;unfold bindC;exact tG (i:=i) (md.mp nd).2 (by simpa using h1) (by simpa using h2) hk
def start (N:List Str) (vs:List V):St:=vs.map some++kc (N.length-vs.length) none
def aEl (CX:CXT) (P:lu) (w:my) (K:ς) (mg:Str->Option Value) (base:nc) (N:List Str) (qual:Str) (scope:Scope) (f:Addr) (cd:Value) (A:mj) (outer:List Env) (s:χ) (H:Hp) (E:XK):Cx where
 prog:=P
 w:=w
 K:=K
 mg:=mg
 base:=base
 A:=A.deeper (envOfC qual scope s.heap.objs.size f cd)
 N:=N
 s₀:=s
 H₀:=H
 env:=envOfC qual scope s.heap.objs.size f cd
 outer:=outer
 stack:=envOfC qual scope s.heap.objs.size f cd::outer
 ex:=[]
 calm:=true
 fn:=fun _=>true
 pn:=[]
 xe:=fun e s'=>iz (jj P w) (A.deeper (envOfC qual scope s.heap.objs.size f cd)) (leaving (envOfC qual scope s.heap.objs.size f cd) e) (fun _ s''=>CX outer H s E e s'') (fun e' s''=>CX outer H s E e' s'') s'
theorem aBy{sc:Scope}(h:sc.names.lookup x=some .cell):∃c,(cellsFrom n sc.names []).lookup x=some c:=by
 have q:=PySem.W.cellsFrom_some sc.names n [] (.inl h);exact oz.mp q
theorem aIv{K:ς}{A:mj}{vs:List V}
  (S:jK N ps scope)(hd:A.handled=none)(e0:sD P w K mg base A outer s H)(hl:vs.length=ps.length)(r:kJ vs us)
  (x:InCallC s s.heap.objs.size (bindL (envOfC qual scope s.heap.objs.size f cd).kindOf (ps.zip us) fun _=>none) (cellsFrom (s.heap.objs.size+1) scope.names []) (bindC (envOfC qual scope s.heap.objs.size f cd).kindOf (ps.zip us) fun _=>none) s1):
  Inv (aEl CX P w K mg base N qual scope f cd A outer s H E) [] (start N vs) H s1:=by
 have hpl:ps.length<=N.length:=by have:=congrArg List.length S.pre;rw[ib]at this;omega
 obtain⟨h1,tk,rfl,hk⟩:=x.done;have noA:∀b:Addr,b∉(aEl CX P w K mg base N qual scope f cd A outer s H E).ex:=fun b z=>absurd (show b∈([]:List Addr) from z) (by simp);refine⟨⟨e0.mod,S.kind,rfl,rfl,ξ _,fun y z c h1 h2=>?_,fun y hy=>?_,fun y c _ h=>?_,fun _=>hd,mj.frames_deeper e0.frames,.inr ⟨rfl,rfl⟩,fun b z=>absurd z (noA b),e0.bs,e0.bsz,fun b _ _=>noA b,fun b z=>absurd z (noA b),e0.funs,e0.frf⟩,
  rfl,e0.bare,Un.kept hk,⟨_,x.toInCall.ns,fun i y v h1 h2 h3=>?_⟩,fun y c h=>⟨_,x.cell y c h⟩,e0.hok.fresh (ξ _),fun y c h=>?_,fun p hp=>absurd (show p∈([]:List (Addr×Obj)) from hp) (by simp),e0.hok.kept hk,?_⟩
 ·exact name_of_addr x.apart (lw h1) (lw h2)
 ·have hy:scope.names.lookup y=some .cell\/scope.names.lookup y=some .free:=hy;rcases hy with hy|hy
  ·exact aBy hy
  ·exact absurd rfl (S.nofree _ (lw hy))
 ·exact kq (x.above y c (lw h))
 ·have hi:i<vs.length:=by
   unfold start at h2
   by_cases hi:i<vs.length
   ·exact hi
   ·rw[ic (by simpa using hi)]at h2;rw[List.getElem?_replicate]at h2
    split at h2 <;> cases h2
  have ha:vs[i]?=some v:=by
   unfold start at h2;rw[ii (by simpa using hi),υ]at h2;cases e:vs[i]? with
   |none=>rw[e]at h2;cases h2
   |some a=>rw[e]at h2;cases h2;rfl
  obtain⟨u,hu,rv⟩:=r.get ha;have hp:ps[i]?=some y:=by
   rw[←S.pre,pe (by omega)];exact h1
  have ndP:ps.Nodup:=by rw[←S.pre];exact S.nd.sublist (List.take_sublist _ _)
  refine⟨u,rv,?_⟩;rcases S.par y (ι hp) with k|k
  ·exact .inl ⟨k,sM ndP hp hu k⟩
  ·obtain⟨c,e⟩:=aBy (n:=s.heap.objs.size+1) k;refine .inr ⟨.inl k,c,e,?_⟩;have q:=x.cell y c e;rw[tG ndP hp hu (by show scope.names.lookup y≠_;rw[k];decide)]at q;exact q
 ·exact e0.hok.fresh (kq (x.above y c (lw h)))
 ·unfold start;show _=N.length;rw[ν,δ,nu];omega
theorem fn_of{CX:CXT}{P:lu}{w:my}{K:ς}{mg:Str->Option Value}{base:nc}{k:Nat}{f:Addr}{name qual:Str}{params:Arguments}{body:List Stmt}{scope:Scope}{dV kV doc pm cdv ct oc:Value}{an od:Option Addr}
  {osl:Array (Option Value)}{N ps:List Str}{sp:Sp}(lk:K.lookup f=some ⟨oc,od,.func (fnOf name qual params body scope dV kV doc pm an cdv ct),osl⟩)(hcd:codeIn K cdv qual=true)(S:jK N ps scope)
  (len:∀vs H Q E,sp vs H Q E->vs.length=ps.length)
  (hbody:∀(A:mj) (outer:List Env) (s:χ) (H:Hp) (vs:List V) (Q:VK) (E:XK),xA k (A.deeper (envOfC qual scope s.heap.objs.size f cdv))->sp vs H Q E →
   ∃t,PSs (aEl CX P w K mg base N qual scope f cdv A outer s H E) body t/\t { nx:=fun _ H'=>Q .non H',rt:=Q } (start N vs) H):
  jY P w K mg base CX (k+1) f (fnOf name qual params body scope dV kV doc pm an cdv ct) ps sp:=by
 refine⟨len,fun A outer s H args us vs Q E hr e0 hb r hsp=>?_⟩;have hl:=len _ _ _ _ hsp;have KX:K.In s.heap:=e0.mod.kin.keeps fun b o e=>(e0.bs b o e).1;have lim:s.heap.NoLimit:=e0.mod.nolimit.keeps fun b o e=>(e0.bs b o e).1;have hkind:∀y∈ps.zip us,scope.names.lookup y.1=some .local\/(scope.names.lookup y.1=some .cell/\((cellsFrom (s.heap.objs.size+1) scope.names []).lookup y.1).isSome=true):=fun ⟨n,v⟩ hy=>by
  rcases S.par n (List.of_mem_zip hy).1 with q|q
  ·exact .inl q
  ·exact .inr ⟨q,PySem.W.cellsFrom_some _ _ _ (.inl q)⟩
 refine codeAny_call_function hr.depth (KX _ _ lk) rfl S.co S.gen rfl (PySem.W.codeRec_of KX hcd) (hb _ _ _ _ ?_);refine wpAny_newFunctionEnv_cells S.kind hkind fun env he s1 x=>?_;subst he;refine⟨lim.keeps x.toInCall.keep,codeAny_func ?_⟩;obtain⟨t,ht,hq⟩:=hbody A outer s H vs Q E (hr.deeper _) hsp;have I:Inv (aEl CX P w K mg base N qual scope f cdv A outer s H E) [] (start N vs) H s1:=aIv S hr.hd e0 hl r x;refine mh (ht [] s1 (start N vs) H _ I hq) (fun fl s' hs=>?_) fun e s' hs=>hs;have fin:∀{σ':St}{H':Hp}{v:V}{u:Value},Inv (aEl CX P w K mg base N qual scope f cdv A outer s H E) [] σ' H' s'->RelV v u->Q v H'->CE outer P w H s Q u s' :=
  fun {σ' H' v u} J rv q=>⟨v,H',J.os,J.bare,J.base,J.hok,rv,q⟩
 cases fl with
 |ret u =>
  obtain⟨v,σ',H',J,rv,q⟩:=hs;exact fin J rv q
 |next =>
  obtain⟨σ',H',J,q⟩:=hs;exact fin (v:=V.non) (u:=Value.none) J rfl q
 |brk =>
  obtain⟨_,_,_,q⟩:=hs;exact ke q
 |cont =>
  obtain⟨_,_,_,q⟩:=hs;exact ke q
section
variable {X:Cx}{x:Str}{p pos:Pos}{e:Expr}{es:List Expr}{t:TA}{id T:String}{r:List V->Hp->VK->Prop}
def tCB (r:List V->Hp->VK->Prop) (t:TA):TE:=fun σ H Q=>t σ H fun vs H1=>r vs H1 Q
theorem jN(hc:vR X (.builtin id) r)(hg:Gl X x)(hm:X.mg x=none)(hv:oe x=some (.builtin id))(ha:PA X (e::es) t)(hn:x ≠ "__name__":=by decide)(hdb:(x == ("__debug__" : Str))=false:=by decide)
  (he:jk (e::es) X.env=(false,eval e X.env)::jk es X.env:=by rfl)(hpl:(uf pos (jk es X.env)).any (·.1)=false:=by rfl):PE X (.Call (.Name x p) (e::es) [] pos) (tCB r t):=by
 intro pins s σ H Q I h;refine ux (pE I hg hm hv ?_ hn hdb);exact PyProof.Rows.callWith_builtin1 (thn (ha pos pins s σ H _ I h) fun us s1 zq=>zq.el fun vs H1 I1 r1 q1=>hc pins s1 σ H1 vs us Q I1 r1 q1) he hpl
theorem qP(hc:vR X (.type T) r)(hg:Gl X x)(hm:X.mg x=none)(hv:oe x=some (.type T))(ha:PA X (e::es) t)(hn:x ≠ "__name__":=by decide)(hdb:(x == ("__debug__" : Str))=false:=by decide)
  (he:jk (e::es) X.env=(false,eval e X.env)::jk es X.env:=by rfl)(hpl:(uf pos (jk es X.env)).any (·.1)=false:=by rfl):PE X (.Call (.Name x p) (e::es) [] pos) (tCB r t):=by
 intro pins s σ H Q I h;refine ux (pE I hg hm hv ?_ hn hdb);exact tq (thn (ha pos pins s σ H _ I h) fun us s1 zq=>zq.el fun vs H1 I1 r1 q1=>hc pins s1 σ H1 vs us Q I1 r1 q1) he hpl
end
end L2
namespace HT
open PySem PyProof.Rows
section
open PySem.SeqAt
open PySem.AutoSeq1 (wpAny_loadPart')
open PySem.MeetsSeq PySem.MeetsSeq2 PySem.MeetsSeq3
end
section
variable {prog:lu}{w:my}{A:mj}{E:Value->χ->Prop}{s:χ}
theorem cat_tup{vs ws:List Value}{Q:Value->χ->Prop}(ht:IsTup s.heap t vs.toArray)(hb:IsTup s.heap b ws.toArray)(hv:vs≠[])
  (h1:ws=[]->Q (.ref t) s)(h2:ws≠[]->Q (.ref s.heap.objs.size) { s with heap:=s.heap.push { cls:=.type "tuple",data:=.seq (vs++ws).toArray } })
  (hsz:vs.length+ws.length<=τ):iz (jj prog w) A (qb .Add (.ref t) (.ref b)) Q E s:=by
 obtain⟨⟨cls,dd,data,sl⟩,ho,hc,n,hd⟩:=id ht;obtain⟨⟨cls2,dd2,data2,sl2⟩,ho2,hc2,n2,hd2⟩:=id hb;simp only at hc hd hc2 hd2;subst hc hd hc2 hd2;have e:vs.toArray++ws.toArray=(vs++ws).toArray:=by simp
 by_cases hw:ws=[]
 ·exact concat_meets ⟨_,ho,rfl⟩ ⟨_,ho2,rfl⟩ noFill_tuple_add seq_tuple_add vd vb (ui _ _)
   (tuple_addW1 t b vs.toArray ws.toArray n n2 dd dd2 sl sl2 (by simpa using hv) (by simp[hw])) ⟨ho,ho2,h1 hw⟩
 ·refine concat_meets ⟨_,ho,rfl⟩ ⟨_,ho2,rfl⟩ noFill_tuple_add seq_tuple_add vd vb (ui _ _)
   (tuple_addW2 t b vs.toArray ws.toArray n n2 dd dd2 sl sl2 (by simpa using hv) (by simpa using hw) (by rw[Φ,Φ];exact hsz)) ⟨ho,ho2,?_⟩
  rw[e];exact h2 hw
def sIx (n d:Nat):Option Int->Nat
 |none=>d
 |some v=>if v<0 then (v+(n:Int)).toNat else min v.toNat n
theorem sIx_none(n d:Nat):sIx n d none=d:=rfl
theorem sIx_nat(n d k:Nat):sIx n d (some (k:Int))=min k n:=by
 show(if (k:Int)<0 then ((k:Int)+(n:Int)).toNat else min (k:Int).toNat n)=min k n;rw[if_neg (by omega),Int.toNat_natCast]
theorem aQh(n d:Nat)(hd:d<=n)(o:Option Int):sIx n d o<=n:=by
 cases o with
 |none=>exact hd
 |some v =>
  show(if v<0 then (v+(n:Int)).toNat else min v.toNat n)<=n
  by_cases hv:v<0
  ·rw[if_pos hv];omega
  ·rw[if_neg hv];exact vt _ _
theorem aGt(v:Int)(n d:Nat):(if v<0 then max (v+(n:Int)) 0 else min v (n:Int))=((sIx n d (some v):Nat):Int):=by
 show(if v<0 then max (v+(n:Int)) 0 else min v (n:Int))=(((if v<0 then (v+(n:Int)).toNat else min v.toNat n):Nat):Int)
 by_cases hv:v<0
 ·simp only[if_pos hv];omega
 ·simp only[if_neg hv];omega
theorem aEp(lo hi:Option Int)(n:Nat):ue lo hi 1 (n:Int)=(((sIx n 0 lo:Nat):Int),((sIx n n hi:Nat):Int)):=by
 have h1:¬ ((1:Int)<0):=by omega
 unfold ue;simp only[h1,if_false];refine Prod.ext ?_ ?_
 ·cases lo with
  |none=>rfl
  |some v=>exact aGt v n 0
 ·cases hi with
  |none=>rfl
  |some v=>exact aGt v n n
theorem aFp(i j:Nat):qm (i:Int) (j:Int) 1=j-i:=by
 unfold qm;have h1:(1:Int) > 0:=by omega
 simp only[h1,if_true,Int.ediv_one]
 split <;> omega
theorem pI{Q:Option Int->χ->Prop}(p:IsPart v o)(h:Q o s):iz (jj prog w) A (si.Slice.slicePartIndex v) Q E s:=by
 cases p with
 |none=>exact slicePart_none h
 |int i t=>exact slicePart_int h
theorem iZ{lo:Option Int}{Q:Int×Int×Nat->χ->Prop}(hs:s.heap.IsSliceOf sl vl vu .none)(pl:IsPart vl lo)(pu:IsPart vu hi)
  (h:Q (((sIx n 0 lo:Nat):Int),1,sIx n n hi-sIx n 0 lo) s):iz (jj prog w) A (si.Slice.sliceApplied (.ref sl) (pure (n:Int))) Q E s:=by
 obtain⟨os,hos,hcs,hds⟩:=id hs;unfold si.Slice.sliceApplied si.Slice.sliceFields;refine ψ (ψ (wpAny_field hos hds (x:=vl) rfl (ψ (wpAny_field hos hds (x:=vu) rfl (ψ (wpAny_field hos hds (x:=.none) rfl (io ?_)))))));refine ψ (slicePart_none ?_);show iz _ _ (if ((1:Int) == 0)=true then _ else _) _ _ s;rw[if_neg (by decide)];refine ψ (pI pl (ψ (pI pu (ψ (io ?_)))));show iz _ _ (match ue lo hi 1 (n:Int) with|(lo,hi)=>pure (lo,(1:Int),qm lo hi 1)) _ _ s;rw[aEp lo hi n];show iz _ _ (pure (((sIx n 0 lo:Nat):Int),(1:Int),qm ((sIx n 0 lo:Nat):Int) ((sIx n n hi:Nat):Int) 1)) _ _ s;rw[aFp];exact io h
theorem aMs(xs:Array Value)(i k:Nat):((ir k).filterMap fun (m:Nat)=>xs[((i:Int)+(m:Int)*1).toNat]?).toArray=((xs.toList.drop i).take k).toArray:=by
 have e:(fun (m:Nat)=>xs[((i:Int)+(m:Int)*1).toNat]?)=fun m=>xs[i+m]?:=by
  funext m
  have:((i:Int)+(m:Int)*1).toNat=i+m:=by omega
  rw[this]
 rw[e];have:=pick_run xs i k;rw[List.filterMap_map]at this;have e2:((fun x=>xs[x]?)∘fun x=>i+x)=fun m=>xs[i+m]?:=rfl;rw[e2]at this;rw[this]
theorem getItem_tuple_cut{lo:Option Int}{Q:Value->χ->Prop}(ht:IsTup s.heap t items)(hs:s.heap.IsSliceOf sl vl vu .none)(pl:IsPart vl lo)(pu:IsPart vu hi)
  (hw:¬ (sIx items.size 0 lo=0/\sIx items.size items.size hi=items.size))
  (h:Q (.ref s.heap.objs.size) { s with heap:=s.heap.push { cls:=.type "tuple",data:=.seq ((items.toList.drop (sIx items.size 0 lo)).take (sIx items.size items.size hi-sIx items.size 0 lo)).toArray } })
  (hsz:items.size<=τ):iz (jj prog w) A (getItem (.ref t) (.ref sl)) Q E s:=by
 have htake:sizeOk (.seq ((items.toList.drop (sIx items.size 0 lo)).take (sIx items.size items.size hi-sIx items.size 0 lo)).toArray):=by
  show((items.toList.drop (sIx items.size 0 lo)).take (sIx items.size items.size hi-sIx items.size 0 lo)).toArray.size<=τ;rw[Φ,ib,rl,lj];omega
 have hj:sIx items.size items.size hi<=items.size:=aQh _ _ (ξ _) hi;obtain⟨os,hos,hcs,hds⟩:=id hs;have hTs:s.TypeIs (.ref sl) "slice":=⟨os,hos,hcs⟩;unfold getItem
 try with_reducible refine qf ?_
 first|refine ψ (io ?_)|skip
 refine ψ (wpAny_sequenceKey ht.typeIs (by decide) ?_);refine ψ (wpAny_callSpecial?_slot (name:=η "__getitem__") ht.typeIs qz
  (vw qz ht.typeIs entry_tuple_getitem ?_ (args_tuple_getitem _ _)))
 show iz _ _ (si.Tuple.tupleItemsOf (.ref t) >>= _) _ _ s;refine ψ (tupleItemsOf_ ht ?_);refine ψ (wpAny_typeOf hTs ?_);rw[if_pos (by decide)];refine ψ (iZ hs pl pu ?_);have hno:¬ ((((sIx items.size 0 lo:Nat):Int) == 0&&(1:Int) == 1&&(sIx items.size items.size hi-sIx items.size 0 lo) == items.size)=true):=by
  intro q;rw[kf,kf]at q;have q1:((sIx items.size 0 lo:Nat):Int)=0:=eq_of_beq q.1.1;have q2:sIx items.size items.size hi-sIx items.size 0 lo=items.size:=eq_of_beq q.2;exact hw ⟨by omega,by omega⟩
 show iz _ _ (if (((sIx items.size 0 lo:Nat):Int) == 0&&(1:Int) == 1&&(sIx items.size items.size hi-sIx items.size 0 lo) == items.size)=true then _ else _) _ _ s;rw[if_neg hno,aMs]
 first
  |exact ψ (m:=qw _) (qr (io ⟨_,rfl,io h⟩) htake)
  |exact ψ (m:=qw _) (qr (ψ (io (io ⟨_,rfl,io h⟩))) htake)
  |exact ψ (ψ (m:=qw _) (qr (io (io ⟨_,rfl,io h⟩)) htake))
  |exact ψ (ψ (m:=qw _) (qr (io ⟨_,rfl,io h⟩) htake))
end
end HT
namespace L2
open PySem PySem.Spec PyProof.Rows
abbrev TO:=St->Hp->(Option Int->Hp->Prop)->Prop
def PO (X:Cx) (e:Option Expr) (t:TO):Prop :=
 ∀(pins:List (Addr×Obj)) (s:χ) (σ:St) (H:Hp) (Q:Option Int->Hp->Prop),Inv X pins σ H s->t σ H Q →
  iz (jj X.prog X.w) X.A (evalPart e X.env) (fun u s'=>∃o H',Inv X pins σ H' s'/\IsPart u o/\Q o H') X.xe s
def aNj:TO:=fun _ H Q=>Q none H
inductive aGs (Q:Option Int->Hp->Prop) (x:V) (H1:Hp):Prop|mk:∀i,x=.int i->Q (some i) H1->aGs Q x H1
def tPart (t:TE):TO:=fun σ H Q=>t σ H fun x H1=>aGs Q x H1
theorem intsAre_of{ns:List Int}: ∀{us:List Value},kJ (ns.map V.int) us->IntsAre us ns:=by
 induction ns with
 |nil=>intro us r;rw[List.map_nil]at r;cases r;exact .nil
 |cons n ns ih =>
  intro us r;rw[ki]at r;cases r with
  |cons r1 r2 =>
   obtain⟨t,e⟩:=r1;subst e;exact .cons n t (ih r2)
section
variable {X:Cx}{e:Expr}{te:TE}{lo hi:Option Expr}{tl th:TO}{pos p2:Pos}
theorem vO:PO X none aNj:=by
 intro pins s σ H Q I h;rw[evalPart_none];exact io ⟨none,H,I,.none,h⟩
theorem vN(h:PE X e te):PO X (some e) (tPart te):=by
 intro pins s σ H Q I hw;rw[evalPart_some];refine thn (h pins s σ H _ I hw) fun u s1 zq=>?_;obtain⟨x,H1,I1,r1,q1⟩:=zq;obtain⟨i,rfl,q⟩:=q1;obtain⟨t,rfl⟩:=r1;exact⟨some i,H1,I1,.int i t,q⟩
def SlR (X:Cx) (r:V->Option Int->Option Int->Hp->VK->Prop):Prop :=
 ∀(pins:List (Addr×Obj)) (s:χ) (σ:St) (H:Hp) (x:V) (v vl vu:Value) (lo hi:Option Int) (sl:Addr) (Q:VK),Inv X pins σ H s->RelV x v->s.heap.IsSliceOf sl vl vu .none->IsPart vl lo->IsPart vu hi->r x lo hi H Q →
  ∃T id,typeLookup (.type T) "__getitem__" = pure (some (.builtin id))/\s.TypeIs v T/\iz (jj X.prog X.w) X.A (getItem v (.ref sl)) (EP X pins σ Q) X.xe s
theorem SlR.or{r r':V->Option Int->Option Int->Hp->VK->Prop}(h:SlR X r)(h':SlR X r'):SlR X (fun x lo hi H Q=>r x lo hi H Q\/r' x lo hi H Q):=by
 intro pins s σ H x v vl vu lo hi sl Q I rx hs pl pu q;rcases q with q|q
 ·exact h pins s σ H x v vl vu lo hi sl Q I rx hs pl pu q
 ·exact h' pins s σ H x v vl vu lo hi sl Q I rx hs pl pu q
def tSl (r:V->Option Int->Option Int->Hp->VK->Prop) (te:TE) (tl th:TO):TE:=fun σ H Q=>te σ H fun x H1=>tl σ H1 fun l H2=>th σ H2 fun u H3=>r x l u H3 Q
theorem qX(hr:SlR X r)(he:PE X e te)(hl:PO X lo tl)(hu:PO X hi th):PE X (.Subscript e (.Slice lo hi none p2) pos) (tSl r te tl th):=by
 intro pins s σ H Q I h;refine Subscript_ (thn (he pins s σ H _ I h) fun v s1 zq=>?_);obtain⟨x,H1,I1,r1,q1⟩:=zq;refine wpAny_Slice (thn (hl pins s1 σ H1 _ I1 q1) fun vl s2 ⟨l,H2,I2,pl,q2⟩=>thn (hu pins s2 σ H2 _ I2 q2) fun vu s3 zq=>?_);obtain⟨u,H3,I3,pu,q3⟩:=zq;rw[evalPart_none];refine io ?_;have I4:Inv X pins σ H3 { s3 with heap:=s3.heap.push { cls:=.type "slice",data:=.fields #[vl,vu,.none] } }:=I3.kept (t':=s3.toks) fun b ob q=>Θ _ q;obtain⟨T,id,hT,ht,hg⟩:=hr pins { s3 with heap:=s3.heap.push { cls:=.type "slice",data:=.fields #[vl,vu,.none] } } σ H3 x v vl vu l u s3.heap.objs.size Q I4 r1 (nc.IsSliceOf.new ..) pl pu q3;show iz (jj X.prog X.w) X.A (subscriptTail e (.Slice lo hi none p2) v (.ref s3.heap.objs.size)) (EP X pins σ Q) X.xe { s3 with heap:=s3.heap.push { cls:=.type "slice",data:=.fields #[vl,vu,.none] } };exact tail_any (ops:=[.ref s3.heap.objs.size,v]) ht hT hg (by with_unfolding_all rfl)
def yN (xs:List V) (lo hi:Option Int):List V:=(xs.drop (HT.sIx xs.length 0 lo)).take (HT.sIx xs.length xs.length hi-HT.sIx xs.length 0 lo)
theorem mU(xs:List V)(lo hi:Option Int):(yN xs lo hi).length<=xs.length:=by
 unfold yN;rw[ib,rl];omega
def rSlT (K:ς):V->Option Int->Option Int->Hp->VK->Prop:=fun x lo hi H Q=>∃a xs,x=.ref a/\SqT K H a xs ∧
 ¬ (HT.sIx xs.length 0 lo=0/\HT.sIx xs.length xs.length hi=xs.length)/\∀p,H p=none->Q (.ref p) (upd H p (.tup (yN xs lo hi)))
theorem wG:SlR X (rSlT X.K):=by
 intro pins s σ H x v vl vu lo hi sl Q I rx hs pl pu h;obtain⟨a,xs,rfl,hx,hw,q⟩:=h;cases rx;obtain⟨its,r,ht,hz⟩:=I.tuple hx;have hlen:its.toArray.size=xs.length:=by rw[Φ];exact r.length.symm
 refine⟨"tuple",_,qz.lookup,ht.typeIs,?_⟩;refine HT.getItem_tuple_cut ht hs pl pu (by rw[hlen];exact hw) ?_ (by rw[hlen];exact hz);rw[hlen];refine⟨.ref s.heap.objs.size,_,I.laid (t':=s.toks) (o:=.tup (yN xs lo hi)) (fun b ob q=>Θ _ q) (ξ _) ?_,rfl,q _ (I.hok.fresh (ξ _))⟩;exact⟨iq (mU xs lo hi) hz,_,(r.drop (HT.sIx xs.length 0 lo)).take (HT.sIx xs.length xs.length hi-HT.sIx xs.length 0 lo),IsTup.new _ _⟩
def rCatT (K:ς):R2:=fun x y H Q=>∃a b xs ys,x=.ref a/\y=.ref b/\SqT K H a xs/\SqT K H b ys/\xs≠[]/\xs.length+ys.length<=τ ∧
 (ys=[]->Q (.ref a) H)/\(ys≠[]->∀p,H p=none->Q (.ref p) (upd H p (.tup (xs++ys))))
theorem kJ.nil_iff(r:kJ xs us):us=[] ↔ xs=[]:=by
 cases r with
 |nil=>simp
 |cons _ _=>simp
theorem aNg:OpR X (qb .Add) (rCatT X.K):=by
 intro pins s σ H x y v u Q I rx ry h;obtain⟨a,b,xs,ys,rfl,rfl,ha,hb,hx,hz,q1,q2⟩:=h;cases rx;cases ry;obtain⟨its,r1,p1,_⟩:=I.tuple ha;obtain⟨its2,r2,p2,_⟩:=I.tuple hb;refine HT.cat_tup p1 p2 (fun z=>hx (r1.nil_iff.mp z)) (fun z=>⟨.ref a,H,I,rfl,q1 (r2.nil_iff.mp z)⟩) (fun z=>?_) (by rw[←r1.length,←r2.length];exact hz);refine⟨.ref s.heap.objs.size,_,I.laid (t':=s.toks) (o:=.tup (xs++ys)) (fun b ob q=>Θ _ q) (ξ _) ?_,rfl,q2 (fun w=>z (r2.nil_iff.mpr w)) _ (I.hok.fresh (ξ _))⟩;exact⟨by rw[ν];exact hz,_,r1.append r2,IsTup.new _ _⟩
end
def ixN (n:Nat) (i:Int):Option Nat:=if 0<=i then (if i<n then some i.toNat else none) else if -(n:Int)<=i then some (i+n).toNat else none
def atI {α : Type}(xs:List α) (i:Int):Option α:=(ixN xs.length i).bind fun j=>xs[j]?
theorem aGu{i:Int}(h:ixN n i=some j):seqIndex? i n=some j/\j<n/\-(n:Int)<=i/\i<n:=by
 unfold ixN at h
 by_cases h0 : 0<=i
 ·rw[if_pos h0]at h
  by_cases h1:i<n
  ·rw[if_pos h1]at h;have e:i.toNat=j:=jv h;exact⟨by rw[seqIndex_of h0 h1,e],by omega,by omega,h1⟩
  ·rw[if_neg h1]at h;cases h
 ·rw[if_neg h0]at h
  by_cases h1 : -(n:Int)<=i
  ·rw[if_pos h1]at h;have e:(i+n).toNat=j:=jv h;exact⟨by rw[seqIndex_neg (by omega) h1,e],by omega,h1,by omega⟩
  ·rw[if_neg h1]at h;cases h
theorem aAa{α : Type}{xs:List α}{i:Int}{v : α}(h:atI xs i=some v):∃j,seqIndex? i xs.length=some j/\xs[j]?=some v/\j<xs.length/\-(xs.length:Int)<=i/\i<xs.length:=by
 unfold atI at h;cases e:ixN xs.length i with
 |none=>rw[e]at h;cases h
 |some j =>
  rw[e]at h;obtain⟨h1,h2,h3,h4⟩:=aGu e;exact⟨j,h1,h,h2,h3,h4⟩
theorem vT{α : Type}{xs:List α}{j:Nat}{v : α}(h:xs[j]?=some v):atI xs (j:Int)=some v:=by
 have hj:j<xs.length:=(ε.mp h).1;have e:ixN xs.length (j:Int)=some j:=by
  unfold ixN;rw[if_pos (by omega),if_pos (by omega)];simp
 unfold atI;rw[e];exact h
theorem aMu{α : Type}(xs:List α)(v : α):atI (xs++[v]) (-1)=some v:=by
 have hl:(xs++[v]).length=xs.length+1:=by simp
 have e:ixN (xs++[v]).length (-1)=some xs.length:=by
  unfold ixN;rw[hl,if_neg (by decide),if_pos (by omega)]
  congr 1
  omega
 unfold atI;rw[e];show(xs++[v])[xs.length]?=some v;simp
def wD (b:Expr):Prop:=∀o i,subscripted b false o i=operate [o,i] (getItem o i)
def IxR (X:Cx) (r:R2):Prop :=
 ∀(value slice:Expr) (pins:List (Addr×Obj)) (s:χ) (σ:St) (H:Hp) (x y:V) (v u:Value) (Q:VK),Inv X pins σ H s->RelV x v->RelV y u->r x y H Q →
  subscripted slice false v u=operate [v,u] (getItem v u)->iz (jj X.prog X.w) X.A (subscriptTail value slice v u) (EP X pins σ Q) X.xe s
def MtR (X:Cx) (id:String) (r:V->List V->Hp->VK->Prop):Prop :=
 ∀(pins:List (Addr×Obj)) (s:χ) (σ:St) (H:Hp) (x:V) (xs:List V) (v:Value) (us:List Value) (Q:VK),Inv X pins σ H s->RelV x v->kJ xs us->r x xs H Q →
  iz (jj X.prog X.w) X.A (call (.builtin id) (v::us)) (EP X pins σ Q) X.xe s
section
variable {X:Cx}{a b:Expr}{ta tb:TE}{pos:Pos}
theorem IxR.or{r r':R2}(h:IxR X r)(h':IxR X r'):IxR X (fun x y H Q=>r x y H Q\/r' x y H Q):=by
 intro value slice pins s σ H x y v u Q I rx ry q hs;rcases q with q|q
 ·exact h value slice pins s σ H x y v u Q I rx ry q hs
 ·exact h' value slice pins s σ H x y v u Q I rx ry q hs
theorem MtR.or{id:String}{r r':V->List V->Hp->VK->Prop}(h:MtR X id r)(h':MtR X id r'):MtR X id (fun x xs H Q=>r x xs H Q\/r' x xs H Q):=by
 intro pins s σ H x xs v us Q I rx rs q;rcases q with q|q
 ·exact h pins s σ H x xs v us Q I rx rs q
 ·exact h' pins s σ H x xs v us Q I rx rs q
theorem aPx(hr:IxR X r)(ha:PE X a ta)(hb:PE X b tb)(hs:wD b):PE X (.Subscript a b pos) (tOp r ta tb):=by
 intro pins s σ H Q I h;exact Subscript_ (binT ha hb I h fun v u s2 x y H2 I2 rx ry q=>hr a b pins s2 σ H2 x y v u Q I2 rx ry q (hs _ _))
inductive aMc (K:ς) (x:V) (y:V) (H:Hp) (Q:VK):Prop|mk:∀p xs i v,x=.ref p->y=.int i->SqL K H p xs->atI xs i=some v->Q v H->aMc K x y H Q
def aMt (K:ς):R2:=fun x y H Q=>aMc K x y H Q
inductive aLk (K:ς) (x:V) (y:V) (H:Hp) (Q:VK):Prop|mk:∀p xs i v,x=.ref p->y=.int i->SqT K H p xs->atI xs i=some v->Q v H->aLk K x y H Q
def rIxT (K:ς):R2:=fun x y H Q=>aLk K x y H Q
def rIxS:R2:=fun x y H Q=>∃z i c,x=.str z/\y=.int i/\z.length<=τ/\atI z.cps.toList i=some c/\Q (.str ⟨#[c]⟩) H
theorem jX:IxR X (aMt X.K):=by
 intro value slice pins s σ H x y v u Q I rx ry h hs;obtain⟨p,xs,i,z,rfl,rfl,hq,he,q⟩:=h;cases rx;obtain⟨t,rfl⟩:=ry;obtain⟨its,r,pl,hz⟩:=I.list hq;obtain⟨j,h1,h2,h3,h4,h5⟩:=aAa he;obtain⟨w,ew,rw'⟩:=r.get h2;have hl:=r.length;have hn:=fL;have fin:EP X pins σ Q w s:=⟨z,H,I,rw',q⟩
 by_cases h0 : 0<=i
 ·have hj:i.toNat=j:=by
   rw[seqIndex_of h0 h5]at h1;exact jv h1
  exact item_listR pl.isList h0 (by omega) (by rw[hj];simpa using ew) fin hs
 ·have hj:(i+(its.toArray.size:Int)).toNat=j:=by
   rw[seqIndex_neg (by omega) h4]at h1;rw[Φ,←hl];exact jv h1
  exact subscriptTail_builtinR (x:=w) pl.isList.typeIs slot_list_getitem.lookup
   (wpAny_getItem_list_neg (Q:=fun r s'=>r=w/\EP X pins σ Q r s') pl.isList (by omega) (by rw[Φ] <;> omega) (by omega) (by rw[hj];simpa using ew) ⟨rfl,fin⟩) hs
theorem jQ:IxR X (rIxT X.K):=by
 intro value slice pins s σ H x y v u Q I rx ry h hs;obtain⟨p,xs,i,z,rfl,rfl,hq,he,q⟩:=h;cases rx;obtain⟨t,rfl⟩:=ry;obtain⟨its,r,pl,hz⟩:=I.tuple hq;obtain⟨j,h1,h2,h3,h4,h5⟩:=aAa he;obtain⟨w,ew,rw'⟩:=r.get h2;have hl:=r.length;have hn:=fL;have fin:EP X pins σ Q w s:=⟨z,H,I,rw',q⟩;exact subscriptTail_builtinR (x:=w) pl.typeIs slot_tuple_getitem.lookup
  (getItem_tuple (j:=j) (Q:=fun r s'=>r=w/\EP X pins σ Q r s') pl (by omega) (by omega) (by rw[Φ,←hl];exact h1) (by simpa using ew) ⟨rfl,fin⟩) hs
theorem aFc:IxR X rIxS:=by
 intro value slice pins s σ H x y v u Q I rx ry h hs;obtain⟨z,i,c,rfl,rfl,hz,he,q⟩:=h;obtain⟨t,rfl⟩:=rx;obtain⟨t',rfl⟩:=ry;obtain⟨j,h1,h2,h3,h4,h5⟩:=aAa he;have hl:z.cps.toList.length=z.length:=by simp[Str.length]
 rw[hl]at h1 h4 h5;have hn:=fL;exact tail_any (typeIs_str s z t) slot_str_getitem.lookup (getItem_str (c:=c) (by
  have e1:decide (i < -(2 ^ 63:Int))=false:=decide_eq_false (by omega);have e2:decide (i≥2 ^ 63)=false:=decide_eq_false (by omega);rw[e1,e2,Bool.or_false]) (by rw[h1];simpa using h2) ⟨.str ⟨#[c]⟩,H,I.tok _,⟨_,rfl⟩,q⟩) hs
theorem aFb(its:List Value)(n j:Nat)(u:Value):Obj.mapSeq (·.setIfInBounds j u) { cls:=.type "list",data:=.seq its.toArray n }={ cls:=.type "list",data:=.seq (its.set j u).toArray n }:=by
 simp[Obj.mapSeq]
theorem Inv.lst{pins:List (Addr×Obj)}{σ:St}{H:Hp}{s:χ}{p:Addr}{xs:List V}(I:Inv X pins σ H s)(h:H p=some (.lst xs)):
  ∃(its:List Value) (n:Nat),kJ xs its/\s.heap.get? p=some { cls:=.type "list",data:=.seq its.toArray n }/\xs.length<=τ:=by
 obtain⟨z,its,n,r,e⟩:=I.hok p _ h;exact⟨its,n,r,e,z⟩
theorem Inv.lstUpd{H:Hp}{s:χ}{its its':List Value}{f:Obj->Obj}(I:Inv X pins σ H s)(h:H p=some (.lst xs))
  (ho:s.heap.get? p=some { cls:=.type "list",data:=.seq its.toArray n })(hf:f { cls:=.type "list",data:=.seq its.toArray n }={ cls:=.type "list",data:=.seq its'.toArray n' })(r:kJ ys its')(hz:ys.length<=τ)(t:Nat):
  Inv X pins σ (upd H p (.lst ys)) { s with heap:=s.heap.update p f,toks:=t }:=by
 have e:(s.heap.update p f).get? p=some { cls:=.type "list",data:=.seq its'.toArray n' }:=by
  rw[nc.get?_update_self f ho (by rw[hf] <;> rfl),hf]
 refine I.write (x:=p) (e:=p) (by rw[h];trivial) (.inl rfl) (fun b u hb q=>(sj _ _ (lm hb)).trans q) ⟨_,e⟩ ?_;exact⟨hz,its',n',r,e⟩
def rSetL:V->V->V->Hp->(Hp->Prop)->Prop:=fun o i v H Q=>∃p xs k j,o=.ref p/\i=.int k/\H p=some (.lst xs)/\ixN xs.length k=some j/\Q (upd H p (.lst (xs.set j v)))
theorem set_list:PSet X rSetL:=by
 intro pins s σ H o i v ov iv u Q I ro ri rv h;obtain⟨p,xs,k,j,rfl,rfl,hp,hj,q⟩:=h;cases ro;obtain⟨t,rfl⟩:=ri;obtain⟨its,n,r,ho,hz⟩:=I.lst hp;obtain⟨h1,h2,h3,h4⟩:=aGu hj;have hl:=r.length;have hn:=fL;have I':Inv X pins σ (upd H p (.lst (xs.set j v))) { s with heap:=s.heap.update p (Obj.mapSeq (·.setIfInBounds j u)) } :=
  I.lstUpd hp ho (aFb its n j u) (r.set rv j) (by rw[uo];exact hz) s.toks
 by_cases h0 : 0<=k
 ·have hk:k.toNat=j:=by
   rw[seqIndex_of h0 h4]at h1;exact jv h1
  exact PySem.W.ki_setAt ho h0 (by omega) (by rw[Φ,←hl];exact h4) (by rw[hk];exact⟨_,I',q⟩)
 ·have hk:(k+(its.toArray.size:Int)).toNat=j:=by
   rw[seqIndex_neg (by omega) h3]at h1;rw[Φ,←hl];exact jv h1
  exact PySem.W.ki_setBack ho (by omega) (by rw[Φ,←hl];exact h3) (by omega) (by rw[hk];exact⟨_,I',q⟩)
theorem uU(lo hi:Option Int)(n:Nat):(vc lo hi none n).1=((HT.sIx n 0 lo:Nat):Int)/\(vc lo hi none n).2.1=((HT.sIx n n hi:Nat):Int)/\(vc lo hi none n).2.2=1:=by
 refine⟨?_,?_,rfl⟩
 ·cases lo with
  |none=>simp[vc,HT.sIx]
  |some i =>
   simp only[vc,HT.sIx,Option.getD_none,show(1:Int) > 0 by decide,if_true]
   by_cases h:i<0
   ·simp only[h,if_true] <;> omega
   ·simp only[h,if_false] <;> omega
 ·cases hi with
  |none=>simp[vc,HT.sIx]
  |some i =>
   simp only[vc,HT.sIx,Option.getD_none,show(1:Int) > 0 by decide,if_true]
   by_cases h:i<0
   ·simp only[h,if_true] <;> omega
   ·simp only[h,if_false] <;> omega
theorem sJ(its:List Value)(lo hi:Option Int):slicePick its.toArray lo hi none=((its.drop (HT.sIx its.length 0 lo)).take (HT.sIx its.length its.length hi-HT.sIx its.length 0 lo)).toArray:=by
 obtain⟨h1,h2,h3⟩:=uU lo hi its.toArray.size;unfold slicePick;rw[h1,h2,h3];simp only[sliceRange_one,pick_run,Φ] <;> rfl
inductive aMy (K:ς) (x:V) (lo:Option Int) (hi:Option Int) (H:Hp) (Q:VK):Prop|mk:∀a xs,x=.ref a->SqL K H a xs->(∀p,H p=none->Q (.ref p) (upd H p (.lst (yN xs lo hi))))->aMy K x lo hi H Q
def rSlL (K:ς):V->Option Int->Option Int->Hp->VK->Prop:=fun x lo hi H Q=>aMy K x lo hi H Q
theorem xX:SlR X (rSlL X.K):=by
 intro pins s σ H x v vl vu lo hi sl Q I rx hs pl pu h;obtain⟨a,xs,rfl,hx,q⟩:=h;cases rx;obtain⟨its,r,ht,hz⟩:=I.list hx;have hlen:=r.length;refine⟨"list",_,slot_list_getitem.lookup,ht.isList.typeIs,?_⟩;refine wpAny_getItem_list_slice ht.isList hs pl pu .none (by simp) ?_ (by rw[Φ] <;> omega);rw[sJ,←hlen];refine⟨.ref s.heap.objs.size,_,I.laid (t':=s.toks) (o:=.lst (yN xs lo hi)) (fun b ob q=>Θ _ q) (ξ _) ?_,rfl,q _ (I.hok.fresh (ξ _))⟩;exact⟨iq (mU xs lo hi) hz,_,0,(r.drop (HT.sIx xs.length 0 lo)).take (HT.sIx xs.length xs.length hi-HT.sIx xs.length 0 lo),jb _ rfl⟩
def hE:V->Bool
 |.non=>true
 |.bl _=>true
 |.int _=>true
 |.str _=>true
 |_=>false
def eqV:V->V->Bool
 |.non,.non=>true
 |.bl a,.bl b=>a == b
 |.bl a,.int b=>(if a then 1 else 0) == b
 |.int a,.bl b=>a == (if b then 1 else 0)
 |.int a,.int b=>a == b
 |.str a,.str b=>a == b
 |_,_=>false
theorem aQm(ry:RelV y u)(rx:RelV x v)(fy:hE y=true)(fx:hE x=true):mq A s u v (eqV y x):=by
 cases y with
 |non =>
  cases ry;cases x with
  |non=>cases rx;exact mq.same _
  |bl b=>cases rx;exact mq.none_bool b
  |int b=>obtain⟨t,rfl⟩:=rx;exact mq.none_int b t
  |str b=>obtain⟨t,rfl⟩:=rx;exact mq.none_str b t
  |_=>exact absurd (show false=true from fx) π
 |bl a =>
  cases ry;cases x with
  |non=>cases rx;exact mq.bool_none a
  |bl b=>cases rx;exact mq.bool_bool a b
  |int b=>obtain⟨t,rfl⟩:=rx;exact mq.bool_int a b t
  |str b=>obtain⟨t,rfl⟩:=rx;exact mq.bool_str a b t
  |_=>exact absurd (show false=true from fx) π
 |int a =>
  obtain⟨t',rfl⟩:=ry;cases x with
  |non=>cases rx;exact mq.int_none a t'
  |bl b=>cases rx;exact mq.int_bool a t' b
  |int b=>obtain⟨t,rfl⟩:=rx;exact mq.int_int a t' b t
  |str b=>obtain⟨t,rfl⟩:=rx;exact mq.int_str a t' b t
  |_=>exact absurd (show false=true from fx) π
 |str a =>
  obtain⟨t',rfl⟩:=ry;cases x with
  |non=>cases rx;exact mq.str_none a t'
  |bl b=>cases rx;exact mq.str_bool a t' b
  |int b=>obtain⟨t,rfl⟩:=rx;exact mq.str_int a t' b t
  |str b=>obtain⟨t,rfl⟩:=rx;exact mq.str_str a t' b t
  |_=>exact absurd (show false=true from fx) π
 |_=>exact absurd (show false=true from fy) π
def eqU (x:V) (u:Value):Bool:=match u with
 |.none=>eqV .non x
 |.bool b=>eqV (.bl b) x
 |.int i _=>eqV (.int i) x
 |.str z _=>eqV (.str z) x
 |_=>false
theorem aMx(r:RelV y u)(f:hE y=true):eqU x u=eqV y x:=by
 cases y with
 |non=>cases r;rfl
 |bl b=>cases r;rfl
 |int i=>obtain⟨t,rfl⟩:=r;rfl
 |str z=>obtain⟨t,rfl⟩:=r;rfl
 |_=>exact absurd (show false=true from f) π
theorem iD : ∀{xs:List V}{us:List Value},kJ xs us->xs.all hE=true->us.any (eqU x)=xs.any fun y=>eqV y x
 |_,_,.nil,_=>rfl
 |y::xs,u::us,.cons r t,f=>by
  rw[List.all_cons,kf]at f;rw[wb,wb,aMx r f.1,iD t f.2]
theorem eG(rx:RelV x v)(fx:hE x=true):∀{xs:List V}{us:List Value},kJ xs us->xs.all hE=true->∀u∈us,mq A s u v (eqU x u)
 |_,_,.nil,_=>fun u hu=>by cases hu
 |y::xs,u::us,.cons r t,f=>fun u' hu=>by
  rw[List.all_cons,kf]at f;rcases Ξ.mp hu with rfl|hu
  ·rw[aMx r f.1];exact aQm r rx f.1 fx
  ·exact eG rx fx t f.2 u' hu
def inV (x:V) (xs:List V):Bool:=xs.any fun y=>eqV y x
def rIn (K:ς) (neg:Bool):R2:=fun x y H Q=>∃p xs,y=.ref p/\(SqL K H p xs\/SqT K H p xs)/\hE x=true/\xs.all hE=true/\Q (.bl (if neg then !inV x xs else inV x xs)) H
theorem lO:OpR X (lh .In) (rIn X.K false):=by
 intro pins s σ H x y v u Q I rx ry h;obtain⟨p,xs,rfl,hq,fx,fs,q⟩:=h;cases ry;rcases hq with hq|hq
 ·obtain⟨its,r,pl,hz⟩:=I.list hq;refine SeqAt.in_listAt (eqU x) pl.isList (fun w hw=>eG rx fx r fs w (by simpa using hw)) ⟨.bl _,H,I,rfl,?_⟩;rw[show its.toArray.any (eqU x)=its.any (eqU x) by simp,iD r fs];exact q
 ·obtain⟨its,r,pl,hz⟩:=I.tuple hq;refine SeqAt.in_tupleAt (eqU x) pl (fun w hw=>eG rx fx r fs w (by simpa using hw)) ⟨.bl _,H,I,rfl,?_⟩;rw[show its.toArray.any (eqU x)=its.any (eqU x) by simp,iD r fs];exact q
theorem uV:OpR X (lh .NotIn) (rIn X.K true):=by
 intro pins s σ H x y v u Q I rx ry h;obtain⟨p,xs,rfl,hq,fx,fs,q⟩:=h;cases ry;rcases hq with hq|hq
 ·obtain⟨its,r,pl,hz⟩:=I.list hq;refine SeqAt.notIn_listAt (eqU x) pl.isList (fun w hw=>eG rx fx r fs w (by simpa using hw)) ⟨.bl _,H,I,rfl,?_⟩;rw[show its.toArray.any (eqU x)=its.any (eqU x) by simp,iD r fs];exact q
 ·obtain⟨its,r,pl,hz⟩:=I.tuple hq;refine SeqAt.notIn_tupleAt (eqU x) pl (fun w hw=>eG rx fx r fs w (by simpa using hw)) ⟨.bl _,H,I,rfl,?_⟩;rw[show its.toArray.any (eqU x)=its.any (eqU x) by simp,iD r fs];exact q
theorem kI:vR X (.builtin "len") (fun xs H Q=>∃p ys,xs=[.ref p]/\(SqL X.K H p ys\/SqT X.K H p ys)/\Q (.int ys.length) H):=by
 intro pins s σ H xs us Q I r h;obtain⟨p,ys,rfl,hq,q⟩:=h;obtain⟨u,rfl,rx⟩:=vals1 r;cases rx;have hn:=fL;rcases hq with hq|hq
 ·obtain⟨its,r',pl,hz⟩:=I.list hq;have hlen:=r'.length;exact Calls.call_len_list pl.isList (by simp only[Φ] <;> omega) ⟨.int ys.length,H,I.tok _,⟨s.toks+1,by rw[Φ,hlen]⟩,q⟩
 ·obtain⟨its,r',pl,hz⟩:=I.tuple hq;have hlen:=r'.length;exact len_tuple pl (by simp only[Φ] <;> omega) ⟨.int ys.length,H,I.tok _,⟨s.toks+1,by rw[Φ,hlen]⟩,q⟩
theorem vR.or{r r':List V->Hp->VK->Prop}(h:vR X f r)(h':vR X f r'):vR X f (fun xs H Q=>r xs H Q\/r' xs H Q):=by
 intro pins s σ H xs us Q I rs q;rcases q with q|q
 ·exact h pins s σ H xs us Q I rs q
 ·exact h' pins s σ H xs us Q I rs q
theorem uB:vR X (.type "list") (fun xs H Q=>∃p ys,xs=[.ref p]/\(SqL X.K H p ys\/SqT X.K H p ys)/\∀l,H l=none->Q (.ref l) (upd H l (.lst ys))):=by
 intro pins s σ H xs us Q I r h;obtain⟨p,ys,rfl,hq,q⟩:=h;obtain⟨u,rfl,rx⟩:=vals1 r;cases rx;have fin:∀(its:List Value),kJ ys its->ys.length<=τ->∀(h':nc) (c':Nat),(∀b o',s.heap.get? b=some o'->h'.get? b=some o') →
   h'.get? s.heap.objs.size=some { cls:=.type "list",dict:=none,data:=.seq its.toArray c',slots:=#[] }->EP X pins σ Q (.ref s.heap.objs.size) { s with heap:=h' }:=fun its r' hz h' c' kp e =>
  ⟨.ref s.heap.objs.size,_,I.laid (t':=s.toks) kp (ξ _) (show vE X.prog X.w _ h' _ (.lst ys) from⟨hz,its,c',r',e⟩),rfl,q _ (I.hok.fresh (ξ _))⟩
 rcases hq with hq|hq
 ·obtain⟨its,r',pl,hz⟩:=I.list hq;have hlen:=r'.length;obtain⟨o,ho,hc,n,hd⟩:=pl.isList;exact call_list_seq p (.inl rfl) ho hc hd (fun h' c' kp e=>fin its r' hz h' c' kp e) (by simp only[Φ] <;> omega)
 ·obtain⟨its,r',pl,hz⟩:=I.tuple hq;have hlen:=r'.length;obtain⟨o,ho,hc,n,hd⟩:=pl;exact call_list_seq p (.inr rfl) ho hc hd (fun h' c' kp e=>fin its r' hz h' c' kp e) (by simp only[Φ] <;> omega)
theorem yM:vR X (.type "tuple") (fun xs H Q=>∃p ys,xs=[.ref p]/\((SqL X.K H p ys/\∀l,H l=none->Q (.ref l) (upd H l (.tup ys)))\/(SqT X.K H p ys/\Q (.ref p) H))):=by
 intro pins s σ H xs us Q I r h;obtain⟨p,ys,rfl,h⟩:=h;obtain⟨u,rfl,rx⟩:=vals1 r;cases rx;rcases h with⟨hq,q⟩|⟨hq,q⟩
 ·obtain⟨its,r',pl,hz⟩:=I.list hq;have hlen:=r'.length;refine call_tuple_list pl.isList (fun h' kp=>?_) (by simp only[Φ] <;> omega);have I1:Inv X pins σ H { s with heap:=h' }:=I.kept (t':=s.toks) kp;have I2:Inv X pins σ (upd H h'.objs.size (.tup ys)) { s with heap:=h'.push { cls:=.type "tuple",data:=.seq its.toArray } } :=
   I1.laid (t':=s.toks) (fun b o e=>Θ _ e) (ξ _) (show vE X.prog X.w _ _ _ (.tup ys) from⟨hz,its,r',IsTup.new _ _⟩)
  exact⟨.ref h'.objs.size,_,I2,rfl,q _ (I1.hok.fresh (ξ _))⟩
 ·obtain⟨its,r',pl,hz⟩:=I.tuple hq;exact call_tuple_same pl ⟨.ref p,H,I,rfl,q⟩
def tyV (K:ς) (T:String) (x:V) (H:Hp):Prop:=match x with
 |.str _=>T = "str"
 |.int _=>T = "int"
 |.ref p=>(T = "list"/\∃xs,SqL K H p xs)\/(T = "tuple"/\∃o,K.lookup p=some o/\o.cls=.type "tuple"/\o.dict=none) ∨
   (T = "dict"/\((∃kvs,H p=some (.dK kvs))\/∃kvs,H p=some (.dT kvs)))\/(T = "set"/\∃S n,H p=some (.set S n))
 |_=>False
theorem aJr(I:Inv X pins σ H s)(r:RelV x v)(ty:tyV X.K T x H):
  s.TypeIs v T/\∀a,v=.ref a->∃ob,s.heap.get? a=some ob/\ob.dict=none:=by
 cases x with
 |str z =>
  obtain⟨t,rfl⟩:=r;cases (show T = "str" from ty);exact⟨typeIs_str s z t,fun _ e=>nomatch e⟩
 |int i =>
  obtain⟨t,rfl⟩:=r;cases (show T = "int" from ty);exact⟨typeIs_int s i t,fun _ e=>nomatch e⟩
 |ref p =>
  cases r;rcases ty with⟨rfl,xs,hq⟩|⟨rfl,o,hk,hc,hd⟩|⟨rfl,hk⟩|⟨rfl,S,n,hk⟩
  ·obtain⟨its,_,pl,_⟩:=I.list hq;refine⟨pl.isList.typeIs,fun a e=>?_⟩;cases e;obtain⟨o,n,e,c,hd,_⟩:=pl;exact⟨o,e,hd⟩
  ·refine⟨⟨o,I.kIn p o hk,hc⟩,fun a e=>?_⟩;cases e;exact⟨o,I.kIn _ o hk,hd⟩
  ·have z:∃o,s.heap.get? p=some o/\o.ExactDict:=by
    rcases hk with⟨kvs,hk⟩|⟨kvs,hk⟩
    ·obtain⟨_,_,_,_,o,_,_,e,ex,_⟩:=I.hok p _ hk;exact⟨o,e,ex⟩
    ·obtain⟨_,_,_,_,o,_,_,e,ex,_⟩:=I.hok p _ hk;exact⟨o,e,ex⟩
   obtain⟨o,e,ex⟩:=z;refine⟨⟨o,e,ex.1⟩,fun a e2=>?_⟩;cases e2;exact⟨o,e,ex.2.1⟩
  ·obtain⟨o,_,_,_,e,ex,_⟩:=I.hok p _ hk;refine⟨⟨o,e,ex.1⟩,fun a e2=>?_⟩;cases e2;exact⟨o,e,ex.2.1⟩
 |_=>exact ke ty
def tBM0 (K:ς) (T:String) (r:V->List V->Hp->VK->Prop) (to:TE):TE:=fun σ H Q=>to σ H fun x H1=>tyV K T x H1/\r x [] H1 Q
inductive aPj (K:ς) (T:String) (r:V->List V->Hp->VK->Prop) (t:TA) (σ:St) (Q:VK) (x:V) (H1:Hp):Prop|mk:tyV K T x H1->(t σ H1 fun xs H2=>r x xs H2 Q)->aPj K T r t σ Q x H1
def tBM (K:ς) (T:String) (r:V->List V->Hp->VK->Prop) (to:TE) (t:TA):TE:=fun σ H Q=>to σ H fun x H1=>aPj K T r t σ Q x H1
variable {o e:Expr}{es:List Expr}{to:TE}{t:TA}{name:Str}{apos cpos:Pos}{T id:String}{r:V->List V->Hp->VK->Prop}
theorem aRj(pa:PlainAttrs T)(slot:Slot T name id)(hty:typeOf (.builtin id)=pure (.type "method_descriptor"))(hm:MtR X id r)(ho:PE X o to)
  (hbase:ug o name X.env (eval o X.env)=eval o X.env:=by rfl)(hline:(apos.endLine == cpos.line)=true:=by rfl):PE X (.Call (.Attribute o name apos) [] [] cpos) (tBM0 X.K T r to):=by
 intro pins s σ H Q I h;refine wpAny_Call_method0_late hbase hline (thn (ho pins s σ H _ I h) fun v s1 zq=>?_);obtain⟨x,H1,I1,r1,ty,q1⟩:=zq;obtain⟨h1,h2⟩:=aJr I1 r1 ty;exact⟨T,id,pa,slot,hty,h1,h2,ve rfl (PySem.evalArgs_none (hm pins s1 σ H1 x [] v [] Q I1 r1 .nil q1))⟩
theorem aC(pa:PlainAttrs T)(slot:Slot T name id)(hty:typeOf (.builtin id)=pure (.type "method_descriptor"))(hm:MtR X id r)(ho:PE X o to)(ha:PA X (e::es) t)
  (hbase:ug o name X.env (eval o X.env)=eval o X.env:=by rfl)
  (hfew:((uf cpos (jk (e::es) X.env)).all (fun x=>!x.1)&&(backToKw cpos (keywordEach [] X.env)).all (fun x=>x.1.isSome)
   && decide ((e::es).length+([]:List Keyword).length+(if ([]:List Keyword).isEmpty then 0 else 1)<30))=true:=by rfl)
  (hline:(apos.endLine == cpos.line)=true:=by rfl)(hs:jk (e::es) X.env=(false,eval e X.env)::jk es X.env:=by rfl)(hplain:(uf cpos (jk es X.env)).any (·.1)=false:=by rfl):
  PE X (.Call (.Attribute o name apos) (e::es) [] cpos) (tBM X.K T r to t):=by
 intro pins s σ H Q I h;refine wpAny_Call_method_late hbase hfew hline rfl (thn (ho pins s σ H _ I h) fun v s1 zq=>?_);obtain⟨x,H1,I1,r1,ty,q1⟩:=zq;obtain⟨h1,h2⟩:=aJr I1 r1 ty;refine⟨T,id,pa,slot,hty,h1,h2,?_⟩;have hA:=ha cpos pins s1 σ H1 _ I1 q1;rw[hs]at hA ⊢;refine ve (by show(false||(uf cpos (jk es X.env)).any (·.1))=false;rw[hplain] <;> rfl) (Calls.evalArgs_plain ?_);exact thn hA fun us s2 zq=>zq.el fun vs H2 I2 r2 q2=>hm pins s2 σ H2 x vs v us Q I2 r1 r2 q2
end
def MtM (X:Cx) (id:String) (r:V->List V->Hp->VK->Prop):Prop :=
 ∀(pins:List (Addr×Obj)) (s:χ) (σ:St) (H:Hp) (x:V) (xs:List V) (v:Value) (us:List Value) (Q:VK),Inv X pins σ H s->RelV x v->kJ xs us->r x xs H Q →
  iz (jj X.prog X.w) X.A (call (.builtin id) (v::us)) (EP X pins σ Q) X.xe s
theorem kJ.one{x:V}(h:kJ [x] us):∃u,us=[u]/\RelV x u:=by
 cases h with
 |cons r t=>cases t;exact⟨_,rfl,r⟩
theorem kJ.two{x y:V}(h:kJ [x,y] us):∃u v,us=[u,v]/\RelV x u/\RelV y v:=by
 cases h with
 |cons r t=>obtain⟨_,rfl,q⟩:=kJ.one t;exact⟨_,_,rfl,r,q⟩
theorem kJ.zero:∀{us:List Value},kJ [] us->us=[]
 |_,.nil=>rfl
theorem kJ.eraseIdx:∀{xs:List V}{us:List Value}(i:Nat),kJ xs us->kJ (xs.eraseIdx i) (us.eraseIdx i)
 |_,_,_,.nil=>.nil
 |_,_,0,.cons _ t=>t
 |_,_,i+1,.cons r t=>.cons r (kJ.eraseIdx i t)
theorem kJ.rep(h:kJ xs us):∀k:Nat,kJ (kc k xs).flatten (kc k us).flatten
 |0=>.nil
 |k+1=>by
  rw[rf,rf,vf,vf];exact kJ.append h (kJ.rep h k)
theorem tD{α : Type}: ∀(l:List α) (i:Nat),(l.eraseIdx i).length<=l.length
 |[],_=>ξ _
 |_::_,0=>Nat.le_succ _
 |_::r,i+1=>ow (tD r i)
theorem foldl_rep(its:List Value):∀(k:Nat) (acc:List Value),
  List.foldl (fun x1 x2=>x1++x2) acc.toArray (kc k its.toArray)=(acc++(kc k its).flatten).toArray
 |0,acc=>by simp
 |k+1,acc=>by
  have e:acc.toArray++its.toArray=(acc++its).toArray:=by simp
  have e2:(acc++its)++(kc k its).flatten=acc++(kc (k+1) its).flatten:=by
   rw[rf,vf,jr]
  rw[←e2,←foldl_rep its k (acc++its),←e,rf,List.foldl_cons]
section
variable {X:Cx}{pins:List (Addr×Obj)}{σ:St}{H:Hp}{s:χ}{l b:Addr}{xs ys zs:List V}
theorem Inv.lset{its its':List Value}{f:Array Value->Array Value}{t':Nat}(I:Inv X pins σ H s)(hH:H l=some (.lst xs))
  (e:s.heap.get? l=some { cls:=.type "list",data:=.seq its.toArray n })(hf:f its.toArray=its'.toArray)(hv:kJ ys its')(hz:ys.length<=τ):
  Inv X pins σ (upd H l (.lst ys)) { s with heap:=s.heap.update l (Obj.mapSeq f),toks:=t' }:=by
 have q:=PySem.IsL.update e f;rw[hf]at q;refine I.write (x:=l) (e:=l) (by rw[hH];exact trivial) (.inl rfl) (fun b' u hb hu=>(sj s.heap (Obj.mapSeq f) (lm hb)).trans hu) ⟨_,q⟩ ?_;exact⟨hz,its',_,hv,q⟩
theorem Inv.lnew{t':Nat}(I:Inv X pins σ H s)(hv:kJ ys its)(hz:ys.length<=τ):
  Inv X pins σ (upd H s.heap.objs.size (.lst ys)) { s with heap:=s.heap.push { cls:=.type "list",data:=.seq its.toArray },toks:=t' } :=
 I.laid (fun _ _ q=>Θ _ q) (ξ _) ⟨hz,its,0,hv,jb _ rfl⟩
theorem Inv.fresh(I:Inv X pins σ H s):H s.heap.objs.size=none:=I.hok.fresh (ξ _)
theorem Inv.lstM(I:Inv X pins σ H s)(hH:H l=some (.lst xs)):xs.length<=τ/\∃(its:List Value) (n:Nat),kJ xs its/\xs.length=its.length/\s.heap.get? l=some { cls:=.type "list",data:=.seq its.toArray n }:=by
 obtain⟨z,its,n,r,e⟩:=I.hok l _ hH;exact⟨z,its,n,r,r.length,e⟩
theorem aBa{n:Nat}(h:n<=τ):qx n=false:=by
 unfold qx;exact decide_eq_false (by omega)
end
section
variable {X:Cx}
inductive sT (x:V) (vs:List V) (H:Hp) (Q:VK):Prop|mk:∀l xs y,x=.ref l->vs=[y]->H l=some (.lst xs)->xs.length<τ->Q .non (upd H l (.lst (xs++[y])))->sT x vs H Q
def aOz:V->List V->Hp->VK->Prop:=fun x vs H Q=>sT x vs H Q
theorem zF:MtM X "list.append" aOz:=by
 intro pins s σ H x vs v us Q I rx rv h;obtain⟨l,xs,y,rfl,rfl,hH,hz,q⟩:=h;cases rx;obtain⟨u,rfl,ru⟩:=rv.one;obtain⟨z,its,n,r,hl,e⟩:=I.lstM hH;refine sk F.slot_list_append ⟨_,e,rfl⟩ F.entry_list_append (F.args_list_append_2 _ _) (PySem.list_append l its.toArray n u (by rw[Φ];omega)) ⟨e,?_⟩;refine⟨.non,_,I.lset (its':=its++[u]) hH e (by simp) (r.append (.cons ru .nil)) ?_,rfl,q⟩;rw[ν,jt];omega
def aOk:V->List V->Hp->VK->Prop:=fun x vs H Q=>∃l b xs zs,x=.ref l/\vs=[.ref b]/\H l=some (.lst xs)/\H b=some (.lst zs)/\xs.length+zs.length<=τ/\Q .non (upd H l (.lst (xs++zs)))
theorem aIy:MtM X "list.extend" aOk:=by
 intro pins s σ H x vs v us Q I rx rv h;obtain⟨l,b,xs,zs,rfl,rfl,hH,hB,hz,q⟩:=h;cases rx;obtain⟨u,rfl,ru⟩:=rv.one;cases ru;obtain⟨z,its,n,r,hl,e⟩:=I.lstM hH;obtain⟨z2,its2,n2,r2,hl2,e2⟩:=I.lstM hB;have hsz:its.toArray.size+its2.toArray.size<=τ:=by rw[Φ,Φ];omega
 have hlong:¬ (!its.toArray.isEmpty&&qx (its.toArray.size+its2.toArray.size))=true:=by
  rw[aBa hsz,Bool.and_false];exact π
 refine sk F.slot_list_extend ⟨_,e,rfl⟩ F.entry_list_extend (F.args_list_extend_2 _ _)
  (AutoSeq1.list_extend_list_list_0 l its.toArray n b its2.toArray n2 hlong (by rw[Φ];omega) (by omega)) ⟨e,e2,?_⟩
 refine⟨.non,_,I.lset (its':=its++its2) hH e (by simp) (r.append r2) ?_,rfl,q⟩;rw[ν];omega
def aRm:V->List V->Hp->VK->Prop:=fun x vs H Q=>∃l xs i k y,x=.ref l/\vs=[.int i]/\H l=some (.lst xs)/\-(2 ^ 63)<=i/\i<2 ^ 63/\seqIndex? i xs.length=some k/\xs[k]?=some y/\Q y (upd H l (.lst (xs.eraseIdx k)))
theorem aLy:MtM X "list.pop" aRm:=by
 intro pins s σ H x vs v us Q I rx rv h;obtain⟨l,xs,i,k,y,rfl,rfl,hH,h1,h2,hk,hy,q⟩:=h;cases rx;obtain⟨u,rfl,ru⟩:=rv.one;obtain⟨t,rfl⟩:=ru;obtain⟨z,its,n,r,hl,e⟩:=I.lstM hH;obtain⟨w,hw,rw'⟩:=r.get hy;refine sk F.slot_list_pop ⟨_,e,rfl⟩ F.entry_list_pop (F.args_list_pop_2 _ _)
  (MeetsSeq.list_pop_at l its.toArray n i t k w (fitsIndex_both h1 h2) (by rw[Φ,←hl];exact hk) (by rw[←sx];exact hw) (by rw[Φ];omega)) ⟨e,?_⟩
 refine⟨y,_,I.lset (its':=its.eraseIdx k) hH e ?_ (r.eraseIdx k) ?_,rw',q⟩
 ·show its.toArray.eraseIdxIfInBounds k=(its.eraseIdx k).toArray;rw[List.eraseIdxIfInBounds_toArray]
 ·have:=tD xs k;omega
def aRu:V->List V->Hp->VK->Prop:=fun x vs H Q=>∃l xs,x=.ref l/\vs=[]/\H l=some (.lst xs)/\Q .non (upd H l (.lst []))
theorem aKi:MtM X "list.clear" aRu:=by
 intro pins s σ H x vs v us Q I rx rv h;obtain⟨l,xs,rfl,rfl,hH,q⟩:=h;cases rx;have hus:=rv.zero;subst hus;obtain⟨z,its,n,r,hl,e⟩:=I.lstM hH;refine sk F.slot_list_clear ⟨_,e,rfl⟩ F.entry_list_clear (F.args_list_clear_1 _) (AutoSeq1.list_clear_list_0 l its.toArray n (by rw[Φ];omega)) ⟨e,?_⟩;exact⟨.non,_,I.lset (its':=[]) (ys:=[]) hH e rfl .nil (ij _),rfl,q⟩
def rCat:R2:=fun x y H Q=>∃l b xs zs,x=.ref l/\y=.ref b/\H l=some (.lst xs)/\H b=some (.lst zs)/\xs.length+zs.length<=τ/\∀p,H p=none->Q (.ref p) (upd H p (.lst (xs++zs)))
theorem bX:OpR X (qb .Add) rCat:=by
 intro pins s σ H x y v u Q I rx ry h;obtain⟨l,b,xs,zs,rfl,rfl,hH,hB,hz,q⟩:=h;cases rx;cases ry;obtain⟨z,its,n,r,hl,e⟩:=I.lstM hH;obtain⟨z2,its2,n2,r2,hl2,e2⟩:=I.lstM hB;refine PySem.P.add_list e e2 ?_ (by rw[Φ,Φ];omega);have ea:its.toArray++its2.toArray=(its++its2).toArray:=by simp
 rw[ea];exact⟨.ref _,_,I.lnew (t':=s.toks) (r.append r2) (by rw[ν];omega),rfl,q _ I.fresh⟩
def rRep:R2:=fun x y H Q=>∃l k xs,x=.ref l/\y=.int k/\H l=some (.lst xs)/\-(2 ^ 63)<=k/\k<2 ^ 63/\xs.length*k.toNat<=τ ∧
 ∀p,H p=none->Q (.ref p) (upd H p (.lst (kc k.toNat xs).flatten))
theorem len_rep{α : Type}(xs:List α)(k:Nat):(kc k xs).flatten.length=k*xs.length:=by
 induction k with
 |zero=>simp
 |succ k ih=>rw[rf,vf,ν,ih,Nat.succ_mul,Nat.add_comm]
theorem aQo:OpR X (qb .Mult) rRep:=by
 intro pins s σ H x y v u Q I rx ry h;obtain⟨l,k,xs,rfl,rfl,hH,h1,h2,hz,q⟩:=h;cases rx;obtain⟨t,rfl⟩:=ry;obtain⟨z,its,n,r,hl,e⟩:=I.lstM hH;have hlen:its.toArray.size*k.toNat<=τ:=by rw[Φ,←hl];exact hz
 have hcap:¬ its.toArray.size*k.toNat > (2 ^ 63-1) / 8:=by
  have:(τ:Nat)<=(2 ^ 63-1) / 8:=by decide
  omega
 have hfit:¬ (!Builtin.List.listFitsIndex k)=true:=by
  rw[fitsIndex_both h1 h2];exact π
 have hlong:¬ qx (its.toArray.size*k.toNat)=true:=by
  rw[aBa hlen];exact π
 have hnew:List.foldl (fun x1 x2=>x1++x2) #[] (kc (if its.toArray.isEmpty=true then 0 else k.toNat) its.toArray)=(kc k.toNat its).flatten.toArray:=by
  have f0:∀m:Nat,List.foldl (fun x1 x2=>x1++x2) #[] (kc m its.toArray)=(kc m its).flatten.toArray:=fun m=>by
   have:=foldl_rep its m [];rw[uq]at this;exact this
  rw[f0];cases its with
  |nil=>simp
  |cons a r'=>rw[if_neg (by simp)]
 refine wpAny_binaryOp_repeat_ref (T:="list") (U:="int") (by decide) ⟨_,e,rfl⟩ (fun s'=>typeIs_int s' k t) noFill_list_mul F.fills_int_mul F.slot_int_rmul repeat_list F.slot_int_index.lookup
  (sk F.slot_int_rmul (typeIs_int s k t) F.entry_int_rmul (F.args_int_rmul_2 _ _) (int___rmul___int_list k t l its.toArray n)
   ⟨e,rfl,⟨_,e,rfl⟩,sk F.slot_list_mul ⟨_,e,rfl⟩ F.entry_list_mul (F.args_list_mul_2 _ _) (AutoListH.list___mul___list_int_3 l its.toArray n k t hfit hcap hlong) ⟨e,?_⟩⟩)
 rw[hnew];exact⟨.ref _,_,I.lnew (t':=s.toks) (r.rep k.toNat) (by rw[len_rep,Nat.mul_comm];exact hz),rfl,q _ I.fresh⟩
end
end L2
namespace Att
open PySem PySem.W PySem.Calls PyProof.Rows
theorem nB : ∀(ns:List Int) (vs:List Value),WellAll P h vs (ns.map WData.int)->IntsAre vs ns:=by
 intro ns
 induction ns with
 |nil =>
  intro vs w;rw[List.map_nil]at w;cases w;exact .nil
 |cons n ns ih =>
  intro vs w;rw[ki]at w;cases w with
  |cons a b =>
   cases a;exact .cons _ _ (ih _ b)
theorem aIu{l:OpenLaw}(hn:l.most=some n)
  (hpre:l.row.toRowW.claim.pre args=true)(hwl:WellAll P h vals args):
  ∃a vs ns,vals=[km a]/\args=[WData.list (ns.map WData.int)]/\h.get? a=some { cls:=.type "list",data:=.seq vs.toArray }/\IntsAre vs ns/\ns.length<=n:=by
 have hsh:WShape.hasAll [] args [.list .int]=true:=(pre_splitW hpre).1;have hc:l.pre.holds [] { args:=args }=true:=(pre_splitW hpre).2;obtain⟨d,r,rfl,h1,h2⟩:=hasAllW_cons hsh;obtain rfl:=hasAllW_nil h2;obtain⟨xs,rfl,h3⟩:=hasW_list h1;obtain⟨ns,rfl⟩:=items_int h3;have hlen:ns.length<=n:=by
  unfold OpenLaw.pre at hc;have h4:(WTm.not (.lt (.lit (.int (n:Int))) (.len (.arg 0)))).holds [] { args:=[.list (ns.map .int)] }=true:=by
   have h4:=(holds_andW hc).1;rw[hn]at h4;exact h4
  have h5:=condW_of h4 (w_not (w_lt w_lit (w_len_list (w_arg rfl))));rw[δ]at h5;refine Nat.le_of_not_lt fun q=>?_;have q':(n:Int)<((ns.length:Nat):Int):=by omega
  first
   | (rw[decide_eq_true q']at h5;exact absurd h5 (by decide))
   | (simp at h5;omega)
 cases hwl with
 |cons w1 w2 =>
  cases w2;cases w1 with
  |list ho hall=>exact⟨_,_,ns,rfl,rfl,ho,nB ns _ hall,hlen⟩
theorem aIq(l:OpenLaw)(args:List WData):l.row.toRowW.claim.post args (.bool true) args=true :=
 postW_of (r:=l.row.toRowW) (X:=(true == true))
  (show WShape.has [] (.bool true) .bool=true by first|rfl|decide|simp[WShape.has,WShape.arms,WShape.armsAll])
  (show(WTm.eq .res (.lit (.bool true))).value [] { args:=args,res:=some (.bool true),after:=args }=some (.bool (true == true)) from w_eq_bool (w_res rfl) w_lit) rfl
theorem attach_call{l:OpenLaw}{YP:my->nc->Prop}{d:DefRec}
  (hn:l.most=some n)(hdf:d.params.defaults=[])
  (call:∀(w:my) (s₀ s₁ : χ) (mg mb:Str->Option Value) (fa:Addr) (o:Obj) (pm cd doc:Value) (a:Addr) (vs:List Value) (ns:List Int),
   Ground q loose [] XP w s₀ mg mb s₁.heap->YP w s₁.heap →
   s₁.heap.get? fa=some o->o.data=.func (docDef d.name d.params d.body d.scope pm cd doc)->s₁.heap.CodeRec cd d.name->mg d.name=some (.ref fa) →
   s₁.heap.get? a=some { cls:=.type "list",data:=.seq vs.toArray }->IntsAre vs ns->ns.length<=n->s₁.gens = #[] →
   codeAny (jj l.prog w) callerA (.call (.ref fa) ⟨[.ref a],[]⟩) (fun r s'=>r=.ok (.ret (.bool true))/\OldK s₁.heap s'.heap/\s'.os=s₁.os/\AllBare s'.gens) s₁):
  WalkO q loose XP YP l.row.toRowW d [] (fun f vs=>PySem.call f vs):=by
 intro w s₀ s₁ mg mb G Y fa o pm cd doc dV kV ho hd hcd hD hmg hg args vals as hpre hlay hrd hwl hlo;obtain rfl:dV=.none:=Dflts.none hD hdf;obtain rfl:kV=.none:=Dflts.noKw hD;obtain⟨a,vs,ns,rfl,rfl,hobj,hints,hlen⟩:=aIu hn hpre hwl;refine enter_call (codeAny_mono (call w s₀ s₁ mg mb fa o pm cd doc a vs ns G Y ho (fd_plain hd) hcd hmg hobj hints hlen hg) fun r s' hq=>?_);obtain⟨rfl,h2,h3,h4⟩:=hq;exact⟨.inl ⟨.bool true,.bool true,[],rfl,fun _=>rfl,.bool true,aIq l _,fun _=>⟨vg,fun _ hm=>(nomatch hm)⟩⟩,h2,h3,h4⟩
section
variable {prog:lu}{w:my}{A:mj}{E:Value->χ->Prop}{s:χ}{K:ς}
end
end Att
namespace L2
open PySem PySem.Spec PyProof.Rows
theorem sQ:∀{vs:List Value}{ns:List Int},IntsAre vs ns->kJ (ns.map V.int) vs
 |_,_,.nil=>.nil
 |_,_,.cons n t h=>.cons ⟨t,rfl⟩ (sQ h)
def Only (H:Hp):Prop:=∀b,H b=none\/∃o xs,H b=some (.frz o (.lst xs))
theorem aJn{K:ς}{mb:Str->Option Value}{CX:CXT}{a:Addr}{x:Str}{sp:Sp}{s₁: χ}{vs:List Value}
  (KX:K.In s₁.heap)(hns:s₁.heap.Ns ie mg)(hb:s₁.heap.Ns builtinsNs mb)(hbb:∀x:Str,x ≠ "__name__"->mb x=oe x)(hlim:s₁.heap.NoLimit)(hsm:∃m,s₁.heap.Ns jw m)(hg:s₁.gens = #[])
  (ha:s₁.heap.get? a=some { cls:=.type "list",data:=.seq vs.toArray })(hi:IntsAre vs ns)(hl:ns.length<=τ)(hr:xA k callerA)
  (F:∀base:nc,K.In base->base.Ns ie mg->jY P w K mg base CX k fa fd [x] sp)(hbind:∀(s:χ) (u:Value),BindsTo s fd ⟨[u],[]⟩ [(x,u)])
  (hsp:∀H:Hp,Only H->SqL K H a (ns.map V.int)->sp [.ref a] H (fun v _=>v=.bl true) fun _ _ _=>False)
  (hCX:∀H e s',CX [] H s₁ (fun _ _ _=>False) e s'->False):
  codeAny (jj P w) callerA (.call (.ref fa) ⟨[.ref a],[]⟩) (fun r s'=>r=.ok (.ret (.bool true))/\OldK s₁.heap s'.heap/\s'.os=s₁.os/\AllBare s'.gens) s₁:=by
 have rv:=sQ hi;have lenV:=hi.length;have core:∀H:Hp,Only H->SqL K H a (ns.map V.int)->HOk P w H s₁.heap->(∀b,H b≠none->b=a)->(H a≠none->K.lookup a=none) →
   codeAny (jj P w) callerA (.call (.ref fa) ⟨[.ref a],[]⟩) (fun r s'=>r=.ok (.ret (.bool true))/\OldK s₁.heap s'.heap/\s'.os=s₁.os/\AllBare s'.gens) s₁:=by
  intro H hO hS hok hA hK;have base_of:∀{b:Addr}{o:Obj},s₁.heap.get? b=some o->H b=none->(tV s₁.heap H).get? b=some o:=fun e n=>aMw e n;have noA:∀{b:Addr}{o:Obj}{es:Array DictEntry}{ep:Nat},s₁.heap.get? b=some o->o.data=.dict es ep->H b=none:=fun {b o es ep} e d=>by
   cases q:H b with
   |none=>rfl
   |some u =>
    have e':b=a:=hA b (by rw[q];simp);subst e';rw[ha]at e;cases e;have d':Data.seq vs.toArray _=Data.dict es ep:=d;cases d'
  have nsK:∀{b:Addr}{m:Str->Option Value},s₁.heap.Ns b m->(tV s₁.heap H).Ns b m:=fun {b m} ⟨o,es,ep,e,d,r⟩=>⟨o,es,ep,base_of e (noA e d),d,r⟩;have hKb:K.In (tV s₁.heap H):=fun b o e=>base_of (KX b o e) (by
   cases q:H b with
   |none=>rfl
   |some u =>
    have e':b=a:=hA b (by rw[q];simp);subst e';rw[hK (by rw[q];simp)]at e;cases e)
  have hM:Mod K mg (tV s₁.heap H):=⟨hKb,nsK hns,⟨mb,nsK hb,hbb⟩,let ⟨mc,h1,h2⟩:=hlim; ⟨mc,nsK h1,h2⟩,let ⟨ms,h1⟩:=hsm; ⟨ms,nsK h1⟩⟩;have e0:sD P w K mg (tV s₁.heap H) callerA [] s₁ H:=⟨rfl,hM,fun b o e=>aNp e,Nat.le_of_eq (aHu _ _),trivial,fun b hb=>absurd (show b∈([]:List Addr) from hb) (by simp),hok,.of_eq hg⟩;refine codeAny_mono ((F _ hKb (nsK hns)).run callerA [] s₁ H ⟨[.ref a],[]⟩ [.ref a] [.ref a] _ _ hr e0 (hbind s₁ (.ref a)) (.cons rfl .nil) (hsp H hO hS)) fun r s' h=>?_;cases r with
  |error e=>exact(hCX H e s' h).elim
  |ok fl =>
   cases fl with
   |next=>exact ke h
   |brk=>exact ke h
   |cont=>exact ke h
   |ret u =>
    obtain⟨v,H',os,bare,un,hok',r',q⟩:=h;have q':v=.bl true:=q;subst q';obtain rfl:u=Value.bool true:=r';refine⟨rfl,OldK.of_keep fun b o e=>?_,os,bare⟩;cases q:H b with
    |none=>exact un.keep b o e q (by intro z;exact absurd (show b∈([]:List Addr) from z) (by simp)) (by simp)
    |some u =>
     rcases hO b with z|⟨ob,xs,z⟩
     ·rw[q]at z;cases z
     ·have z2:=un.frzs b ob _ z;obtain⟨e1,_⟩:=hok b _ z;obtain⟨e2,_⟩:=hok' b _ z2;rw[e]at e1;cases e1;exact e2
 cases hk:K.lookup a with
 |some o =>
  have e:=KX a o hk;rw[ha]at e;cases e;refine core (fun _=>none) (fun _=>.inl rfl) (.inr ⟨_,vs.toArray,_,hk,rfl,rfl,rfl,by rw[Φ,lenV];exact hl,by simpa using rv⟩) (fun b u z=>by have z':(none:Option HO)=some u:=z;cases z') (fun b z=>absurd rfl z) fun z=>absurd rfl z
 |none =>
  refine core (fun b=>if b=a then some (.frz { cls:=.type "list",data:=.seq vs.toArray } (.lst (ns.map V.int))) else none) (fun b=>?_) (.inl (.inr ⟨{ cls:=.type "list",data:=.seq vs.toArray },if_pos rfl⟩)) (fun b u z=>?_) (fun b z=>?_) fun _=>hk
  ·by_cases hb:b=a
   ·exact .inr ⟨_,_,if_pos hb⟩
   ·exact .inl (if_neg hb)
  ·by_cases hb:b=a
   ·have z':=(if_pos hb).symm.trans z;cases z';subst hb;exact⟨ha,by rw[δ];exact hl,vs,_,rv,ha⟩
   ·have z':=(if_neg hb).symm.trans z;cases z'
  ·by_cases hb:b=a
   ·exact hb
   ·exact absurd (if_neg hb) z
theorem aOi{l:PySem.W.OpenLaw}{YP:my->nc->Prop}{d:DefRec}{K:Params->ς}{CX:my->CXT}{sp:my->Sp}{x:Str}
  (hn:l.most=some n)(hn2:n<=τ)(hdf:d.params.defaults=[])(hq:importsNone q=true)(hr:xA k callerA)
  (hY:∀(w:my) (h:nc),YP w h->(K w.params).In h)
  (F:∀(w:my) (mg:Str->Option Value) (fa:Addr) (h:nc),(K w.params).In h->h.Ns ie mg->mg d.name=some (.ref fa) →
   ∃fd:rj,(∀(s:χ) (u:Value),BindsTo s fd ⟨[u],[]⟩ [(x,u)]) ∧
    ∀base:nc,(K w.params).In base->base.Ns ie mg->jY l.prog w (K w.params) mg base (CX w) k fa fd [x] (sp w))
  (hsp:∀(w:my) (H:Hp) (a:Addr) (ns:List Int),ns.length<=n->Only H->SqL (K w.params) H a (ns.map V.int)->sp w [.ref a] H (fun v _=>v=.bl true) fun _ _ _=>False)
  (hCX:∀(w:my) (H:Hp) (s:χ) (e:Value) (s':χ),CX w [] H s (fun _ _ _=>False) e s'->False):
  PySem.W.WalkO q loose XP YP l.row.toRowW d [] (fun f vs=>PySem.call f vs):=by
 refine Att.attach_call hn hdf fun w s₀ s₁ mg mb fa o pm cd doc a vs ns G Y ho hd hcd hmg hobj hints hlen hg=>?_;have KX:=hY w _ Y;obtain⟨fd,hb,hF⟩:=F w mg fa _ KX G.T.g hmg;exact aJn KX G.T.g G.T.b G.T.builtins G.T.nolimit (let ⟨ms,h1,_⟩:=(G.T.seer hq).mods; ⟨ms,h1⟩) hg hobj hints (iq hlen hn2) hr hF hb (fun H hO hS=>hsp w H a ns hlen hO hS) fun H e s'=>hCX w H s₁ e s'
def inClass (s:Stmt) (j:Nat):Stmt:=match s with
 |.ClassDef _ _ _ body _ _ _ _ _ _ _=>body.getD j (.Pass ⟨0,0,0,0⟩)
 |_=>.Pass ⟨0,0,0,0⟩
def bW (s:Stmt):Arguments:=match s with
 |.FunctionDef _ a _ _ _ _ _ _ _ _=>a
 |_=>{ posonlyargs:=[],args:=[],vararg:=none,kwonlyargs:=[],kw_defaults:=[],kwarg:=none,defaults:=[] }
def zZ (s:Stmt):List Stmt:=match s with
 |.FunctionDef _ _ b _ _ _ _ _ _ _=>b
 |_=>[]
def jH (s:Stmt):Scope:=match s with
 |.FunctionDef _ _ _ _ _ _ sc _ _ _=>sc
 |_=>{ kind:=.function,names:=[],isGenerator:=false,isCoroutine:=false }
abbrev CX0:CXT:=fun _ _ _ _ _ _=>False
abbrev E0:XK:=fun _ _ _=>False
theorem qR : zR CX0 X E0:=fun _ _ _ _ _ _ _ h=>h.elim
structure Fun (K:ς) (x qual:Str) (st:Stmt) (f:Addr) (fd:rj):Prop where
 ex:∃(oc:Value) (od:Option Addr) (kV doc pm:Value) (an:Option Addr) (cdv ct:Value) (osl:Array (Option Value)),
  fd=fnOf x qual (bW st) (zZ st) (jH st) .none kV doc pm an cdv ct/\K.lookup f=some ⟨oc,od,.func fd,osl⟩/\codeIn K cdv qual=true
 kp:keepIn K (.ref f)=true
section
variable {P:lu}{w:my}{K:ς}{mg:Str->Option Value}{base:nc}
theorem Fun.ok{x qual:Str}{st:Stmt}{f:Addr}{fd:rj}{N ps:List Str}{k:Nat}{sp:Sp}(F:Fun K x qual st f fd)(S:jK N ps (jH st))(len:∀vs H Q E,sp vs H Q E->vs.length=ps.length)
  (hbody:∀(cdv:Value) (A:mj) (outer:List Env) (s:χ) (H:Hp) (vs:List V) (Q:VK) (E:XK),xA k (A.deeper (envOfC qual (jH st) s.heap.objs.size f cdv))->sp vs H Q E →
   ∃t,PSs (aEl CX0 P w K mg base N qual (jH st) f cdv A outer s H E).nox (zZ st) t/\t { nx:=fun _ H'=>Q .non H',rt:=Q } (start N vs) H):jY P w K mg base CX0 (k+1) f fd ps sp:=by
 obtain⟨oc,od,kV,doc,pm,an,cdv,ct,osl,rfl,lk,hcd⟩:=F.ex;refine fn_of lk hcd S len fun A outer s H vs Q E hr hsp=>?_;obtain⟨t,h,q⟩:=hbody cdv A outer s H vs Q E hr hsp;exact⟨t,h.nox,q⟩
theorem Fun.binds{x qual:Str}{st:Stmt}{f:Addr}{fd:rj}{ps:List Str}(F:Fun K x qual st f fd)
  (h:∀(kV doc pm:Value) (an:Option Addr) (cdv ct:Value) (us:List Value),us.length=ps.length->bindArgs (fnOf x qual (bW st) (zZ st) (jH st) .none kV doc pm an cdv ct) ⟨us,[]⟩=pure (ps.zip us)):Binds K fd ps []:=by
 obtain⟨oc,od,kV,doc,pm,an,cdv,ct,osl,rfl,lk,hcd⟩:=F.ex;exact .all (h kV doc pm an cdv ct)
theorem aLf{x qual:Str}{st:Stmt}{f:Addr}{oc:Value}{od an:Option Addr}{osl:Array (Option Value)}{kV doc pm cdv ct:Value}(l:K.lookup f=some ⟨oc,od,.func (fnOf x qual (bW st) (zZ st) (jH st) .none kV doc pm an cdv ct),osl⟩)
  (c:codeIn K cdv qual=true)(k:keepIn K (.ref f)=true):Fun K x qual st f (fnOf x qual (bW st) (zZ st) (jH st) .none kV doc pm an cdv ct):=⟨⟨oc,od,kV,doc,pm,an,cdv,ct,osl,rfl,l,c⟩,k⟩
end
theorem kL{n:Nat}(h:n<=1000):n<τ:=kn h (by decide)
section
variable {X:Cx}
theorem pv(i:Nat)(hN:X.N[i]?=some x:=by rfl)(hv:Vis X.env.scope x:=by first|exact Or.inl rfl|exact Or.inr (Or.inl rfl)|exact Or.inr (Or.inr rfl))(hd:(x == ("__debug__" : Str))=false:=by decide)
  (hcd:(x == ("__classdict__" : Str))=false:=by decide):PE X (.Name x pos) (aBi i):=aPz hN hv hd hcd
end
theorem eW{A B:Prop}(h:B):if false=true then A else B:=by
 rw[if_neg π];exact h
theorem aKh{A B:Prop}(h:A):if true=true then A else B:=by
 rw[if_pos rfl];exact h
theorem xG{c A B:Prop}[Decidable c](h1:c->A)(h2:¬ c->B):if c then A else B:=by
 by_cases h:c
 ·rw[if_pos h];exact h1 h
 ·rw[if_neg h];exact h2 h
def jJ (H H':Hp):Prop:=∀b o,H b=some o->H' b=some o
theorem jJ.refl(H:Hp):jJ H H:=fun _ _ h=>h
theorem jJ.trans(a:jJ H H1)(b:jJ H1 H2):jJ H H2:=fun c o h=>b c o (a c o h)
theorem jJ.free{H H':Hp}(e:jJ H H')(h:H' l=Option.none):H l=Option.none:=by
 cases q:H l with
 |none=>rfl
 |some o =>
  rw[e l o q]at h;cases h
theorem jJ.seq{K:ς}(e:jJ H H')(h:SqL K H a xs):SqL K H' a xs:=by
 rcases h with (h|⟨o,h⟩)|h
 ·exact .inl (.inl (e _ _ h))
 ·exact .inl (.inr ⟨o,e _ _ h⟩)
 ·exact .inr h
end L2
set_option maxHeartbeats 4000000
namespace L2
open PySem PySem.Spec PyProof.Rows
theorem kJ.getR:∀{xs:List V}{us:List Value}{i:Nat}{u:Value},kJ xs us->us[i]?=some u->∃x,xs[i]?=some x/\RelV x u
 |_,_,_,_,.nil,e=>by simp at e
 |_,_,0,_,.cons r _,e=>by simp at e;subst e;exact⟨_,rfl,r⟩
 |_,_,i+1,u,.cons _ t,e=>by
  obtain⟨x,h1,h2⟩:=kJ.getR (i:=i) (u:=u) t (by simpa using e);exact⟨x,by simpa using h1,h2⟩
def isa (t T:String):Bool:=t == T||(t == "bool" && T == "int")
def tyN (K:ς) (x:V) (H:Hp) (t:String):Prop :=
 match x with
 |.non=>t = "NoneType"
 |.bl _=>t = "bool"
 |.int _=>t = "int"
 |.str _=>t = "str"
 |.ref p=>(t = "list"/\∃xs,SqL K H p xs)\/(t = "tuple"/\∃xs,SqT K H p xs)
 |_=>False
def aDt:List String:=["int","bool","str","list","tuple","dict"]
section
variable {X:Cx}
theorem pW:vR X (.builtin "isinstance") (fun xs H Q=>∃x T t,xs=[x,.ty T]/\T∈aDt/\tyN X.K x H t/\Q (.bl (isa t T)) H):=by
 intro pins s σ H xs us Q I r h;obtain⟨x,T,t,rfl,hT,ht,q⟩:=h;obtain⟨u,w',rfl,rx,rT⟩:=vals2 r;cases rT;have hT':T = "int" ∨ T = "bool" ∨ T = "str" ∨ T = "list" ∨ T = "tuple" ∨ T = "dict":=by simpa [aDt] using hT
 have fin:∀{k:Bool}{s':χ},isa t T=k->Inv X pins σ H s'->EP X pins σ Q (.bool k) s':=fun {k s'} e I'=>by subst e;exact⟨.bl _,H,I',rfl,q⟩
 cases x with
 |non =>
  cases rx;have ht':t = "NoneType":=ht;subst ht';rcases hT' with rfl|rfl|rfl|rfl|rfl|rfl
  ·exact IsiPair.NoneType_int (fin (by decide) (I.tok _))
  ·exact IsiPair.NoneType_bool (fin (by decide) (I.tok _))
  ·exact IsiPair.NoneType_str (fin (by decide) (I.tok _))
  ·exact IsiPair.NoneType_list (fin (by decide) (I.tok _))
  ·exact IsiPair.NoneType_tuple (fin (by decide) (I.tok _))
  ·exact IsiPair.NoneType_dict (fin (by decide) (I.tok _))
 |bl b =>
  cases rx;have ht':t = "bool":=ht;subst ht';rcases hT' with rfl|rfl|rfl|rfl|rfl|rfl
  ·exact IsiPair.bool_int (fin (by decide) I)
  ·exact IsiPair.bool_bool (fin (by decide) I)
  ·exact IsiPair.bool_str (fin (by decide) (I.tok _))
  ·exact IsiPair.bool_list (fin (by decide) (I.tok _))
  ·exact IsiPair.bool_tuple (fin (by decide) (I.tok _))
  ·exact IsiPair.bool_dict (fin (by decide) (I.tok _))
 |int i =>
  obtain⟨tk,rfl⟩:=rx;have ht':t = "int":=ht;subst ht';rcases hT' with rfl|rfl|rfl|rfl|rfl|rfl
  ·exact IsiPair.int_int (fin (by decide) I)
  ·exact IsiPair.int_bool (fin (by decide) (I.tok _))
  ·exact IsiPair.int_str (fin (by decide) (I.tok _))
  ·exact IsiPair.int_list (fin (by decide) (I.tok _))
  ·exact IsiPair.int_tuple (fin (by decide) (I.tok _))
  ·exact IsiPair.int_dict (fin (by decide) (I.tok _))
 |str y =>
  obtain⟨tk,rfl⟩:=rx;have ht':t = "str":=ht;subst ht';rcases hT' with rfl|rfl|rfl|rfl|rfl|rfl
  ·exact IsiPair.str_int (fin (by decide) (I.tok _))
  ·exact IsiPair.str_bool (fin (by decide) (I.tok _))
  ·exact IsiPair.str_str (fin (by decide) I)
  ·exact IsiPair.str_list (fin (by decide) (I.tok _))
  ·exact IsiPair.str_tuple (fin (by decide) (I.tok _))
  ·exact IsiPair.str_dict (fin (by decide) (I.tok _))
 |ref p =>
  cases rx;have ht':(t = "list"/\∃xs,SqL X.K H p xs)\/(t = "tuple"/\∃xs,SqT X.K H p xs):=ht;rcases ht' with⟨rfl,ys,hy⟩|⟨rfl,ys,hy⟩
  ·obtain⟨its,rv,⟨o,n,e,hc,_,_⟩,hz⟩:=I.list hy;rcases hT' with rfl|rfl|rfl|rfl|rfl|rfl
   ·exact IsiPair.list_int e hc (fin (by decide) (I.tok _))
   ·exact IsiPair.list_bool e hc (fin (by decide) (I.tok _))
   ·exact IsiPair.list_str e hc (fin (by decide) (I.tok _))
   ·exact IsiPair.list_list e hc (fin (by decide) I)
   ·exact IsiPair.list_tuple e hc (fin (by decide) (I.tok _))
   ·exact IsiPair.list_dict e hc (fin (by decide) (I.tok _))
  ·obtain⟨its,rv,⟨o,e,hc,n,_⟩,hz⟩:=I.tuple hy;rcases hT' with rfl|rfl|rfl|rfl|rfl|rfl
   ·exact IsiPair.tuple_int e hc (fin (by decide) (I.tok _))
   ·exact IsiPair.tuple_bool e hc (fin (by decide) (I.tok _))
   ·exact IsiPair.tuple_str e hc (fin (by decide) (I.tok _))
   ·exact IsiPair.tuple_list e hc (fin (by decide) (I.tok _))
   ·exact IsiPair.tuple_tuple e hc (fin (by decide) I)
   ·exact IsiPair.tuple_dict e hc (fin (by decide) (I.tok _))
 |_=>exact(show False from ht).elim
end
section
variable {X:Cx}{pos:Pos}
theorem mY(bs:List Bool):(ir bs.length).all (fun i=>bs.getD i false)=bs.all id:=by
 rw[px];simp only[jm,ua,id];constructor
 ·intro h x hx;obtain⟨i,hi,rfl⟩:=List.mem_iff_getElem.mp hx;have:=h i hi;simpa [Ω,ζ hi] using this
 ·intro h i hi;have:=h bs[i] (mw hi);simpa [Ω,ζ hi] using this
theorem dI(hc:X.calm=true):vR X (.builtin "all") (fun xs H Q=>∃(a:Addr) (bs:List Bool),xs=[.ref a]/\SqL X.K H a (bs.map V.bl)/\Q (.bl (bs.all id)) H):=by
 intro pins s σ H xs us Q I r h;obtain⟨a,bs,rfl,ha,q⟩:=h;obtain⟨u,rfl,rx⟩:=vals1 r;cases rx;obtain⟨its,rv,pl,hz⟩:=I.list ha;have hlen:bs.length=its.length:=by have:=rv.length;simpa using this
 have hlt:a≠s.heap.objs.size:=by obtain⟨o,n,ho,_⟩:=pl;exact ji (ik ho)
 refine call_all_walk (wpAny_pyIter_list pl.isList ?_);refine⟨s.heap.objs.size,_,_,_,_,_,fun i=>bs.getD i false,rfl,Walks.list (show X.A.in1.handled=none from I.ok.hd hc) _ a hlt its.toArray,⟨⟨_,jb _ rfl,rfl,rfl⟩,pl.isList.push _⟩,?_,fun h' tk hk=>?_⟩
 ·intro i v s' Q' E' hP hQ;have hv:its[i]?=some v:=by simpa using hP
  obtain⟨x,hx,rxv⟩:=rv.getR hv;rw[υ]at hx;cases hb:bs[i]? with
  |none=>rw[hb]at hx;cases hx
  |some b =>
   rw[hb]at hx;cases hx;cases rxv;have e:bs.getD i false=b:=by simp[Ω,hb]
   have hQ':Q' (bs.getD i false) s':=hQ;rw[e]at hQ';exact lq hQ'
 ·refine⟨.bl (bs.all id),H,I.kept fun b o e=>hk b o (by simp;exact ji (ik e)) (Θ _ e),?_,q⟩;show Value.bool _=Value.bool _;rw[←mY bs,hlen];simp
end
abbrev Cx.comp (X:Cx) (scope:Scope) (cl:List (Str×Addr)) (N:List Str) (s:χ) (H:Hp) (fp:List Addr) (C:Addr):Cx where
 prog:=X.prog
 w:=X.w
 K:=X.K
 mg:=X.mg
 base:=X.base
 A:=X.A
 N:=N
 s₀:=s
 H₀:=H
 env:=compEnvC scope cl C X.env
 outer:=X.stack
 stack:=X.stack
 ex:=fp
 fn:=fun _=>false
 calm:=X.calm
 pn:=[]
 xe:=fun _ _=>False
def iH (env:Env):List (Str×Addr)->Prop
 |[]=>True
 |p::r=>env.cells.lookup p.1=some p.2/\iH env r
theorem iH.all : ∀{cl:List (Str×Addr)},iH env cl->∀p∈cl,env.cells.lookup p.1=some p.2
 |[],_,p,hp=>by simp at hp
 |_::_,h,p,hp=>(Ξ.mp hp).elim (fun e=>e ▸ h.1) (iH.all h.2 p)
theorem iH.at(h:iH env cl)(e:cl.lookup x=some c):env.cells.lookup x=some c :=
 h.all (x,c) (lw e)
def rL (X:Cx) (scope:Scope) (cl:List (Str×Addr)):List Str->List Nat->Prop
 |[],[]=>True
 |y::ys,j::js=>(X.N[j]?=some y/\X.env.kindOf y=some .cell/\(relabel scope X.env).names.lookup y=some .cell/\∃c,cl.lookup y=some c)/\rL X scope cl ys js
 |_,_=>False
theorem rL.get : ∀{ys:List Str}{js:List Nat}{k:Nat}{y:Str},rL X scope cl ys js->ys[k]?=some y →
  ∃j,js[k]?=some j/\X.N[j]?=some y/\X.env.kindOf y=some .cell/\(relabel scope X.env).names.lookup y=some .cell/\∃c,cl.lookup y=some c
 |[],[],k,y,_,e=>by simp at e
 |y'::ys,j::js,0,y,h,e=>by
  simp at e;subst e;exact⟨j,rfl,h.1⟩
 |y'::ys,j::js,k+1,y,h,e=>by
  obtain⟨j',e1,r⟩:=rL.get (k:=k) h.2 (by simpa using e);exact⟨j',by simpa using e1,r⟩
 |[],_::_,_,_,h,_=>h.elim
 |_::_,[],_,_,h,_=>h.elim
theorem rL.len : ∀{ys:List Str}{js:List Nat},rL X scope cl ys js->ys.length=js.length
 |[],[],_=>rfl
 |_::_,_::_,h=>by rw[Γ,Γ,rL.len h.2]
 |[],_::_,h=>h.elim
 |_::_,[],h=>h.elim
def fA (k:Nat) (js:List Nat) (σ:St):St:=kc k none++js.map fun j=>σ.getD j none
def PIf (X:Cx) (ifs:List Expr) (t:TT):Prop :=
 ∀(pins:List (Addr×Obj)) (s:χ) (σ:St) (H:Hp) (Q:Bool->Hp->Prop),Inv X pins σ H s->t σ H Q →
  iz (jj X.prog X.w) X.A (forIn ifs true fun c r=>if r=true then do let ok ←isTrue c X.env (eval c X.env);pure (sm ok) else pure (sm r)) (TP X pins σ Q) X.xe s
def tYes:TT:=fun _ H Q=>Q true H
theorem kT : PIf X [] tYes:=fun _ _ _ H _ I h=>wpAny_tests_nil ⟨H,I,h⟩
theorem aNi(h:PT X c t):PIf X [c] t:=fun pins s σ H Q I hq=>wpAny_tests_one (h pins s σ H Q I hq)
theorem Inv.nsys(I:Inv X pins σ H s):s.heap.objs.size≠jw:=fun z=>by
 have h:ie<s.heap.objs.size:=(I.mod.glob.keeps I.bk).lt;rw[z]at h;exact absurd h (by decide)
def iK (J:It) (k:Nat) (js:List Nat) (g:TG) (tc:TT) (te:TE) (σ:St) (Q:VK) (H1:Hp):Prop :=
 ∃W:Nat->Nat->St->List V->Hp->Prop,(∃m,W 0 m (fA k js σ) [] H1)/\∀i m σ' xs H',W i m σ' xs H' →
  (J.stop i H'/\∀p,H' p=none->p≠jw->Q (.ref p) (upd H' p (.lst xs))) ∨
  (J.go i H'/\xs.length<τ/\∃N:St->List V->Hp->Prop,(∀σ' ys H',N σ' ys H'->∃m',m'<m/\W (i+1) m' σ' ys H') ∧
   ∀x H2,J.yld i H' x H2->g x σ' H2 fun σ3 H3=>tc σ3 H3 fun b H4=>if b=true then te σ3 H4 fun v H5=>N σ3 (xs++[v]) H5 else N σ3 xs H4)
def tComp (wi:TI) (k:Nat) (js:List Nat) (g:TG) (tc:TT) (te:TE):TE:=fun σ H Q=>wi σ H fun J H1=>iK J k js g tc te σ Q H1
section
variable {prog:lu}{w:my}{A:mj}{R:Result->χ->Prop}{s:χ}
theorem uA{iter:Expr}{acc:Value}(I:Nat->χ->Prop)
  (turn:∀n s,I n s->iz (jj prog w) A (pyNext it) (fun r s₁=>match r with
   |none=>R (.ok .next) s₁
   |some v=>iz (jj prog w) A (ul target it v) (fun _ s₀=>iz (jj prog w) A (assign target env v) (fun _ s₂ =>
     iz (jj prog w) A (forIn ifs true fun c r=>if r=true then do let ok ←isTrue c env (eval c env);pure (sm ok) else pure (sm r)) (fun ok s₃ =>
      if ok=true then iz (jj prog w) A (eval elt env) (fun x s₄ =>
       iz (jj prog w) A (call (.builtin "list.append") [acc,x]) (fun _ s₅=>∃m,m<n/\I m s₅) (fun _ _=>False) s₄) (fun _ _=>False) s₃
      else ∃m,m<n/\I m s₃) (fun _ _=>False) s₂) (fun _ _=>False) s₀) (fun _ _=>False) s₁) (fun _ _=>False) s)
  (n:Nat)(h:I n s):codeAny (jj prog w) A (.compLoop (.ListComp elt [⟨target,iter,ifs,0⟩] scope pos) 0 it acc env) R s:=by
 refine codeAny_loop rfl I (fun n s hI=>?_) n h;show iz _ A ((compTurn (.ListComp elt [⟨target,iter,ifs,0⟩] scope pos) 0 it acc env).onRaise (fun x=>do noteFrame x env;theTreesLotGoes x)) _ _ s;refine wpAny_noted ?_;rw[compTurn_list];refine ψ (wpAny_standAt (ψ (mh (turn n s hI) (fun r s₁ h₁=>?_) fun _ _ z=>ke z)));cases r with
 |none=>exact io h₁
 |some v =>
  refine ψ (mh h₁ (fun _ s₀ h₀=>?_) fun _ _ z=>ke z);refine ψ (mh h₀ (fun _ s₂ h₂=>ψ (mh h₂ (fun ok s₃ h₃=>?_) fun _ _ z=>ke z)) fun _ _ z=>ke z);cases ok with
  |false=>exact io ⟨rfl,h₃⟩
  |true =>
   exact ψ (ψ (mh h₃ (fun x s₄ h₄=>ψ (mh h₄ (fun _ s₅ h₅=>io (io ⟨rfl,h₅⟩)) fun _ _ z=>ke z)) fun _ _ z=>ke z))
end
theorem HOk.but{H:Hp}{h':nc}(x:HOk P w H h)(hn:H C=none)(k:∀b o,b≠C->h.get? b=some o->h'.get? b=some o):HOk P w H h':=fun b u e =>
 (x b u e).stay (fun c v hc q=>k c v (by
  rcases hc with z|z
  ·intro y;rw[←z,y,hn]at e;cases e
  ·intro y;rw[y,hn]at z;cases z) q) (fun _ q=>q) fun _ _ q=>q
theorem HOk.track{H:Hp}(x:HOk P w H h)(hn:H a=none)(new:vE P w (upd H a o) h a o):HOk P w (upd H a o) h:=fun b u e=>by
 by_cases hb:b=a
 ·subst hb;rw[jT]at e;cases e;exact new
 ·rw[kF hb]at e;exact(x b u e).stay (fun _ _ _ q=>q) (fun c q=>by rw[kF (jS q hn)];exact q) fun c xs q=>by rw[kF (jS q hn)];exact q
section
variable {X:Cx}{elt tg iter:Expr}{ifs:List Expr}{scope:Scope}{cl:List (Str×Addr)}{ts ys:List Str}{js:List Nat}{pos:Pos}{wi:TI}{g:TG}{tc:TT}{te:TE}
theorem aJc{i:Nat}(h:(fA k js σ)[i]?=some (some v)):∃n j,i=k+n/\js[n]?=some j/\σ[j]?=some (some v):=by
 unfold fA at h
 by_cases hi:i<k
 ·rw[ii (by simpa using hi),List.getElem?_replicate]at h
  split at h <;> cases h
 ·rw[ic (by simpa using hi),υ,nu]at h;cases e:js[i-k]? with
  |none=>rw[e]at h;cases h
  |some j =>
   rw[e]at h;have h' : σ.getD j none=some v:=jv h;refine⟨i-k,j,by omega,e,?_⟩;rw[Ω]at h';cases q : σ[j]? with
   |none=>rw[q]at h';cases h'
   |some o=>rw[q]at h';exact congrArg some h'
theorem aAx{s:χ}{fp:List Addr}{C:Addr}{h1:nc}{t':Nat}(I:Inv X pins σ H s)(hsub:iH X.env cl)(hcap:rL X scope cl ys js)
  (hkind:scope.kind=.function)(hhas:∀x,((relabel scope X.env).names.lookup x=some .cell\/(relabel scope X.env).names.lookup x=some .free)->∃c,cl.lookup x=some c)
  (f2:∀b∈fp,iA X pins H b)(fl:∀b∈fp,b<s.heap.objs.size)(hC:s.heap.objs.size<=C)(hn:h1.Ns C m)(old:∀b o,s.heap.get? b=some o->h1.get? b=some o):
  Inv (X.comp scope cl (ts++ys) s H fp C) [] (fA ts.length js σ) H { s with heap:=h1,toks:=t' }:=by
 obtain⟨mo,hno,hlo⟩:=id I.loc;refine⟨⟨I.ok.mod,hkind,I.ok.glob,I.ok.blt,hC,fun x y c e1 e2=>I.ok.inj x y c (hsub.at e1) (hsub.at e2),fun x hx=>hhas x hx,fun x c z _=>(by cases z),I.ok.hd,I.ok.frames,.inl rfl,
   fun b hb=>⟨ji (ω (fl b hb) hC),fun x c e=>(f2 b hb).2.2.2.2.1 x c (hsub.at e)⟩,I.bs,iq I.ok.bsz I.sz,fun b o e hb=>?_,fun b hb z=>?_,I.stack,I.stkFree⟩,
  rfl,I.bare,Un.kept old,⟨m,hn,fun i x v e1 e2 e3=>?_⟩,fun x c e=>?_,I.hok.fresh hC,fun x c e=>I.freeC x c (hsub.at e),fun p hp=>absurd (show p∈([]:List (Addr×Obj)) from hp) (by simp),I.hok.kept old,?_⟩
 ·-- an object of the base is none of the iterator's
  obtain⟨_,_,_,h3,_⟩:=f2 b hb;rcases h3 with z|z
  ·exact I.ok.noex b o e z
  ·exact absurd (ω (ik e) (iq I.ok.bsz z)) (oy _)
 ·obtain⟨_,h1',h2',_⟩:=f2 b hb;rcases Ξ.mp (I.stkSub b z) with e|e
  ·exact h1' e
  ·exact h2' e
 ·obtain⟨n,j,rfl,ej,es⟩:=aJc e2;have ey:ys[n]?=some x:=by
   have e1':(ts++ys)[ts.length+n]?=some x:=e1;rw[ic (by omega)]at e1';simpa using e1'
  obtain⟨j',ej',hN,hk,hr,c,hc⟩:=hcap.get ey;rw[ej]at ej';cases ej';obtain⟨u,ru,l⟩:=hlo j x v hN es (.inr (.inl hk));refine⟨u,ru,.inr ⟨.inl hr,c,hc,?_⟩⟩;rcases l with⟨k1,_⟩|⟨_,c',hc',⟨o,ho,hd⟩⟩
  ·rw[hk]at k1;cases k1
  ·have:=hsub.at hc;rw[hc']at this;cases this;exact⟨o,old _ o ho,hd⟩
 ·obtain⟨v,o,ho,hd⟩:=I.cell x c (hsub.at e);exact⟨v,o,old _ o ho,hd⟩
 ·show(fA ts.length js σ).length=(ts++ys).length;unfold fA;rw[ν,ν,nu,δ,hcap.len]
theorem aLb{H3:Hp}{s4:χ}{fp:List Addr}{D:Addr}(I2:Inv X pins σ H2 s2)(f2:∀b∈fp,iA X pins H2 b)
  (I4:Inv (X.comp scope cl N s2 H2 fp C) pins' σ' H3 s4)(hC:s2.heap.objs.size<=C)(hD:s2.heap.objs.size<=D)(hDC:D≠C)(hs':sf C s4.heap h')(rv:kJ xs its)(hz:xs.length<=τ)(e4:s4.heap.get? D=some { cls:=.type "list",data:=.seq its.toArray n })(hn:H3 D=none):
  Inv X pins σ (upd H3 D (.lst xs)) { s4 with heap:=h' }:=by
 have ext:=hs'.extBut;have neC:∀b o,s2.heap.get? b=some o->b≠C:=fun b o e=>ji (ω (ik e) hC);have neD:∀b o,s2.heap.get? b=some o->b≠D:=fun b o e=>ji (ω (ik e) hD);have hok:HOk X.prog X.w (upd H3 D (.lst xs)) h':=by
  have h1:HOk X.prog X.w H3 h':=HOk.but (C:=C) I4.hok I4.free fun b o hb e=>ext b o hb e;exact HOk.track h1 hn ⟨hz,its,n,rv,ext D _ hDC e4⟩
 have B:Un (frs X.stack) fp H2 H3 s2.heap s4.heap:=I4.base;have u:Un (frs X.stack) fp H2 (upd H3 D (.lst xs)) s2.heap h':=by
  refine⟨fun b o e q hb hx=>ext b o (neC b o e) (B.keep b o e q hb hx),fun b o e q hb hx=>?_,fun b o e q hx=>?_,fun b o e hx=>?_,fun b ys q=>?_,fun b o ys q=>?_,fun b ps q=>?_⟩
  ·obtain⟨sl,e1⟩:=B.slot b o e q hb hx;exact⟨sl,ext b _ (neC b o e) e1⟩
  ·rw[kF (neD b o e)];exact B.free b o e q hx
  ·obtain⟨o',e1⟩:=B.there b o e hx;exact⟨o',ext b _ (neC b o e) e1⟩
  ·have:=B.tups b ys q;rw[kF (jS this hn)];exact this
  ·have:=B.frzs b o ys q;rw[kF (jS this hn)];exact this
  ·obtain⟨m1,e1⟩:=B.tbls b ps q;exact⟨m1,by rw[kF (jS e1 hn)];exact e1⟩
 have os:s4.os=s2.os:=I4.os;have gb:=I4.bare;obtain⟨hh,gg,dd,tt,os'⟩:=s4;obtain rfl:os'=s2.os:=os;have fin:=I2.call (h':=h') (g':=gg) (d':=dd) (t':=tt) (ch:=fp) u hok gb fun b hb=>⟨(f2 b hb).2.2.2.1,(f2 b hb).2.1,(f2 b hb).2.2.2.2.1,(f2 b hb).2.2.2.2.2⟩;exact fin
theorem kU(ts ys:List Str)(js:List Nat)(hc:X.calm=true)(hi:PI X tg iter wi)(hclos:closureFor scope X.env=pure cl)(hsub:iH X.env cl)(hcap:rL X scope cl ys js)
  (hg:∀s H fp C,PG (X.comp scope cl (ts++ys) s H fp C) tg g)(ht:∀s H fp C,PIf (X.comp scope cl (ts++ys) s H fp C) ifs tc)(he:∀s H fp C,PE (X.comp scope cl (ts++ys) s H fp C) elt te)
  (hkind:scope.kind=.function:=by rfl)(hcell:(scope.names.all fun y=>y.2 != .cell)=true:=by rfl)
  (hnames:(scope.names.all fun y=>y.2 != .local||scope.names.lookup y.1 == some .local)=true:=by rfl)
  (hhas:((relabel scope X.env).names.all fun p=>(p.2 != .cell&&p.2 != .free)||(cl.lookup p.1).isSome)=true:=by rfl)
  (hs:∀x,foldedSetIterable iter X.env x=pure x:=by intro _;rfl):PE X (.ListComp elt [⟨tg,iter,ifs,0⟩] scope pos) (tComp wi ts.length js g tc te):=by
 intro pins s σ H Q I h;have hcell':∀y∈scope.names,y.2≠.cell:=fun y hy z=>by
  have:=jm.mp hcell y hy;rw[z]at this;exact absurd this (by decide)
 have hnames':∀y∈scope.names,y.2=.local->scope.names.lookup y.1=some .local:=fun y hy z=>by
  have:=jm.mp hnames y hy;rw[z]at this;simpa using this
 have hhas':∀x,((relabel scope X.env).names.lookup x=some .cell\/(relabel scope X.env).names.lookup x=some .free)->∃c,cl.lookup x=some c:=fun x hx=>by
  rcases hx with hx|hx
  ·have:=jm.mp hhas _ (lw hx);exact oz.mp (by simpa using this)
  ·have:=jm.mp hhas _ (lw hx);exact oz.mp (by simpa using this)
 rw[eval_ListComp];refine wpAny_comprehension_free (use:=none) rfl hs hclos hkind hnames' (thn (hi pins s σ H _ I h) fun v s1 h1=>thn h1 fun itv s2 h2=>?_);obtain⟨it,fp,tn,J,H2,e,I2,T,st2,f2,W,⟨m0,w0⟩,turn⟩:=h2;subst e;have fl:∀b∈fp,b<s2.heap.objs.size:=fun b hb=>by
  obtain⟨o,e,_⟩:=T.obj _ _ st2 b hb;exact ik e
 refine qr (wpAny_newFunctionEnv hcell' (by intro y hy;simp at hy) (fun h₁ hns₁ hsb₁=>?_) hkind);dsimp only at hns₁ hsb₁ ⊢;generalize hHH:s2.heap.push { cls:=.type "list",dict:=none,data:=.seq ([]:List Value).toArray }=HH at hns₁ hsb₁ ⊢;have hC:HH.objs.size=s2.heap.objs.size+1:=by rw[←hHH,nc.size_push]
 have hDC:s2.heap.objs.size≠HH.objs.size:=by rw[hC];exact ji (ub _)
 have hCle:s2.heap.objs.size<=HH.objs.size:=by rw[hC];exact Nat.le_succ _
 have old:∀b o,s2.heap.get? b=some o->h₁.get? b=some o:=fun b o e =>
  hsb₁.extBut b o (ji (ω (ik e) hCle)) (Θ _ (hHH ▸ Θ _ e))
 have hacc:h₁.get? s2.heap.objs.size=some { cls:=.type "list",data:=.seq ([]:List Value).toArray }:=hsb₁.extBut _ _ hDC (Θ _ (hHH ▸ jb _ rfl));have nofs:∀b,s2.heap.objs.size<=b->b∉frs X.stack:=fun b hb z=>by
  rcases Ξ.mp (I2.stkSub b z) with e|e
  ·exact absurd (ω I2.lt (e ▸ hb)) (oy _)
  ·exact I2.nofs hb e
 have nocell:∀b,s2.heap.objs.size<=b->∀x c,cl.lookup x=some c->c≠b:=fun b hb x c e z=>by
  obtain⟨v,q⟩:=I2.cell x c (hsub.at e);exact absurd (ω q.lt (z ▸ hb)) (oy _)
 have I':Inv (X.comp scope cl (ts++ys) s2 H2 fp HH.objs.size) [] (fA ts.length js σ) H2 { s2 with heap:=h₁,toks:=s2.toks+([]:List (Str×Value)).length } :=
  aAx I2 hsub hcap hkind hhas' f2 fl hCle hns₁ old
 have addPin:∀{σ':St}{H':Hp}{s':χ}{o:Obj},Inv (X.comp scope cl (ts++ys) s2 H2 fp HH.objs.size) [] σ' H' s'->s'.heap.get? s2.heap.objs.size=some o->H' s2.heap.objs.size=none->(∀v,o.data≠.cell v) →
   Inv (X.comp scope cl (ts++ys) s2 H2 fp HH.objs.size) [(s2.heap.objs.size,o)] σ' H' s':=fun {σ' H' s' o} J e n d=>J.pins_of fun p hp=>by
  have e':p=(s2.heap.objs.size,o):=by simpa using hp
  subst e';exact⟨e,n,hDC,nofs _ (ξ _),d⟩
 have stat:∀{pins':List (Addr×Obj)}{H':Hp},(∀p∈pins',p.1=s2.heap.objs.size)->(∀b∈fp,H' b=none)->∀b∈fp,iA (X.comp scope cl (ts++ys) s2 H2 fp HH.objs.size) pins' H' b:=fun {pins' H'} hp hn b hb =>
  ⟨hn b hb,ji (ω (fl b hb) hCle),I'.ok.exfs b hb,.inl hb,(I'.ok.exf b hb).2,fun p hq z=>by
   have hq':p∈pins':=by simpa using hq
   exact absurd (fl b hb) (by rw[←z,hp p hq'];exact oy _)⟩
 have tn1:tn 0 h₁:=T.keep _ _ _ st2 fun b _ o e=>old b o e;have loop:∀s₃ : χ,s₃ = { s2 with heap:=h₁,toks:=s2.toks+([]:List (Str×Value)).length } →
   codeAny (jj X.prog X.w) X.A (.compLoop (.ListComp elt [⟨tg,iter,ifs,0⟩] scope pos) 0 (.ref it) (.ref s2.heap.objs.size) (compEnvC scope cl HH.objs.size X.env))
    (compPost (jj X.prog X.w) X.A X.xe none (EP X pins σ Q) (.ref s2.heap.objs.size) HH.objs.size) s₃:=by
  rintro s₃ rfl;refine uA (fun n s'=>∃i σ' xs H' its nn,Inv (X.comp scope cl (ts++ys) s2 H2 fp HH.objs.size) [] σ' H' s'/\kJ xs its/\xs.length<=τ/\s'.heap.get? s2.heap.objs.size=some { cls:=.type "list",data:=.seq its.toArray nn }/\H' s2.heap.objs.size=none ∧
   tn i s'.heap/\(∀b∈fp,H' b=none)/\W i n σ' xs H') ?_ m0 ⟨0,_,[],H2,[],0,I',.nil,ij _,hacc,I2.hok.fresh (ξ _),tn1,fun b hb=>(f2 b hb).1,w0⟩
  rintro n s3 ⟨i,σ3,xs,H3,its,nn,I3,rv,hz3,ac3,nD3,st3,fr3,w3⟩;have nd:∀v,({ cls:=.type "list",data:=.seq its.toArray nn } : Obj).data≠.cell v:=fun v z=>by
   have z':Data.seq its.toArray nn=Data.cell v:=z;cases z'
  have I3p:=addPin I3 ac3 nD3 nd;have pinD:∀p∈[(s2.heap.objs.size,({ cls:=.type "list",data:=.seq its.toArray nn } : Obj))],p.1=s2.heap.objs.size:=fun p hp=>by
   rw[ο]at hp;rw[hp]
  rcases turn i n σ3 xs H3 w3 with⟨stop,qn⟩|⟨go,hz,N,hN,step⟩
  ·refine thn (T.done (X.comp scope cl (ts++ys) s2 H2 fp HH.objs.size) rfl rfl rfl hc i _ s3 σ3 H3 (fun _ _=>False) I3p (stat pinD fr3) st3 stop) fun r s4 zq=>?_;obtain⟨hr,I4⟩:=zq;subst hr;obtain⟨m,hn,_⟩:=I4.loc;have ac4:=(I4.pin _ (ia _ (ο.mpr rfl))).1;exact⟨m,hn,fun h' hs'=>⟨.ref s2.heap.objs.size,_,aLb I2 f2 I4 hCle (ξ _) hDC hs' rv hz3 ac4 nD3,rfl,qn _ nD3 I2.nsys⟩⟩
  ·refine thn (T.item (X.comp scope cl (ts++ys) s2 H2 fp HH.objs.size) rfl rfl rfl hc i _ s3 σ3 H3 (fun _ _=>False) I3p (stat pinD fr3) st3 go) fun r s4 zq=>?_;obtain⟨u,hr,h4⟩:=zq;subst hr;refine thn h4 fun _ s5 zq=>?_;obtain⟨x,H5,I5,r5,y5,st5,fr5⟩:=zq;have I5':=I5.pinned (stat pinD fr5) (T.obj _ _ st5);refine thn (hg _ _ _ _ _ s5 σ3 H5 x u _ I5' r5 (step x H5 y5)) fun _ s6 zq=>?_;obtain⟨σ6,H6,I6,q6⟩:=zq;refine thn (ht _ _ _ _ _ s6 σ6 H6 _ I6 q6) fun b s7 zq=>?_;obtain⟨H7,I7,q7⟩:=zq;have facts:∀{σ':St}{H':Hp}{s':χ},Inv (X.comp scope cl (ts++ys) s2 H2 fp HH.objs.size) ([(s2.heap.objs.size,({ cls:=.type "list",data:=.seq its.toArray nn } : Obj))]++cU fp s5.heap) σ' H' s' →
     s'.heap.get? s2.heap.objs.size=some { cls:=.type "list",data:=.seq its.toArray nn }/\H' s2.heap.objs.size=none/\tn (i+1) s'.heap/\(∀b∈fp,H' b=none):=fun {σ' H' s'} J=>by
    have p1:=J.pin (s2.heap.objs.size,({ cls:=.type "list",data:=.seq its.toArray nn } : Obj)) (by simp);refine⟨p1.1,p1.2.1,T.keep _ _ _ st5 fun b hb o e=>(J.pin (b,o) (ia _ (ia _ (yD hb e)))).1,fun b hb=>?_⟩;obtain⟨o,e,d⟩:=T.obj _ _ st5 b hb;exact(J.pin (b,o) (ia _ (ia _ (yD hb e)))).2.1
   have bare:∀{σ':St}{H':Hp}{s':χ},Inv (X.comp scope cl (ts++ys) s2 H2 fp HH.objs.size) ([(s2.heap.objs.size,({ cls:=.type "list",data:=.seq its.toArray nn } : Obj))]++cU fp s5.heap) σ' H' s' →
     Inv (X.comp scope cl (ts++ys) s2 H2 fp HH.objs.size) [] σ' H' s':=fun J=>J.pins_of fun p hp=>absurd hp (by simp)
   cases b with
   |false =>
    have q7':N σ6 xs H7:=by simpa using q7
    obtain⟨m',hm,w7⟩:=hN _ _ _ q7';obtain⟨a1,a2,a3,a4⟩:=facts I7;show ∃m,m<n/\_;exact⟨m',hm,i+1,σ6,xs,H7,its,nn,bare I7,rv,hz3,a1,a2,a3,a4,w7⟩
   |true =>
    have q7':te σ6 H7 fun v H5=>N σ6 (xs++[v]) H5:=by
     rw[if_pos rfl]at q7;exact q7
    show iz _ _ (eval elt _) _ _ s7;refine thn (he _ _ _ _ _ s7 σ6 H7 _ I7 q7') fun xv s8 zq=>?_;obtain⟨v,H8,I8,r8,n8⟩:=zq;obtain⟨m',hm,w8⟩:=hN _ _ _ n8;obtain⟨a1,a2,a3,a4⟩:=facts I8;have hl:=rv.length;refine sk F.slot_list_append ⟨_,a1,rfl⟩ F.entry_list_append (F.args_list_append_2 _ _) (PySem.list_append s2.heap.objs.size its.toArray nn xv (by rw[Φ];omega)) ⟨a1,?_⟩;obtain⟨n9,q9⟩ : ∃n9,(s8.heap.update s2.heap.objs.size (Obj.mapSeq fun a=>a.push xv)).get? s2.heap.objs.size=some { cls:=.type "list",data:=.seq (its++[xv]).toArray n9 } :=
     ⟨_,by rw[show(its++[xv]).toArray=its.toArray.push xv by simp];exact PySem.IsL.update a1 (fun a=>a.push xv)⟩
    have I9:Inv (X.comp scope cl (ts++ys) s2 H2 fp HH.objs.size) [] σ6 H8 { s8 with heap:=s8.heap.update s2.heap.objs.size (Obj.mapSeq fun a=>a.push xv),toks:=s8.toks } :=
     (bare I8).turned (it:=s2.heap.objs.size) (fun b o hb e=>(sj s8.heap _ (lm hb)).trans e) a2 hDC (.inr (ξ _)) (nocell _ (ξ _)) fun p hp=>absurd (show p∈([]:List (Addr×Obj)) from hp) (by simp)
    refine⟨m',hm,i+1,σ6,xs++[v],H8,its++[xv],n9,I9,rv.append (.cons r8 .nil),?_,q9,a2,?_,a4,w8⟩
    ·rw[ν,jt];omega
    ·exact T.keep _ _ _ a3 fun b hb o e=>(sj s8.heap _ (lm (ji (fl b hb)))).trans e
 exact codeAny_compStart_list (loop _ rfl) (T.self _ 0 _ _ _ tn1 (loop _ rfl))
end
abbrev vK (js:List Nat) (σ:St):St:=js.map fun j=>σ.getD j none
def fC (P:Nat->List V->Hp->Prop) (i:Nat) (js:List Nat) (σ:St):St->List V->Hp->Prop:=fun σ' ys H=>P (i+1) ys H/\∃o,σ'=o::vK js σ
theorem eV{J:It}{n:Nat}{g:TG}{tc:TT}{te:TE}{Q:VK}(P:Nat->List V->Hp->Prop)(R:St->Prop)(r0:R (fA k js σ))(h0:P 0 [] H1)(hz:n<τ)(hl:∀i ys H,i<=n->P i ys H->ys.length<=i)
  (hg:∀i ys H,i<n->P i ys H->J.go i H)(hd:∀ys H,P n ys H->J.stop n H/\∀p,H p=none->p≠jw->Q (.ref p) (upd H p (.lst ys)))
  (hs:∀i ys σ' H,i<n->P i ys H->R σ'->∀x H',J.yld i H x H'->g x σ' H' fun σ3 H3=>tc σ3 H3 fun b H2=>if b=true then te σ3 H2 fun v H3=>P (i+1) (ys++[v]) H3/\R σ3 else P (i+1) ys H2/\R σ3):iK J k js g tc te σ Q H1:=by
 refine⟨fun i m σ' ys H=>m=n-i/\i<=n/\P i ys H/\R σ',⟨n,rfl,ij _,h0,r0⟩,?_⟩;rintro i m σ' ys H ⟨rfl,hi,p,r⟩;rcases Nat.lt_or_eq_of_le hi with h|rfl
 ·exact .inr ⟨hg i ys H h p,kn (hl i ys H hi p) (vh h hz),fun σ3 zs H3=>P (i+1) zs H3/\R σ3,fun σ3 zs H3 z=>⟨n-(i+1),Nat.sub_succ_lt_self _ _ h,rfl,h,z.1,z.2⟩,hs i ys σ' H h p r⟩
 ·exact .inl (hd ys H p)
theorem vV{K:ς}{xs:List V}{k:Nat}{tc:TT}{te:TE}{Q:VK}(P:Nat->List V->Hp->Prop)(h0:P 0 [] H1)(hl:∀i ys H,i<=xs.length->P i ys H->SqL K H a xs/\ys.length<=i)(hz:xs.length<τ)
  (hs:∀i x ys H,xs[i]?=some x->P i ys H->tc (some x::vK js σ) H fun b H2=>if b=true then te (some x::vK js σ) H2 fun v H3=>fC P i js σ (some x::vK js σ) (ys++[v]) H3 else fC P i js σ (some x::vK js σ) ys H2)
  (hd:∀ys H,P xs.length ys H->∀p,H p=none->Q (.ref p) (upd H p (.lst ys)))(hk:k=1:=by rfl):
  iK (Itl K a) k js (yC 0) tc te σ Q H1:=by
 subst hk;refine eV P (fun σ'=>∃o,σ'=o::vK js σ) ⟨none,rfl⟩ h0 hz (fun i ys H h p=>(hl i ys H h p).2) (fun i ys H h p=>⟨xs,xs[i],(hl i ys H (kq h) p).1,ζ h⟩) (fun ys H p=>⟨⟨xs,(hl _ ys H (ξ _) p).1,ξ _⟩,fun l n _=>hd ys H p l n⟩) fun i ys σ' H h p r x H' y=>?_;obtain⟨o,rfl⟩:=r;have q:=(hl i ys H (kq h) p).1;obtain⟨rfl,y⟩:=y;exact hs i x ys _ (y xs q) p
theorem gZ{K:ς}{xs:List V}{k:Nat}{tc:TT}{te:TE}{Q:VK}(P:Nat->List V->Hp->Prop)(h0:P 0 [] H1)(hl:∀i ys H,i<=xs.length->P i ys H->SqT K H a xs/\ys.length<=i)(hz:xs.length<τ)
  (hs:∀i x ys H,xs[i]?=some x->P i ys H->tc (some x::vK js σ) H fun b H2=>if b=true then te (some x::vK js σ) H2 fun v H3=>fC P i js σ (some x::vK js σ) (ys++[v]) H3 else fC P i js σ (some x::vK js σ) ys H2)
  (hd:∀ys H,P xs.length ys H->∀p,H p=none->Q (.ref p) (upd H p (.lst ys)))(hk:k=1:=by rfl):
  iK (Itt K a) k js (yC 0) tc te σ Q H1:=by
 subst hk;refine eV P (fun σ'=>∃o,σ'=o::vK js σ) ⟨none,rfl⟩ h0 hz (fun i ys H h p=>(hl i ys H h p).2) (fun i ys H h p=>⟨xs,xs[i],(hl i ys H (kq h) p).1,ζ h⟩) (fun ys H p=>⟨⟨xs,(hl _ ys H (ξ _) p).1,ξ _⟩,fun l n _=>hd ys H p l n⟩) fun i ys σ' H h p r x H' y=>?_;obtain⟨o,rfl⟩:=r;have q:=(hl i ys H (kq h) p).1;obtain⟨rfl,y⟩:=y;exact hs i x ys _ (y xs q) p
theorem mS{lo:Int}{n k:Nat}{tc:TT}{te:TE}{Q:VK}(P:Nat->List V->Hp->Prop)(h0:P 0 [] H1)(hl:∀i ys H,i<=n->P i ys H->ys.length<=i)(hz:n<τ)
  (hs:∀i ys H,i<n->P i ys H->tc (some (.int (lo+i))::vK js σ) H fun b H2=>if b=true then te (some (.int (lo+i))::vK js σ) H2 fun v H3=>fC P i js σ (some (.int (lo+i))::vK js σ) (ys++[v]) H3 else fC P i js σ (some (.int (lo+i))::vK js σ) ys H2)
  (hd:∀ys H,P n ys H->∀p,H p=none->p≠jw->Q (.ref p) (upd H p (.lst ys)))(hk:k=1:=by rfl):iK (Itr lo n) k js (yC 0) tc te σ Q H1:=by
 subst hk;refine eV P (fun σ'=>∃o,σ'=o::vK js σ) ⟨none,rfl⟩ h0 hz hl (fun i ys H h p=>h) (fun ys H p=>⟨ξ _,hd ys H p⟩) fun i ys σ' H h p r x H' y=>?_;obtain⟨o,rfl⟩:=r;obtain⟨rfl,rfl⟩:=y;exact hs i ys _ h p
theorem yE{lo:Int}{n:Nat}{k:Nat}{tc:TT}{te:TE}{Q:VK}(P:Nat->List V->Hp->Prop)(h0:P 0 [] H1)(hl:∀i ys H,i<=n->P i ys H->ys.length<=i)(hz:n<τ)
  (hs:∀i ys H,i<n->P i ys H->tc (some (.int (lo+i))::vK js σ) H fun b H2=>if b=true then te (some (.int (lo+i))::vK js σ) H2 fun v H3=>fC P i js σ (some (.int (lo+i))::vK js σ) (ys++[v]) H3 else fC P i js σ (some (.int (lo+i))::vK js σ) ys H2)
  (hd:∀ys H,P n ys H->∀p,H p=none->Q (.ref p) (upd H p (.lst ys)))(hk:k=1:=by rfl):
  iK (Itr lo n) k js (yC 0) tc te σ Q H1:=mS P h0 hl hz hs (fun ys H p l n _=>hd ys H p l n) hk
section
variable {X:Cx}
theorem uF(K:ς)(h:X.K=K):IxR X (rIxT K):=h ▸ jQ
theorem aCk(K:ς)(h:X.K=K):IxR X (aMt K):=h ▸ jX
end
section
variable {κ : Type} [DecidableEq κ]
def aO (kvs:List (κ×V)) (k : κ):Option V:=(kvs.find? fun kv=>decide (kv.1=k)).map (·.2)
def putK (kvs:List (κ×V)) (k : κ) (v:V):List (κ×V) :=
 if (kvs.any fun kv=>decide (kv.1=k))=true then kvs.map (fun kv=>if kv.1=k then (kv.1,v) else kv) else kvs++[(k,v)]
def aPk (kvs:List (κ×V)) (k : κ):List (κ×V):=kvs.filter fun kv=>decide (kv.1≠k)
theorem pZ{p: κ×V}{r:List (κ×V)}{k: κ}(e:p.1=k):aO (p::r) k=some p.2:=by simp[aO,sq,e]
theorem pG{p: κ×V}{r:List (κ×V)}{k: κ}(e:¬ p.1=k):aO (p::r) k=aO r k:=by simp[aO,sq,e]
theorem aDr(k : κ):∀kvs:List (κ×V),(kvs.any fun kv=>decide (kv.1=k))=(aO kvs k).isSome
 |[]=>rfl
 |p::r=>by
  rw[wb]
  by_cases e:p.1=k
  ·simp only[pZ e,decide_eq_true e,Bool.true_or,Option.isSome_some]
  ·rw[pG e,decide_eq_false e,Bool.false_or];exact aDr k r
theorem dC(kvs:List (κ×V))(k : κ)(v:V):(putK kvs k v).length<=kvs.length+1:=by
 unfold putK
 split
 ·rw[δ];omega
 ·rw[ν,Γ,List.length_nil];omega
theorem cS.isSome_eq(r:cS o u):o.isSome=u.isSome:=by
 cases o with
 |none=>cases u with
  |none=>rfl
  |some _=>exact(show False from r).elim
 |some _=>cases u with
  |none=>exact(show False from r).elim
  |some _=>rfl
theorem cS.getD(r:cS o u)(rd:RelV d d'):RelV (o.getD d) (u.getD d'):=by
 cases o with
 |none=>cases u with
  |none=>exact rd
  |some _=>exact(show False from r).elim
 |some _=>cases u with
  |none=>exact(show False from r).elim
  |some _=>exact r
theorem KV.val(r:KV kvs vs)(k : κ):cS (aO kvs k) (uu vs k):=by
 unfold KV at r
 induction r with
 |nil=>exact ju
 | @cons p q ps qs h t ih =>
  obtain⟨h1,h2⟩:=h
  by_cases e:p.1=k
  ·have e':q.1=k:=h1.symm.trans e;have b:uu (q::qs) k=some q.2:=by simp[uu,sq,e']
   rw[pZ e,b];exact h2
  ·have e':¬ q.1=k:=fun z=>e (h1.trans z);have b:uu (q::qs) k=uu qs k:=by simp[uu,sq,e']
   rw[pG e,b];exact ih
theorem KV.any(r:KV kvs vs)(k : κ):(kvs.any fun kv=>decide (kv.1=k))=vs.any fun kv=>decide (kv.1=k):=by
 unfold KV at r
 induction r with
 |nil=>rfl
 |cons h t ih=>rw[wb,wb,ih,h.1]
theorem KV.repl(r:KV kvs vs)(k : κ)(ry:RelV y u):
  KV (kvs.map fun kv=>if kv.1=k then (kv.1,y) else kv) (vs.map fun kv=>if kv.1=k then (kv.1,u) else kv):=by
 unfold KV at r ⊢
 induction r with
 |nil=>exact .nil
 | @cons p q ps qs h t ih =>
  rw[ki,ki];refine .cons ?_ ih;obtain⟨h1,h2⟩:=h
  by_cases e:p.1=k
  ·rw[if_pos e,if_pos (h1.symm.trans e)];exact⟨h1,ry⟩
  ·rw[if_neg e,if_neg (fun z=>e (h1.trans z))];exact⟨h1,h2⟩
theorem KV.put(r:KV kvs vs)(k : κ)(ry:RelV y u):KV (putK kvs k y) (stored vs k u):=by
 unfold putK stored;rw[r.any k]
 by_cases e:(vs.any fun kv=>decide (kv.1=k))=true
 ·rw[if_pos e,if_pos e];exact r.repl k ry
 ·rw[if_neg e,if_neg e];exact Paired.snoc r ⟨rfl,ry⟩
theorem KV.drop(r:KV kvs vs)(k : κ):KV (aPk kvs k) (without vs k):=by
 unfold KV at r ⊢;unfold aPk without
 induction r with
 |nil=>exact .nil
 | @cons p q ps qs h t ih =>
  obtain⟨h1,h2⟩:=h;rw[List.filter_cons,List.filter_cons]
  by_cases e:p.1=k
  ·have a:¬ decide (p.1≠k)=true:=by simp[e]
   have b:¬ decide (q.1≠k)=true:=by simp[h1.symm.trans e]
   rw[if_neg a,if_neg b];exact ih
  ·have e':¬ q.1=k:=fun z=>e (h1.trans z);have a:decide (p.1≠k)=true:=by simp[e]
   have b:decide (q.1≠k)=true:=by simp[e']
   rw[if_pos a,if_pos b];exact .cons ⟨h1,h2⟩ ih
theorem KV.keys{kvs:List (κ×V)}{vs:List (κ×Value)}(r:KV kvs vs):kvs.map (·.1)=vs.map (·.1):=by
 unfold KV at r
 induction r with
 |nil=>rfl
 |cons h t ih=>rw[ki,ki,ih,h.1]
theorem KV.length{kvs:List (κ×V)}{vs:List (κ×Value)}(r:KV kvs vs):kvs.length=vs.length:=om r
end
theorem sP(r:RelV (kV k) u):(qN P w).is k u=true:=by
 cases k with
 |inl i=>obtain⟨t,e⟩:=(show ∃t,u=Value.int i t from r);subst e;exact aBx P w i t
 |inr x=>obtain⟨t,e⟩:=(show ∃t,u=Value.str x t from r);subst e;exact aCq P w x t
theorem tK : ∀{ks:List Key}{us:List Value},kJ (ks.map kV) us->ItemsAre (qN P w) ks us
 |[],_,r=>by rw[List.map_nil]at r;cases r;exact .nil
 |k::ks,_,r=>by
  rw[ki]at r;cases r with
  |cons h t=>exact .cons (sP h) (tK t)
abbrev KT (H:Hp):List (List Key×V)->List (List Key×Addr×Value)->Prop:=Paired fun p q=>p.1=q.1/\H q.2.1=some (.tup (p.1.map kV))/\RelV p.2 q.2.2
theorem KT.val(r:KT H kvs xs)(k:List Key):cS (aO kvs k) ((atKey xs k).map (·.2)):=by
 induction r with
 |nil=>exact ju
 | @cons p q ps qs h t ih =>
  obtain⟨h1,_,h2⟩:=h
  by_cases e:p.1=k
  ·have e':q.1=k:=h1.symm.trans e;have b:atKey (q::qs) k=some q.2:=by simp[atKey,sq,e']
   rw[pZ e,b];exact h2
  ·have e':¬ q.1=k:=fun z=>e (h1.trans z);have b:atKey (q::qs) k=atKey qs k:=by simp[atKey,sq,e']
   rw[pG e,b];exact ih
theorem KT.repl(r:KT H kvs xs)(k:List Key)(ry:RelV y u):
  KT H (kvs.map fun kv=>if kv.1=k then (kv.1,y) else kv) (xs.map (putAt k u)):=by
 induction r with
 |nil=>exact .nil
 | @cons p q ps qs h t ih =>
  rw[ki,ki];refine .cons ?_ ih;obtain⟨h1,h2,h3⟩:=h;unfold putAt
  by_cases e:p.1=k
  ·rw[if_pos e,if_pos (h1.symm.trans e)];exact⟨h1,h2,ry⟩
  ·rw[if_neg e,if_neg (fun z=>e (h1.trans z))];exact⟨h1,h2,h3⟩
theorem KT.put{H:Hp}(r:KT H kvs xs)(k:List Key)(hb:H b=some (.tup (k.map kV)))(ry:RelV y u):
  KT H (putK kvs k y) (storedH xs k b u):=by
 have e:(kvs.any fun kv=>decide (kv.1=k))=(atKey xs k).isSome:=by
  rw[aDr,(r.val k).isSome_eq,Option.isSome_map]
 unfold putK storedH;rw[e]
 by_cases q:(atKey xs k).isSome=true
 ·rw[if_pos q,if_pos q];exact r.repl k ry
 ·rw[if_neg q,if_neg q];exact Paired.snoc r ⟨rfl,hb,ry⟩
theorem KT.keeps{H H':Hp}(r:KT H kvs xs)(ht:∀b ys,H b=some (.tup ys)->H' b=some (.tup ys)):KT H' kvs xs :=
 Paired.mapP r fun _ _ z=>⟨z.1,ht _ _ z.2.1,z.2.2⟩
section
variable {P:lu}{w:my}{H:Hp}{h:nc}{a:Addr}
theorem aPb(ok:HOk P w H h)(e:Rd H a u):vE P w H h a u:=e.ok ok
theorem tE(ok:HOk P w H h)(e:Rd H a (.dK kvs)):kvs.length<=τ/\(a == jw)=false/\∃vs,KV kvs vs/\h.DictOf (qN P w) a vs :=
 show vE P w H h a (.dK kvs) from aPb ok e
theorem mL(ok:HOk P w H h)(e:H a=some (.dK kvs)):kvs.length<=τ/\(a == jw)=false/\∃vs,KV kvs vs/\h.DictOf (qN P w) a vs:=tE ok (.inl e)
theorem oR{ks:List Key}(ok:HOk P w H h)(e:H a=some (.tup (ks.map kV))):(tupleKind (qN P w)).is h ks a:=by
 obtain⟨_,its,r,o,h1,h2,n,h3⟩:=(show vE P w H h a (.tup (ks.map kV)) from ok a _ e);exact⟨o,its.toArray,n,h1,h2,h3,by simpa using tK r⟩
theorem sU(ok:HOk P w H h)(e:Rd H a (.dT kvs)):kvs.length<=τ/\(a == jw)=false ∧
  ∃xs,KT H kvs xs/\h.DictOfH (tupleKind (qN P w)) a xs:=by
 obtain⟨z,y,xs,r,o,es,ep,h1,h2,h3,h4,h5⟩:=(show vE P w H h a (.dT kvs) from aPb ok e);refine⟨z,y,xs,r,o,es,ep,h1,h2,h3,h4,fun x hx=>?_,h5⟩;have all:∀{l:List (List Key×V)}{m:List (List Key×Addr×Value)},KT H l m->∀x∈m,(tupleKind (qN P w)).is h x.1 x.2.1:=by
  intro l m q
  induction q with
  |nil=>intro x hx;exact nomatch hx
  | @cons p q ps qs hq t ih =>
   intro x hx;rcases Ξ.mp hx with e|hx
   ·subst e;exact oR ok (by rw[←hq.1];exact hq.2.1)
   ·exact ih x hx
 exact all r x hx
theorem dt_of(ok:HOk P w H h)(e:H a=some (.dT kvs)):kvs.length<=τ/\(a == jw)=false ∧
  ∃xs,KT H kvs xs/\h.DictOfH (tupleKind (qN P w)) a xs:=sU ok (.inl e)
end
def zD (H:Hp) (a:Addr) (y:V) (r:Option V):Prop :=
 (∃kvs k,Rd H a (.dK kvs)/\y=kV k/\r=aO kvs k)\/∃kvs k b,Rd H a (.dT kvs)/\y=.ref b/\H b=some (.tup (k.map kV))/\r=aO kvs k
def wX (H:Hp) (a:Addr) (y v:V) (H':Hp):Prop :=
 (∃kvs k,H a=some (.dK kvs)/\y=kV k/\kvs.length<τ/\H'=upd H a (.dK (putK kvs k v))) ∨
 ∃kvs k b,H a=some (.dT kvs)/\y=.ref b/\H b=some (.tup (k.map kV))/\kvs.length<τ/\H'=upd H a (.dT (putK kvs k v))
theorem zD.k{H:Hp}{a:Addr}{kvs:List (Key×V)}{k:Key}(e:H a=some (.dK kvs)):zD H a (kV k) (aO kvs k):=.inl ⟨kvs,k,.inl e,rfl,rfl⟩
theorem zD.t{H:Hp}{k:List Key}(e:H a=some (.dT kvs))(eb:H b=some (.tup (k.map kV))):zD H a (.ref b) (aO kvs k):=.inr ⟨kvs,k,b,.inl e,rfl,eb,rfl⟩
theorem wX.k{H:Hp}{a:Addr}{kvs:List (Key×V)}{k:Key}{v:V}(e:H a=some (.dK kvs))(hl:kvs.length<τ):wX H a (kV k) v (upd H a (.dK (putK kvs k v))):=.inl ⟨kvs,k,e,rfl,hl,rfl⟩
theorem wX.t{H:Hp}{k:List Key}(e:H a=some (.dT kvs))(eb:H b=some (.tup (k.map kV)))(hl:kvs.length<τ):
  wX H a (.ref b) v (upd H a (.dT (putK kvs k v))):=.inr ⟨kvs,k,b,e,rfl,eb,hl,rfl⟩
section
variable {X:Cx}{pins:List (Addr×Obj)}{σ:St}{H:Hp}{s:χ}{a:Addr}{y v:V}{u r:Value}{o:Option V}{A:mj}{E:Value->χ->Prop}
theorem Inv.big(I:Inv X pins σ H s):jw<s.heap.objs.size:=by
 have h:ie<s.heap.objs.size:=(I.mod.glob.keeps I.bk).lt;exact vh (by decide) h
theorem aIc{Q:Value->χ->Prop}(hu:A.units+1<qi)(I:Inv X pins σ H s)(g:zD H a y (some v))(ry:RelV y u)(h:∀w' s',Inv X pins σ H s'->RelV v w'->Q w' s'):
  iz (jj X.prog X.w) A (getItem (.ref a) u) Q E s:=by
 rcases g with⟨kvs,k,e,ey,l⟩|⟨kvs,k,b,e,ey,eb,l⟩
 ·subst ey;obtain⟨z,hd,vs,rel,dd⟩:=tE I.hok e;obtain⟨w',hw,rw'⟩:=cS.some_of (v:=v) (o:=uu vs k) (by rw[l];exact rel.val k);exact wpAny_getItem_of (sP ry) dd.mapOf hw (h w' _ (I.tok _) rw')
 ·subst ey;cases (show u=km b from ry);obtain⟨z,hd,xs,rel,dd⟩:=sU I.hok e;obtain⟨w',hw,rw'⟩:=cS.some_of (v:=v) (o:=(atKey xs k).map (·.2)) (by rw[l];exact rel.val k);obtain⟨p,hp,hp2⟩:=lr.mp hw;refine wpAny_getItem_heap (uy hu) (oR I.hok eb) dd hp ?_;rw[hp2];exact h w' _ (I.tok _) rw'
theorem d_in{Q:Value->χ->Prop}(hu:A.units+1<qi)(I:Inv X pins σ H s)(g:zD H a y o)(ry:RelV y u)(h:∀s',Inv X pins σ H s'->Q (.bool o.isSome) s'):
  iz (jj X.prog X.w) A (lh .In u (.ref a)) Q E s:=by
 rcases g with⟨kvs,k,e,ey,l⟩|⟨kvs,k,b,e,ey,eb,l⟩
 ·subst ey;obtain⟨z,hd,vs,rel,dd⟩:=tE I.hok e;refine wpAny_in_of (sP ry) hd dd.mapOf ?_;rw[←(rel.val k).isSome_eq,←l];exact h _ (I.tok _)
 ·subst ey;cases (show u=km b from ry);obtain⟨z,hd,xs,rel,dd⟩:=sU I.hok e;refine wpAny_in_heap (uy hu) (oR I.hok eb) hd dd ?_;have q:=(rel.val k).isSome_eq;rw[Option.isSome_map]at q;rw[←q,←l];exact h _ (I.tok _)
theorem aNd{Q:Value->χ->Prop}(hu:A.units+1<qi)(I:Inv X pins σ H s)(g:zD H a y o)(ry:RelV y u)(h:∀s',Inv X pins σ H s'->Q (.bool (!o.isSome)) s'):
  iz (jj X.prog X.w) A (lh .NotIn u (.ref a)) Q E s:=by
 rcases g with⟨kvs,k,e,ey,l⟩|⟨kvs,k,b,e,ey,eb,l⟩
 ·subst ey;obtain⟨z,hd,vs,rel,dd⟩:=tE I.hok e;refine wpAny_notIn_of (sP ry) hd dd.mapOf ?_;rw[←(rel.val k).isSome_eq,←l];exact h _ (I.tok _)
 ·subst ey;cases (show u=km b from ry);obtain⟨z,hd,xs,rel,dd⟩:=sU I.hok e;refine wpAny_notIn_heap (uy hu) (oR I.hok eb) hd dd ?_;have q:=(rel.val k).isSome_eq;rw[Option.isSome_map]at q;rw[←q,←l];exact h _ (I.tok _)
theorem uO{t':Nat}(I:Inv X pins σ H s)(mu:Mut (H a))(hs:sf a s.heap h')(he:∃q,h'.get? a=some q)(new:vE X.prog X.w (upd H a ob) h' a ob):
  Inv X pins σ (upd H a ob) { s with heap:=h',toks:=t' } :=
 I.write (x:=a) (e:=a) mu (.inl rfl) (fun b q hb z=>(hs.2 b hb).trans z) he new
theorem aAd{h':nc}{kvs:List (Key×V)}(z:kvs.length<=τ)(hd:(a == jw)=false)(rel:KV kvs vs)(dd:h'.DictOf (qN P w) a vs):
  vE P w H' h' a (.dK kvs):=⟨z,hd,vs,rel,dd⟩
theorem aHv{Q:Unit->χ->Prop}(hu:A.units+1<qi)(I:Inv X pins σ H s)(g:wX H a y v H')(ry:RelV y u)(rv:RelV v r)(h:∀s',Inv X pins σ H' s'->Q () s'):
  iz (jj X.prog X.w) A (setItem (.ref a) u r) Q E s:=by
 rcases g with⟨kvs,k,e,ey,l,eH⟩|⟨kvs,k,b,e,ey,eb,l,eH⟩
 ·subst ey eH;obtain⟨z,hd,vs,rel,dd⟩:=mL I.hok e;have hz:vs.length<=τ:=by rw[←rel.length];exact z
  have hl:(putK kvs k v).length<=τ:=by have:=dC kvs k v;omega
  refine wpAny_setItem_pairs (hsz:=hz) (sP ry) dd fun h' dd' hs=>h _ ?_;have he:∃q,h'.get? a=some q:=let ⟨q,_,_,hq,_⟩:=dd'; ⟨q,hq⟩;exact uO I (by rw[e];exact ju) hs he (aAd hl hd (rel.put k rv) dd')
 ·subst ey eH;cases (show u=km b from ry);obtain⟨z,hd,xs,rel,dd⟩:=dt_of I.hok e;have hz:xs.length<=τ:=by rw[←om rel];exact z
  have hl:(putK kvs k v).length<=τ:=by have:=dC kvs k v;omega
  refine wpAny_setItem_heap (hsz:=hz) (uy hu) (oR I.hok eb) dd fun h' dd' hs=>h _ ?_;obtain⟨q,es,ep,hq,h2,h3,h4,_,h5⟩:=dd';refine uO I (by rw[e];exact ju) hs ⟨q,hq⟩ ⟨hl,hd,_,(rel.put k eb rv).keeps fun c ys ec=>?_,q,es,ep,hq,h2,h3,h4,h5⟩;rw[kF (hV ec e (fun z=>nomatch z))];exact ec
end
def NoSl (i:Expr):Prop:=∀ov iv,subscripted i false ov iv=operate [ov,iv] (getItem ov iv)
theorem aNr{prog:lu}{w:my}{A:mj}{E:Value->χ->Prop}{s:χ}{env:Env}{value slice:Expr}{pos:Pos}{T id:String}{Q:Value->χ->Prop}
  (hl:typeLookup (.type T) "__getitem__" = pure (some (.builtin id)))(hs:NoSl slice)
  (h:iz (jj prog w) A (eval value env) (fun o s₁=>iz (jj prog w) A (eval slice env) (fun i s₂=>s₂.TypeIs o T/\iz (jj prog w) A (getItem o i) Q E s₂) E s₁) E s):
  iz (jj prog w) A (eval (.Subscript value slice pos) env) Q E s:=by
 refine Subscript_ (mh h (fun o s₁ h₁=>mh h₁ (fun i s₂ h₂=>?_) fun _ _ x=>x) fun _ _ x=>x);obtain⟨hT,h₂⟩:=h₂;unfold subscriptTail;refine ψ ?_;rw[getitemInPython_of_ne hT.not_modules];refine ψ (wpAny_specialOf hT hl ?_);have fin:iz (jj prog w) A (subscripted slice false o i) (fun r s₃=>iz (jj prog w) A (letTemporaryGo value o r >>= fun _=>pure r) Q E s₃) E s₂:=by
  rw[hs o i];exact wpAny_operating (mh h₂ (fun r s₃ h₃=>ψ (wpAny_letTemporaryGo (io h₃))) fun _ _ x=>x)
 first
  |exact io (ψ fin)
  |exact ψ (io (ψ fin))
  |exact ψ fin
theorem aCy(I:Inv X pins σ H s)(g:zD H a y o):s.TypeIs (.ref a) "dict":=by
 rcases g with⟨kvs,k,e,_,_⟩|⟨kvs,k,b,e,_,_,_⟩
 ·obtain⟨_,_,vs,_,dd⟩:=tE I.hok e;exact dd.typeIs
 ·obtain⟨_,_,xs,_,dd⟩:=sU I.hok e;exact dd.typeIs
def aPe (td ty:TE):TE:=fun σ H Q=>td σ H fun x H1=>ty σ H1 fun y H2=>∃a v,x=.ref a/\zD H2 a y (some v)/\Q v H2
def tDIn (ty td:TE):TE:=fun σ H Q=>ty σ H fun y H1=>td σ H1 fun x H2=>∃a o,x=.ref a/\zD H2 a y o/\Q (.bl o.isSome) H2
def aOu (ty td:TE):TE:=fun σ H Q=>ty σ H fun y H1=>td σ H1 fun x H2=>∃a o,x=.ref a/\zD H2 a y o/\Q (.bl (!o.isSome)) H2
def sDPut (td ty tv:TE):TS:=fun D σ H=>tv σ H fun v H1=>td σ H1 fun x H2=>ty σ H2 fun y H3=>∃a H4,x=.ref a/\wX H3 a y v H4/\D.nx σ H4
section
variable {X:Cx}{o i e value:Expr}{pos pos' tpos:Pos}{td ty tv:TE}
theorem yL(hu:X.A.units+1<qi)(ho:PE X o td)(hi:PE X i ty)(hs:NoSl i):PE X (.Subscript o i pos) (aPe td ty):=by
 intro pins s σ H Q I h;refine aNr PySem.F.slot_dict_getitem.lookup hs (thn (ho pins s σ H _ I h) fun u s1 zq=>zq.el fun x H1 I1 rx q1=>thn (hi pins s1 σ H1 _ I1 q1) fun iv s2 zq=>?_);obtain⟨y,H2,I2,ry,a,v,ex,g,q2⟩:=zq;subst ex;obtain rfl:u=km a:=rx;exact⟨aCy I2 g,aIc hu I2 g ry fun w' s3 I3 rw'=>⟨v,H2,I3,rw',q2⟩⟩
theorem aRz(hu:X.A.units+1<qi)(hi:PE X i ty)(ho:PE X o td):PC X .In i o (tDIn ty td):=by
 intro pins s σ H Q I h;refine thn (hi pins s σ H _ I h) fun iv s1 zq=>zq.el fun y H1 I1 ry q1=>thn (ho pins s1 σ H1 _ I1 q1) fun u s2 zq=>?_;obtain⟨x,H2,I2,rx,a,ov,ex,g,q2⟩:=zq;subst ex;obtain rfl:u=km a:=rx;exact d_in hu I2 g ry fun s3 I3=>⟨.bl ov.isSome,H2,I3,rfl,q2⟩
theorem aIf(hu:X.A.units+1<qi)(hi:PE X i ty)(ho:PE X o td):PC X .NotIn i o (aOu ty td):=by
 intro pins s σ H Q I h;refine thn (hi pins s σ H _ I h) fun iv s1 zq=>zq.el fun y H1 I1 ry q1=>thn (ho pins s1 σ H1 _ I1 q1) fun u s2 zq=>?_;obtain⟨x,H2,I2,rx,a,ov,ex,g,q2⟩:=zq;subst ex;obtain rfl:u=km a:=rx;exact aNd hu I2 g ry fun s3 I3=>⟨.bl (!ov.isSome),H2,I3,rfl,q2⟩
theorem eN(hu:X.A.units+1<qi)(ho:PE X o td)(hi:PE X i ty)(hv:PE X value tv)(hs:swapsWith value (some (.Subscript o i pos')) pos.line X.env=pure false):
  PS X (.Assign [.Subscript o i pos'] value pos) (sDPut td ty tv):=by
 intro pins s σ H D I h;refine wpAny_Assign_Subscript (thn (hv pins s σ H _ I h) fun r s1 zq=>zq.el fun v H1 I1 rv q1=>thn (ho pins s1 σ H1 _ I1 q1) fun u s2 zq=>zq.el fun x H2 I2 rx q2=>thn (hi pins s2 σ H2 _ I2 q2) fun iv s3 zq=>?_) hs;obtain⟨y,H3,I3,ry,a,H4,ex,g,q3⟩:=zq;subst ex;obtain rfl:u=km a:=rx;exact aHv hu I3 g ry rv fun s4 I4=>⟨σ,H4,I4,q3⟩
end
theorem aCd(h:nc)(hb:jw<h.objs.size):vE P w H (h.push { cls:=.type "dict",data:=.dict #[] }) h.objs.size (.dK []) :=
 ⟨ij _,beq_eq_false_iff_ne.mpr (lm (ji hb)),[],.nil,nc.DictOf.new h⟩
def aQr:TE:=fun _ H Q=>∀p,H p=none->Q (.ref p) (upd H p (.dK []))
section
variable {X:Cx}{pos:Pos}
theorem pO:PE X (.Dict [] [] pos) aQr:=fun pins s σ H Q I h =>
 wpAny_Dict_empty ⟨.ref s.heap.objs.size,_,I.laid (a:=s.heap.objs.size) (o:=.dK []) (t':=s.toks) (fun _ _ q=>Θ _ q) (ξ _) (aCd s.heap I.big),rfl,h _ (I.hok.fresh (ξ _))⟩
end
def IsD (H:Hp) (a:Addr):Prop:=(∃kvs,Rd H a (.dK kvs))\/∃kvs,Rd H a (.dT kvs)
theorem aRr(I:Inv X pins σ H s)(d:IsD H a):
  s.TypeIs (.ref a) "dict"/\(∀b,km a=.ref b->∃ob,s.heap.get? b=some ob/\ob.dict=none)/\(a == jw)=false:=by
 rcases d with⟨kvs,e⟩|⟨kvs,e⟩
 ·obtain⟨_,hd,vs,_,dd⟩:=tE I.hok e;refine⟨dd.typeIs,fun b q=>?_,hd⟩;cases q;obtain⟨ob,_,_,h1,h2,_⟩:=dd;exact⟨ob,h1,h2.2.1⟩
 ·obtain⟨_,hd,xs,_,dd⟩:=sU I.hok e;refine⟨dd.typeIs,fun b q=>?_,hd⟩;cases q;obtain⟨ob,_,_,h1,h2,_⟩:=dd;exact⟨ob,h1,h2.2.1⟩
section
variable {X:Cx}
theorem sN:vR X (.builtin "isinstance") (fun xs H Q=>∃p T kvs,xs=[.ref p,.ty T]/\T∈aDt/\H p=some (.dK kvs)/\Q (.bl (isa "dict" T)) H):=by
 intro pins s σ H xs us Q I r h;obtain⟨p,T,kvs,rfl,hT,ht,q⟩:=h;obtain⟨u,w',rfl,rx,rT⟩:=vals2 r;cases rT;cases rx;have hT':T = "int" ∨ T = "bool" ∨ T = "str" ∨ T = "list" ∨ T = "tuple" ∨ T = "dict":=by simpa [aDt] using hT
 have fin:∀{k:Bool}{s':χ},isa "dict" T=k->Inv X pins σ H s'->EP X pins σ Q (.bool k) s':=fun {k s'} e I'=>by subst e;exact⟨.bl _,H,I',rfl,q⟩
 obtain⟨_,_,vs,_,o,es,ep,e,hx,_⟩:=I.hok p _ ht;have hc:o.cls=.type "dict":=hx.1;rcases hT' with rfl|rfl|rfl|rfl|rfl|rfl
 ·exact IsiPair.dict_int e hc (fin (by decide) (I.tok _))
 ·exact IsiPair.dict_bool e hc (fin (by decide) (I.tok _))
 ·exact IsiPair.dict_str e hc (fin (by decide) (I.tok _))
 ·exact IsiPair.dict_list e hc (fin (by decide) (I.tok _))
 ·exact IsiPair.dict_tuple e hc (fin (by decide) (I.tok _))
 ·exact IsiPair.dict_dict e hc (fin (by decide) I)
def Itx (x:Str):It:=⟨fun i _=>i<x.cps.size,fun i H v H'=>H'=H/\∃c,x.cps[i]?=some c/\v=.str ⟨#[c]⟩,fun i _=>x.cps.size<=i⟩
theorem aJp{K:ς}(it:Addr)(x:Str)(t:Tok)(ty:String)
  (hty : ["enumerate","zip","dict_itemiterator","dict_reverseitemiterator","odict_iterator","itertools.zip_longest","itertools.pairwise"].contains ty=false)
  (W:∀A:mj,A.handled=none->Walks P w A it [it] [it] x.cps.size (SignAt x) (fun i h=>h.IsStrIter it ty x t i))
  (hself:∀(A:mj) (i:Nat) (s:χ) (Q:Value->χ->Prop) (E:Value->χ->Prop),s.heap.IsStrIter it ty x t i->Q (.ref it) s->iz (jj P w) A (pyIter (.ref it)) Q E s):Turn P w K tg (Itx x) [it] it (fun i h=>h.IsStrIter it ty x t i/\i<=x.cps.size) where
 mem:=by simp
 obj:=fun i h st b hb=>by
  have e:b=it:=by simpa using hb
  subst e;obtain⟨⟨o,e,c,d⟩,_⟩:=st;exact⟨o,e,fun v z=>by rw[d]at z;cases z⟩
 keep:=fun i h h' st k=>⟨let ⟨o,ho,r⟩:=st.1; ⟨o,k it (by simp) o ho,r⟩,st.2⟩
 item:=by
  intro X hP hw hK hc i pins s σ H E I hf st hg;subst hP hw hK;obtain⟨f0,f1,f2,f3,f4,f5⟩:=hf it (by simp);refine(W X.A (I.ok.hd hc)).item i s _ _ hg st.1 fun v h' tk hv st' kk=>?_;obtain⟨c,u,hcc,rfl⟩:=hv;have I1:Inv X pins σ H { s with heap:=h',toks:=tk }:=I.turned (fun b o hb e=>kk b o (by simpa using hb) e) f0 f1 f3 f4 f5;obtain⟨o,e,cc,d⟩:=id st';exact⟨_,rfl,aGg (s:={ s with heap:=h',toks:=tk }) e cc d hty ⟨.str ⟨#[c]⟩,H,I1,⟨u,rfl⟩,⟨rfl,c,hcc,rfl⟩,⟨st',hg⟩,fun b hb=>(hf b hb).1⟩⟩
 done:=by
  intro X hP hw hK hc i pins s σ H E I hf st hg;subst hP hw hK;obtain⟨f0,f1,f2,f3,f4,f5⟩:=hf it (by simp);have hi:i=x.cps.size:=Nat.le_antisymm st.2 hg;subst hi;exact(W X.A (I.ok.hd hc)).done s _ _ st.1 fun h' tk eb=>⟨rfl,I.turned (fun b o hb e=>eb b o (by simpa using hb) e) f0 f1 f3 f4 f5⟩
 self:=fun A i s Q E st h=>hself A i s Q E st.1 h
def iStr (tl:TE):TI:=fun σ H R=>tl σ H fun v H1=>∃x,v=.str x/\R (Itx x) H1
theorem aQu(hl:PE X l tl):PI X tg l (iStr tl):=by
 intro pins s σ H R I h;refine thn (hl pins s σ H _ I h) fun v s1 zq=>?_;obtain⟨y,H1,I1,r1,q1⟩:=zq;obtain⟨x,e,q⟩:=q1;subst e;obtain⟨t,rfl⟩:=r1;have fin:∀(ty:String) (o:Obj),["enumerate","zip","dict_itemiterator","dict_reverseitemiterator","odict_iterator","itertools.zip_longest","itertools.pairwise"].contains ty=false →
   (∀A:mj,A.handled=none->Walks X.prog X.w A s1.heap.objs.size [s1.heap.objs.size] [s1.heap.objs.size] x.cps.size (SignAt x) (fun i h=>h.IsStrIter s1.heap.objs.size ty x t i)) →
   (∀(A:mj) (i:Nat) (s:χ) (Q:Value->χ->Prop) (E:Value->χ->Prop),s.heap.IsStrIter s1.heap.objs.size ty x t i->Q (.ref s1.heap.objs.size) s->iz (jj X.prog X.w) A (pyIter (.ref s1.heap.objs.size)) Q E s) →
   (s1.heap.push o).IsStrIter s1.heap.objs.size ty x t 0->PIE X pins σ tg R (.ref s1.heap.objs.size) { s1 with heap:=s1.heap.push o }:=fun ty o hty W hs st=>by
  refine⟨s1.heap.objs.size,[s1.heap.objs.size],_,_,H1,rfl,I1.kept (t':=s1.toks) fun b o e=>Θ _ e,aJp _ x t ty hty W hs,⟨st,ij _⟩,fun b hb=>?_,q⟩;have e:b=s1.heap.objs.size:=by simpa using hb
  subst e;exact I1.fpOk (ξ _) (I1.hok.fresh (ξ _))
 cases ha:x.cps.all (·<128)
 ·exact wpAny_pyIter_wide ha (fin "str_iterator" _ (by decide) (fun A hA=>Walks.strWide hA _ x t) (fun A i s Q E st h=>wpAny_pyIter_striter_wide st h) ⟨_,jb _ rfl,rfl,rfl⟩)
 ·exact wpAny_pyIter_ascii ha (fin "str_ascii_iterator" _ (by decide) (fun A hA=>Walks.strAscii hA _ x t) (fun A i s Q E st h=>wpAny_pyIter_striter_ascii st h) ⟨_,jb _ rfl,rfl,rfl⟩)
theorem aMm{x:Str}{k:Nat}{tc:TT}{te:TE}{Q:VK}(P:Nat->List V->Hp->Prop)(h0:P 0 [] H1)(hl:∀i ys H,i<=x.length->P i ys H->ys.length<=i)(hz:x.length<τ)
  (hs:∀i c ys H,x.cps.toList[i]?=some c->P i ys H->tc (some (.str ⟨#[c]⟩)::vK js σ) H fun b H2=>if b=true then te (some (.str ⟨#[c]⟩)::vK js σ) H2 fun v H3=>fC P i js σ (some (.str ⟨#[c]⟩)::vK js σ) (ys++[v]) H3 else fC P i js σ (some (.str ⟨#[c]⟩)::vK js σ) ys H2)
  (hd:∀ys H,P x.length ys H->∀p,H p=none->Q (.ref p) (upd H p (.lst ys)))(hk:k=1:=by rfl):
  iK (Itx x) k js (yC 0) tc te σ Q H1:=by
 subst hk;refine eV P (fun σ'=>∃o,σ'=o::vK js σ) ⟨none,rfl⟩ h0 hz hl (fun i ys H h p=>h) (fun ys H p=>⟨ξ _,fun l n _=>hd ys H p l n⟩) fun i ys σ' H h p r x H' y=>?_;obtain⟨o,rfl⟩:=r;obtain⟨rfl,c,hc,rfl⟩:=y;exact hs i c ys _ (by simpa using hc) p
theorem aQc(x:Str)(c:Nat):(!(og x ⟨#[c]⟩ 0 x.length 1).isEmpty)=decide (c∈x.cps.toList):=by
 rw[PyProof.Rows.empty_one,Bool.not_not]
theorem aFw{ys:List Str}: ∀{us:List Value},kJ (ys.map V.str) us->StrsAre us ys:=by
 induction ys with
 |nil=>intro us r;cases r;exact .nil
 |cons y ys ih =>
  intro us r;cases r with
  |cons a b=>obtain⟨t,rfl⟩:=a;exact .cons _ _ (ih b)
theorem sR:∀(tk:Nat) (ps:List Str),kJ (ps.map V.str) (strsFrom tk ps)
 |_,[]=>.nil
 |tk,p::ps=>.cons ⟨_,rfl⟩ (sR (tk+1) ps)
theorem bJ:vR X (.type "int") (fun xs H Q=>∃(x:Str) (n:Int),xs=[.str x]/\PySem.intText? x=some n/\x.length<=640/\Q (.int n) H):=by
 intro pins s σ H xs us Q I r h;obtain⟨x,n,rfl,h1,h2,q⟩:=h;obtain⟨u,rfl,t,rfl⟩:=vals1 r;exact PySem.W.KIN.call_text h1 h2 ⟨.int n,H,I.tok _,⟨_,rfl⟩,q⟩
end
end L2
namespace L2
open PySem
theorem qE{c k p}{es:List Expr}: jk (.Constant c k p::es) env=(false,eval (.Constant c k p) env)::jk es env:=rfl
end L2
namespace L2
open PySem PySem.Spec PyProof.Rows
structure PEx (X:Cx) (e:Expr) (t:TE):Prop where
 h:PE X e t
structure PAx (X:Cx) (es:List Expr) (t:TA):Prop where
 h:PA X es t
structure aFj (X:Cx) (st:Stmt) (t:TS):Prop where
 h:PS X st t
structure PSx (X:Cx) (sts:List Stmt) (t:TS):Prop where
 h:PSs X sts t
section
variable {X:Cx}{e:Expr}{es:List Expr}{te:TE}{t:TA}{st:Stmt}{rest:List Stmt}{ts us:TS}
theorem wZ:PAx X [] aMl:=⟨jB⟩
theorem kZ(ha:PEx X e te)(hr:PAx X es t)(hs:jk (e::es) X.env=(false,eval e X.env)::jk es X.env):PAx X (e::es) (aPu te t):=⟨jA ha.h hr.h hs⟩
theorem qL(h:PE X e te):PEx X e te:=⟨h⟩
theorem aKp(hes:PAx X es t)(hi:PEx X ix ti)(hs:wD ix):PEx X (.Subscript (.List es p1) ix p2) (tOp (aMt X.K) (tLst t) ti):=⟨aPx jX (qT hes.h) hi.h hs⟩
theorem eQ(h:PS X st ts):aFj X st ts:=⟨h⟩
theorem xF(h1:aFj X st ts)(h2:PSx X rest us):PSx X (st::rest) (vH ts us):=⟨jE h1.h h2.h⟩
theorem iU(h1:aFj X st ts):PSx X [st] ts:=⟨jC h1.h⟩
end
def CDivL (i j:Int):Prop:=0<j/\j<2 ^ 128
theorem log2_small{n:Nat}(h:n<2 ^ 128):n.log2<9000:=by
 by_cases h0:n=0
 ·subst h0;decide
 ·have:=(Nat.log2_lt h0).mpr h;omega
section
variable {X:Cx}
theorem aKb:OpR X (qb .FloorDiv) (rI CDivL fun i j=>.int (i / j)):=opI fun i j _ _ _ _ _ hc q=>by
 have hj : 0<=j:=Int.le_of_lt hc.1;have e:i.fdiv j=i / j:=Int.fdiv_eq_ediv_of_nonneg _ hj;refine floordiv_int (Int.ne_of_gt hc.1) (by rw[e];exact q) (.inl (PyProof.noPylong_of_log2 (log2_small ?_)));obtain⟨n,rfl⟩:=Int.eq_ofNat_of_zero_le hj;have h2:=hc.2;simp only[Int.natAbs_natCast]
 exact_mod_cast h2
mutual
inductive Dat (K:ς) (H:Hp):V->θ->Prop
 |non:Dat K H .non .none
 |bl (b:Bool):Dat K H (.bl b) (.bool b)
 |int (i:Int):Dat K H (.int i) (.int i)
 |str (x:Str):Dat K H (.str x) (.str x)
 |lst {a:Addr}{xs:List V}{ds:List θ} : SqL K H a xs->DatAll K H xs ds->Dat K H (.ref a) (.list ds)
 |tup {a:Addr}{xs:List V}{ds:List θ} : SqT K H a xs->DatAll K H xs ds->Dat K H (.ref a) (.tuple ds)
inductive DatAll (K:ς) (H:Hp):List V->List θ->Prop
 |nil:DatAll K H [] []
 |cons {x:V}{xs:List V}{d:θ}{ds:List θ} : Dat K H x d->DatAll K H xs ds->DatAll K H (x::xs) (d::ds)
end
mutual
theorem Inv.reads(I:Inv X pins σ H s):∀{x:V}{d:θ}{u:Value},Dat X.K H x d->RelV x u->∃as,Reads s.heap u d as
 |_,_,_,.non,r=>by cases r;exact⟨_,.none⟩
 |_,_,_,.bl b,r=>by cases r;exact⟨_,.bool b⟩
 |_,_,_,.int i,r=>by obtain⟨t,rfl⟩:=r;exact⟨_,.int i t⟩
 |_,_,_,.str x,r=>by obtain⟨t,rfl⟩:=r;exact⟨_,.str x t⟩
 |_,_,_,.lst h ds,r=>by
  cases r;obtain⟨its,rv,⟨o,n,e,hc,_,hd⟩,_⟩:=I.list h;obtain⟨as,ra⟩:=Inv.readsAll I ds rv;exact⟨_,.list e hc hd ra⟩
 |_,_,_,.tup h ds,r=>by
  cases r;obtain⟨its,rv,⟨o,e,hc,n,hd⟩,_⟩:=I.tuple h;obtain⟨as,ra⟩:=Inv.readsAll I ds rv;exact⟨_,.tuple e hc hd ra⟩
theorem Inv.readsAll(I:Inv X pins σ H s):∀{xs:List V}{ds:List θ}{us:List Value},DatAll X.K H xs ds->kJ xs us->∃as,ReadsAll s.heap us ds as
 |_,_,_,.nil,r=>by cases r;exact⟨_,.nil⟩
 |_,_,_,.cons h t,r=>by
  cases r with
  |cons r1 r2 =>
   obtain⟨a1,e1⟩:=Inv.reads I h r1;obtain⟨a2,e2⟩:=Inv.readsAll I t r2;exact⟨_,.cons e1 e2⟩
end
def rEqD (K:ς) (neg:Bool):R2:=fun x y H Q=>∃d d':θ,Dat K H x d/\Dat K H y d'/\SeqAt.shaped d=true/\SeqAt.shaped d'=true/\Q (.bl (xor neg (θ.eqv d d'))) H
theorem aQd(hu:X.A.units+64<qi):OpR X (lh .NotEq) (rEqD X.K true):=by
 intro pins s σ H x y v u Q I rx ry h;obtain⟨d,d',hx,hy,s1,s2,q⟩:=h;obtain⟨as,ra⟩:=I.reads hx rx;obtain⟨bs,rb⟩:=I.reads hy ry;exact ne_dataH ra rb s1 s2 hu ⟨.bl _,H,I,rfl,by simpa using q⟩
end
mutual
theorem Dat.same{K:ς}(g:jJ H H'):∀{x:V}{d:θ},Dat K H x d->Dat K H' x d
 |_,_,.non=>.non
 |_,_,.bl b=>.bl b
 |_,_,.int i=>.int i
 |_,_,.str x=>.str x
 |_,_,.lst h t=>.lst (g.seq h) (DatAll.same g t)
 |_,_,.tup h t=>.tup (by
   rcases h with (h|⟨o,h⟩)|h
   ·exact .inl (.inl (g _ _ h))
   ·exact .inl (.inr ⟨o,g _ _ h⟩)
   ·exact .inr h) (DatAll.same g t)
theorem DatAll.same{K:ς}(g:jJ H H'):∀{xs:List V}{ds:List θ},DatAll K H xs ds->DatAll K H' xs ds
 |_,_,.nil=>.nil
 |_,_,.cons h t=>.cons (Dat.same g h) (DatAll.same g t)
end
section
variable {X:Cx}
theorem aAj(hc:X.calm=true):vR X (.builtin "sum") (fun xs H Q=>∃(a:Addr) (ns:List Int),xs=[.ref a]/\SqL X.K H a (ns.map V.int)/\Q (.int ns.sum) H):=by
 intro pins s σ H xs us Q I r h;obtain⟨a,ns,rfl,ha,q⟩:=h;obtain⟨u,rfl,rx⟩:=vals1 r;cases rx;obtain⟨its,rv,pl,_⟩:=I.list ha;have hi:=intsAre_of rv;obtain⟨ys,hy⟩:=hi.allInts.items;refine sum_intListG (I.ok.hd hc) (hy ▸ pl.isList) fun h' tk t' hk=>?_;have e1:ns=ys.toList.map (·.1):=by
  rw[←nums_intItems,←hy];exact(show numsOf its.toArray.toList=ns from hi.numsOf).symm
 rw[preSum_eq,mz (by simp),←e1];exact⟨.int ns.sum,H,I.kept hk,⟨_,rfl⟩,q⟩
end
section
variable {X:Cx}
theorem zW{K:ς}{n:Nat}(hK:X.K=K)(hc:X.calm=true)(h:PGs X es t)
  (hn:(uw es X.env).length=n:=by rfl)(hst:(uw es X.env).findIdx? (·.1)=none:=by rfl):PG X (.Tuple es k pos) (gTup K n t):=hK ▸ xL hc h hn hst
end
def aGd (P:Nat->List V->Hp->Prop) (i k:Nat) (js:List Nat) (σ:St):St->List V->Hp->Prop:=fun σ' ys H=>P (i+1) ys H/\∃os:St,os.length=k/\σ'=os++vK js σ
theorem fG{K:ς}{xs:List V}{k:Nat}{g:TG}{tc:TT}{te:TE}{Q:VK}(P:Nat->List V->Hp->Prop)(h0:P 0 [] H1)(hl:∀i ys H,i<=xs.length->P i ys H->SqL K H a xs/\ys.length<=i)(hz:xs.length<τ)
  (hs:∀i x ys H (os:St),os.length=k->xs[i]?=some x->P i ys H->g x (os++vK js σ) H fun σ3 H3=>tc σ3 H3 fun b H2=>if b=true then te σ3 H2 fun v H3=>aGd P i k js σ σ3 (ys++[v]) H3 else aGd P i k js σ σ3 ys H2)
  (hd:∀ys H,P xs.length ys H->∀p,H p=none->Q (.ref p) (upd H p (.lst ys))):
  iK (Itl K a) k js g tc te σ Q H1:=by
 refine eV P (fun σ'=>∃os:St,os.length=k/\σ'=os++vK js σ) ⟨kc k none,nu,rfl⟩ h0 hz (fun i ys H h p=>(hl i ys H h p).2) (fun i ys H h p=>⟨xs,xs[i],(hl i ys H (kq h) p).1,ζ h⟩) (fun ys H p=>⟨⟨xs,(hl _ ys H (ξ _) p).1,ξ _⟩,fun l n _=>hd ys H p l n⟩) fun i ys σ' H h p r x H' y=>?_;obtain⟨os,ho,rfl⟩:=r;have q:=(hl i ys H (kq h) p).1;obtain⟨rfl,y⟩:=y;exact hs i x ys _ os ho (y xs q) p
def But (l:Addr) (H H':Hp):Prop:=∀b o,b≠l->H b=some o->H' b=some o
theorem But.trans(a:But l H H1)(b:But l H1 H2):But l H H2:=fun x o n q=>b x o n (a x o n q)
theorem But.refl : But l H H:=fun _ _ _ q=>q
theorem But.of(g:jJ H H'):But l H H':=fun x o _ q=>g x o q
theorem But.same{H:Hp}(a:But l H H')(h:H l=none):jJ H H':=fun x o q=>a x o (jS q h) q
theorem But.upd : But l H (upd H l o):=fun x u n q=>by rw[kF n];exact q
theorem But.tup{K:ς}{l:Addr}{H H':Hp}{zs:List V}(e:But l H H')(hl:H l=some (.lst zs)){a:Addr}{xs:List V}(h:SqT K H a xs):SqT K H' a xs:=by
 rcases h with (h|⟨o,h⟩)|h
 ·exact .inl (.inl (e _ _ (hV h hl (by intro z;cases z)) h))
 ·exact .inl (.inr ⟨o,e _ _ (hV h hl (by intro z;cases z)) h⟩)
 ·exact .inr h
end L2
namespace L2
open PySem
section
variable {prog:lu}{w:my}{M:Model}{A:mj}{E:Value->χ->Prop}{h:nc}{g:Array GenState}{d:Drawn}{t:Nat}{os:OsState}
 {nm qn:Str}{C N:Addr}{bs bm:List Value}{hdct:Bool}{sn:List Str}{sub:List Value}{ab:Bool}{col:Option Bool}{dd:Option Addr}{k0 k1 k2 k3 k5:Option Value}
abbrev xcls (nm qn:Str) (C N:Addr) (bs bm:List Value) (hdct:Bool) (sn:List Str) (sub:List Value) (ab:Bool) (col:Option Bool) (dd:Option Addr) (k0 k1 k2 k3 k5:Option Value):Obj :=
 excClassObj nm qn C N bs bm hdct sn sub ab col dd k0 k1 k2 k3 k5 "ValueError.__new__"
end
end L2
namespace L2
open PySem PyProof.Rows
abbrev VB:List Value:=[.type "ValueError",.type "Exception",.type "BaseException",.type "object"]
structure ExCl (K:ς) (C R fI:Addr):Prop where
 obj:∃(nm qn:Str) (N:Addr) (bs:List Value) (sn:List Str) (sub:List Value) (ab:Bool) (col:Option Bool) (dd:Option Addr) (k0 k1 k2 k3 k5:Option Value),
  K.lookup C=some (xcls nm qn C N bs (.ref R::VB) true sn sub ab col dd k0 k1 k2 k3 k5)/\PySem.W.nsOkIn K N=true/\nsIn K N "__init__" = some (some (.ref fI))
 fn:isFn K (.ref fI)=true
 kp:keepIn K (.ref C)=true
 sa:ql K (.ref C) "__setattr__" = some (some (.builtin "object.__setattr__"))
 ga:ql K (.ref C) "__getattribute__" = some (some (.builtin "BaseException.__getattribute__"))
 gh:ql K (.ref C) "__getattr__" = some none
theorem aFm{K:ς}{m:Str->Option Value}(X:K.In h)(G:h.Ns N m)(e:nsIn K N n=some (some v)):m n=some v:=by
 obtain⟨o,es,ep,ho,hd,_,hf⟩:=G;unfold nsIn at e;cases q:K.lookup N with
 |none=>rw[q]at e;cases e
 |some o' =>
  have z:=X _ _ q;rw[ho]at z;cases z;rw[q]at e;obtain⟨c,d,dt,sl⟩:=o;cases hd;rw[←hf];unfold nsFind findBy;rw[←Array.find?_toList];dsimp only at e;cases q2:es.toList.find? (fun x=>x.key.isStr n) with
  |some y =>
   rw[q2]at e;exact congrArg (fun z:Option (Option Value)=>z.getD none) e
  |none =>
   rw[q2]at e;dsimp only at e
   split at e <;> cases e
theorem ExCl.cls{K:ς}(c:ExCl K C R fI)(X:K.In h):
  ∃(nm qn:Str) (N:Addr) (bs:List Value) (sn:List Str) (sub:List Value) (ab:Bool) (col:Option Bool) (dd:Option Addr) (k0 k1 k2 k3 k5:Option Value) (mN:Str->Option Value) (oI:Obj),
   h.get? C=some (xcls nm qn C N bs (.ref R::VB) true sn sub ab col dd k0 k1 k2 k3 k5)/\h.Ns N mN/\mN "__init__" = some (.ref fI)/\h.get? fI=some oI/\oI.cls=.type "function":=by
 obtain⟨nm,qn,N,bs,sn,sub,ab,col,dd,k0,k1,k2,k3,k5,lk,nsok,nsi⟩:=c.obj;have hN:=nc.Ns.of_isNs (PySem.W.isNs_of_in X nsok);have hf:=c.fn;unfold isFn PySem.W.typeIn at hf;have hf':=beq_iff_eq.mp hf;obtain⟨oI,q,r⟩:=lr.mp hf';exact⟨nm,qn,N,bs,sn,sub,ab,col,dd,k0,k1,k2,k3,k5,_,oI,X _ _ lk,hN,aFm X hN nsi,X _ _ q,r⟩
end L2
namespace L2
open PySem PySem.Spec PyProof.Rows
theorem Cx.Ok.back{X:Cx}{pn:List (Addr×Obj)}{E:Value->χ->Prop}(ok:Cx.Ok { X with pn:=pn,xe:=E }):X.Ok :=
 ⟨ok.mod,ok.kind,ok.glob,ok.blt,ok.above,ok.inj,ok.has,ok.cab,ok.hd,ok.frames,ok.stk,ok.exf,ok.bs,ok.bsz,ok.noex,ok.exfs,ok.funs,ok.frf⟩
section
variable {X:Cx}{pins:List (Addr×Obj)}{σ:St}{H:Hp}{s:χ}
theorem Inv.back{pn:List (Addr×Obj)}{E:Value->χ->Prop}(I:Inv { X with pn:=pn,xe:=E } pins' σ H s)(h:∀p∈X.pn++pins,p∈pn++pins'):Inv X pins σ H s :=
 ⟨I.ok.back,I.os,I.bare,I.base,I.loc,I.cell,I.free,I.freeC,fun p hp=>I.pin p (h p hp),I.hok,I.len⟩
end
structure XCls (K:ς) (C:Addr) (bm:List Value):Prop where
 obj:∃(nm q:Str) (N:Addr) (bs:List Value) (hd:Bool) (sn:List Str) (sub:List Value) (ab:Bool) (col:Option Bool) (dd:Option Addr) (k0 k1 k2 k3 k5:Option Value) (ni:String),K.lookup C=some (excClassObj nm q C N bs bm hd sn sub ab col dd k0 k1 k2 k3 k5 ni)
 b:bm.contains (.type "BaseException")=true
theorem mE{v i p}{es:List Expr}: jk (.Subscript v i p::es) env=(false,eval (.Subscript v i p) env)::jk es env:=rfl
theorem pK{l o r p}{es:List Expr}: jk (.BinOp l o r p::es) env=(false,eval (.BinOp l o r p) env)::jk es env:=rfl
section
variable {X:Cx}
theorem aHh(hc:PT X c tc)(ha:PSx X a t)(hb:PSs X b u):aFj X (.If c a b pos) (aKn tc t u):=⟨jV hc ha.h hb⟩
end
section
variable {X:Cx}
def tyM (K:ς) (x:V) (H:Hp) (t:String):Prop:=tyN K x H t\/(t = "dict"/\∃p kvs,x=.ref p/\H p=some (.dK kvs))
theorem kW:vR X (.builtin "isinstance") (fun xs H Q=>∃x T t,xs=[x,.ty T]/\T∈aDt/\tyM X.K x H t/\Q (.bl (isa t T)) H):=by
 intro pins s σ H xs us Q I r h;obtain⟨x,T,t,rfl,hT,ht|⟨rfl,p,kvs,rfl,hp⟩,q⟩:=h
 ·exact pW pins s σ H _ us Q I r ⟨x,T,t,rfl,hT,ht,q⟩
 ·exact sN pins s σ H _ us Q I r ⟨p,T,kvs,rfl,hT,hp,q⟩
end
end L2
namespace L2
open PySem PyProof.Rows
def keyD:Key->θ
 |.inl n=>.int n
 |.inr x=>.str x
theorem aIn(hk:(qN P w).is k u=true):Reads h u (keyD k) []:=by
 rcases qU hk with⟨i,t,rfl,rfl⟩|⟨x,t,rfl,rfl⟩
 ·exact .int _ _
 ·exact .str _ _
end L2
namespace L2
open PySem PySem.Spec PyProof.Rows
section
variable {X:Cx}{pins:List (Addr×Obj)}{σ:St}{H:Hp}{s:χ}{h':nc}
theorem Inv.turned2{t':Nat}{e it p:Addr}(I:Inv X pins σ H s)(k:∀b u,b≠e->b≠it->s.heap.get? b=some u->h'.get? b=some u)(fe:iA X pins H e)(fi:iA X pins H it)
  (hp:s.heap.objs.size<=p)(new:vE X.prog X.w (upd H p o) h' p o):Inv X pins σ (upd H p o) { s with heap:=h',toks:=t' }:=by
 have hn:=I.hok.fresh hp;have ne:∀b u,H b=some u->b≠e:=fun b u q=>jS q fe.1;have ni:∀b u,H b=some u->b≠it:=fun b u q=>jS q fi.1;have nx:∀b,b∉[e,it]->b≠e/\b≠it:=fun b hb=>⟨fun z=>hb (by simp[z]),fun z=>hb (by simp[z])⟩;have np:∀b u,s.heap.get? b=some u->b≠p:=fun b u q=>ji (ω (ik q) hp);have u:Un (frs X.stack) [e,it] H (upd H p o) s.heap h':=by
  refine⟨fun b u q _ _ hx=>k b u (nx b hx).1 (nx b hx).2 q,fun b u q _ _ hx=>⟨u.slots,k b u (nx b hx).1 (nx b hx).2 q⟩,fun b u q n _=>?_,fun b u q hx=>⟨u,k b u (nx b hx).1 (nx b hx).2 q⟩,fun b xs q=>?_,fun b o' u q=>?_,fun b ps q=>⟨#[],?_⟩⟩
  ·rw[kF (np b u q)];exact n
  ·rw[kF (jS q hn)];exact q
  ·rw[kF (jS q hn)];exact q
  ·rw[kF (jS q hn),q];simp
 have hok:HOk X.prog X.w (upd H p o) h':=fun b v eb=>by
  by_cases hb:b=p
  ·subst hb;rw[jT]at eb;cases eb;exact new
  ·rw[kF hb]at eb;refine(I.hok b v eb).stay (fun c w hc q=>k c w ?_ ?_ q) (fun c q=>by rw[kF (jS q hn)];exact q) fun c xs q=>by rw[kF (jS q hn)];exact q
   ·rcases hc with z|z
    ·rw[z];exact ne b v eb
    ·exact ne c _ z
   ·rcases hc with z|z
    ·rw[z];exact ni b v eb
    ·exact ni c _ z
 refine I.call (g':=s.gens) (d':=s.drawn) (t':=t') (ch:=[e,it]) u hok I.bare fun b hb=>?_;have:b=e\/b=it:=by simpa using hb
 rcases this with rfl|rfl
 ·exact⟨fe.2.2.2.1,fe.2.1,fe.2.2.2.2.1,fe.2.2.2.2.2⟩
 ·exact⟨fi.2.2.2.1,fi.2.1,fi.2.2.2.2.1,fi.2.2.2.2.2⟩
end
def Ite (K:ς) (a:Addr):It :=
 ⟨fun i H=>∃xs x,SqL K H a xs/\xs[i]?=some x,fun i H x H'=>∃y p,x=.ref p/\H p=none/\H'=upd H p (.tup [.int (i:Int),y])/\∀xs,SqL K H a xs->xs[i]?=some y,fun i H=>∃xs,SqL K H a xs/\xs.length<=i⟩
theorem aIz{K:ς}(a e it:Addr)(hne:e≠it):Turn P w K (.Tuple elts x1 pos) (Ite K a) [e,it] e (fun i h=>(∃old,IsEnum h e it (i:Int) old)/\h.IsListIter it a i) where
 mem:=by simp
 obj:=fun i h st b hb=>by
  have:b=e\/b=it:=by simpa using hb
  obtain⟨⟨old,he⟩,o,ho,hc,hd⟩:=st;rcases this with rfl|rfl
  ·exact⟨_,he,fun v z=>by cases z⟩
  ·exact⟨o,ho,fun v z=>by rw[hd]at z;cases z⟩
 keep:=fun i h h' st k=>by
  obtain⟨⟨old,he⟩,o,ho,r⟩:=st;exact⟨⟨old,k e (by simp) _ he⟩,o,k it (by simp) _ ho,r⟩
 item:=by
  intro X hP hw hK hc i pins s σ H E I hf st hg;subst hP hw hK;obtain⟨xs,x,hq,hx⟩:=hg;obtain⟨its,rv,p,hz⟩:=I.list hq;obtain⟨u,hu,ru⟩:=rv.get hx;have fe:=hf e (by simp);have fi:=hf it (by simp);obtain⟨⟨old,he⟩,hit⟩:=st;refine wpAny_pyNext_enum_item he hit p.isList (x:=u) (by simpa using hu) hne fun h1 heo hit1 ht1 hz1 hk1=>⟨_,rfl,?_⟩;refine wpAny_letOwnedTupleGo_enum heo fun h2 he2 hs2=>?_;replace hs2:sf e h1 h2:=hs2;have ne:s.heap.objs.size≠e:=Nat.ne_of_gt (ik he);have ht2:h2.get? s.heap.objs.size=some { cls:=.type "tuple",data:=.seq #[.int i s.toks,u] }:=(hs2.2 _ ne).trans ht1;have k2:∀b v,b≠e->b≠it->s.heap.get? b=some v->h2.get? b=some v:=fun b v n1 n2 q=>(hs2.2 b n1).trans (hk1 b v n1 n2 q);refine⟨.ref s.heap.objs.size,upd H s.heap.objs.size (.tup [.int (i:Int),x]),I.turned2 (t':=s.toks+1) k2 fe fi (ξ _) ⟨(by show 2<=τ;decide),[.int i s.toks,u],.cons ⟨_,rfl⟩ (.cons ru .nil),_,ht2,rfl,_,rfl⟩,rfl,⟨x,_,rfl,I.hok.fresh (ξ _),rfl,fun ys hy=>by rw[I.list_inj hy hq];exact hx⟩,⟨⟨_,he2⟩,?_⟩,fun b hb=>?_⟩
  ·obtain⟨o,ho,r⟩:=hit1;exact⟨o,(hs2.2 it (lm hne)).trans ho,r⟩
  ·have:b=e\/b=it:=by simpa using hb
   obtain⟨oi,hoi,_⟩:=hit;rcases this with rfl|rfl
   ·rw[kF (lm ne)];exact fe.1
   ·rw[kF (ji (ik hoi))];exact fi.1
 done:=by
  intro X hP hw hK hc i pins s σ H E I hf st hg;subst hP hw hK;obtain⟨xs,hq,hl⟩:=hg;obtain⟨its,rv,p,hz⟩:=I.list hq;have hlen:=rv.length;obtain⟨f0,f1,f2,f3,f4,f5⟩:=hf it (by simp);obtain⟨⟨old,he⟩,hit⟩:=st;exact wpAny_pyNext_enum_end (I.ok.hd hc) he hit p.isList (by simp;omega) fun h' eb=>⟨rfl,I.turned (t':=s.toks) (fun b o hb e=>eb b o hb e) f0 f1 f3 f4 f5⟩
 self:=fun _ _ _ _ _ st h=>by
  obtain⟨⟨old,he⟩,_⟩:=st;exact wpAny_pyIter_enum he h
def iEnum (K:ς) (ta:TA):TI:=fun σ H R=>ta σ H fun vs H1=>∃a xs,vs=[.ref a]/\SqL K H1 a xs/\R (Ite K a) H1
theorem aGi{a:Expr}(hg:Gl X "enumerate")(hm:X.mg "enumerate" = none)(ha:PA X [a] ta)(hs:jk [a] X.env=[(false,eval a X.env)]:=by rfl):PI X (.Tuple elts x1 tpos) (.Call (.Name "enumerate" p) [a] [] pos) (iEnum X.K ta):=by
 intro pins s σ H R I h;refine Call_ (pE I hg hm boot_enumerate (tq (thn (ha pos pins s σ H _ I h) fun us s1 zq=>?_) hs rfl));obtain⟨vs,H1,I1,r1,q1⟩:=zq;obtain⟨l,xs,e,hl,q⟩:=q1;subst e;obtain⟨u,rfl,rx⟩:=vals1 r1;cases rx;obtain⟨its,rv,pl,hz⟩:=I1.list hl;refine call_enumerate_list pl.isList fun h' he hit hsz hk=>wpAny_pyIter_enum he ?_;refine⟨s1.heap.objs.size+1,[s1.heap.objs.size+1,s1.heap.objs.size],_,_,H1,rfl,I1.kept (t':=s1.toks) hk,aIz l _ _ (Nat.succ_ne_self _),⟨⟨_,he⟩,hit⟩,fun b hb=>?_,q⟩;have:b=s1.heap.objs.size+1\/b=s1.heap.objs.size:=by simpa using hb
 rcases this with rfl|rfl
 ·exact I1.fpOk (Nat.le_succ _) (I1.hok.fresh (Nat.le_succ _))
 ·exact I1.fpOk (ξ _) (I1.hok.fresh (ξ _))
theorem aBz{K:ς}{xs:List V}{g:TG}{tb:TS}{D:Ends}{σ:St}{H:Hp}(Pv:Nat->St->Hp->Prop)(h0:Pv 0 σ H)(hl:∀i σ H,i<=xs.length->Pv i σ H->SqL K H a xs)
  (hs:∀i x σ H p,xs[i]?=some x->Pv i σ H->H p=none->LpL (let D2:Ends:={ D with nx:=Pv (i+1),ct:=Pv (i+1),bk:=D.nx };g (.ref p) σ (upd H p (.tup [.int (i:Int),x])) fun σ2 H2=>tb D2 σ2 H2))(hd:∀σ H,Pv xs.length σ H->D.nx σ H):
  ∃W:Nat->Nat->St->Hp->Prop,(∃m,W 0 m σ H)/\∀i m σ H,W i m σ H →
   ((Ite K a).stop i H/\D.nx σ H)\/((Ite K a).go i H/\∃N:St->Hp->Prop,(∀σ' H',N σ' H'->∃m',m'<m/\W (i+1) m' σ' H')/\∀x H',(Ite K a).yld i H x H'->g x σ H' fun σ2 H2=>tb { D with nx:=N,ct:=N,bk:=D.nx } σ2 H2):=by
 refine⟨fun i m σ H=>m=xs.length-i/\i<=xs.length/\Pv i σ H,⟨xs.length,by simp,ij _,h0⟩,?_⟩;rintro i m σ H ⟨rfl,hi,p⟩;have q:=hl i σ H hi p
 by_cases hlt:i<xs.length
 ·refine .inr ⟨⟨xs,xs[i],q,by simp[hlt]⟩,Pv (i+1),fun σ' H' p'=>⟨xs.length-(i+1),by omega,rfl,hlt,p'⟩,fun x H' y=>?_⟩;obtain⟨y',pa,rfl,hn,rfl,hy⟩:=y;exact hs i y' σ H pa (hy xs q) p hn
 ·have e:i=xs.length:=by omega
  subst e;exact .inl ⟨⟨xs,q,ξ _⟩,hd σ H p⟩
end L2
namespace L2
open PySem
theorem xA.units1(r:xA k A):A.units+1<qi:=by
 have:=r.units;omega
end L2
namespace L2
open PySem PySem.Spec PyProof.Rows
section
variable {X:Cx}
theorem mH:vR X (.type "int") (fun xs H Q=>∃b:Bool,xs=[.bl b]/\Q (.int (if b then 1 else 0)) H):=by
 intro pins s σ H xs us Q I r h;obtain⟨b,rfl,q⟩:=h;obtain⟨u,rfl,r1⟩:=vals1 r;cases r1;exact call_int_bool ⟨.int _,H,I.tok _,⟨_,rfl⟩,q⟩
end
def aEz (K:ς) (H:Hp) (x:V) (d:θ):Prop:=Dat K H x d\/(∃a kvs,x=.ref a/\H a=some (.dK kvs))/\d=.dict []
def tyD:θ->String
 |.none=>"NoneType"
 |.bool _=>"bool"
 |.int _=>"int"
 |.str _=>"str"
 |.list _=>"list"
 |.tuple _=>"tuple"
 |.dict _=>"dict"
theorem Dat.ty{K:ς}(h:Dat K H x d):tyN K x H (tyD d):=by
 cases h with
 |lst h _=>exact .inl ⟨rfl,_,h⟩
 |tup h _=>exact .inr ⟨rfl,_,h⟩
 |_=>rfl
theorem aEz.ty{K:ς}(h:aEz K H x d):tyM K x H (tyD d):=by
 rcases h with h|⟨⟨a,kvs,rfl,h⟩,rfl⟩
 ·exact .inl h.ty
 ·exact .inr ⟨rfl,a,kvs,rfl,h⟩
theorem aEz.same{K:ς}(h:aEz K H x d)(g:jJ H H'):aEz K H' x d:=by
 rcases h with h|⟨⟨a,kvs,rfl,h⟩,rfl⟩
 ·exact .inl (h.same g)
 ·exact .inr ⟨⟨a,kvs,rfl,g _ _ h⟩,rfl⟩
theorem DatAll.length{K:ς}{H:Hp}: ∀{xs:List V}{ds:List θ},DatAll K H xs ds->xs.length=ds.length
 |_,_,.nil=>rfl
 |_,_,.cons _ t=>congrArg (·+1) (DatAll.length t)
theorem DatAll.get{K:ς}: ∀{xs:List V}{ds:List θ}{i:Nat}{x:V},DatAll K H xs ds->xs[i]?=some x->∃d,ds[i]?=some d/\Dat K H x d
 |_,_,_,_,.nil,e=>by simp at e
 |_,_,0,_,.cons h _,e=>by simp at e;subst e;exact⟨_,rfl,h⟩
 |_,_,i+1,x,.cons _ t,e=>by
  obtain⟨d,h1,h2⟩:=DatAll.get (i:=i) (x:=x) t (by simpa using e);exact⟨d,by simpa using h1,h2⟩
theorem DatAll.app{K:ς}: ∀{xs ys:List V}{ds es:List θ},DatAll K H xs ds->DatAll K H ys es->DatAll K H (xs++ys) (ds++es)
 |_,_,_,_,.nil,s=>s
 |_,_,_,_,.cons h t,s=>.cons h (DatAll.app t s)
theorem DatAll.take{K:ς}: ∀{xs:List V}{ds:List θ}(n:Nat),DatAll K H xs ds->DatAll K H (xs.take n) (ds.take n)
 |_,_,0,_=>.nil
 |_,_,_+1,.nil=>.nil
 |_,_,n+1,.cons h t=>.cons h (DatAll.take n t)
theorem DatAll.drop{K:ς}: ∀{xs:List V}{ds:List θ}(n:Nat),DatAll K H xs ds->DatAll K H (xs.drop n) (ds.drop n)
 |_,_,0,h=>h
 |_,_,_+1,.nil=>.nil
 |_,_,n+1,.cons _ t=>DatAll.drop n t
end L2
namespace L2
open PySem
theorem kY{H H1:Hp}(e:upd H p o=H1)(hp:H p=none):jJ H H1/\H1 p=some o:=by
 subst e;exact⟨fun b u q=>by rw[kF (jS q hp)];exact q,jT⟩
theorem xS{H1:Hp}(e:upd H p o=H1):But p H H1/\H1 p=some o:=by
 subst e;exact⟨But.upd,jT⟩
theorem jJ.at{H H1:Hp}(g:jJ H H1)(h:H a=some o):H1 a=some o:=g _ _ h
theorem jJ.tp{K:ς}(e:jJ H H')(h:SqT K H a xs):SqT K H' a xs:=by
 rcases h with (h|⟨o,h⟩)|h
 ·exact .inl (.inl (e _ _ h))
 ·exact .inl (.inr ⟨o,e _ _ h⟩)
 ·exact .inr h
theorem jJ.dt{K:ς}(g:jJ H H')(h:Dat K H x d):Dat K H' x d:=h.same g
theorem jJ.dts{K:ς}(g:jJ H H')(h:DatAll K H xs ds):DatAll K H' xs ds:=h.same g
theorem jJ.dtt{K:ς}(g:jJ H H')(h:aEz K H x d):aEz K H' x d:=h.same g
theorem join{R:VK}(hk:R v H')(h:∀Q:VK,Q v H'->tIf t ta tb σ H Q):tIf t ta tb σ H R:=h R hk
theorem aGc(P:St->Hp->Prop){D:Ends}{rest:TS}(hk:∀σ' H',P σ' H'->rest D σ' H')(h:∀nx:St->Hp->Prop,(∀σ' H',P σ' H'->nx σ' H')->aKn c t u { D with nx:=nx } σ H):vH (aKn c t u) rest D σ H:=h (rest D) hk
end L2
local macro_rules | `(tactic| walk_at"hp") => `(tactic| first
 |assumption
 |exact L2.jT
 |exact L2.jJ.refl _
 | (refine' L2.jJ.at ?k1 ?_; (case k1=>assumption);walk_at"hp";done)
 | (refine L2.SqL.of ?_;walk_at"hp";done)
 | (refine L2.SqT.of ?_;walk_at"hp";done)
 | (refine' L2.jJ.seq ?k1 ?_; (case k1=>assumption);walk_at"hp";done)
 | (refine' L2.jJ.tp ?k1 ?_; (case k1=>assumption);walk_at"hp";done)
 | (refine' L2.jJ.dt ?k1 ?_; (case k1=>assumption);walk_at"hp";done)
 | (refine' L2.jJ.dts ?k1 ?_; (case k1=>assumption);walk_at"hp";done)
 | (refine' L2.jJ.dtt ?k1 ?_; (case k1=>assumption);walk_at"hp";done)
 | (refine' L2.jJ.trans ?_ ?k1; (case k1=>assumption);walk_at"hp";done))
local macro_rules | `(tactic| walk_at"al") => `(tactic| (intro pX hX;generalize eX : L2.upd _ pX _ = HX;obtain ⟨gX,kX⟩ := L2.kY eX hX;clear eX))
local macro_rules | `(tactic| o_unpack $r:ident) => `(tactic| (intro $r:ident hX;generalize eX : L2.upd _ $r:ident _ = HX;obtain ⟨gX,kX⟩ := L2.kY eX hX;clear eX))
local macro_rules | `(tactic| walk_at"ch") => `(tactic| (generalize eX : L2.upd _ _ _ = HX;obtain ⟨gX,kX⟩ := L2.xS eX;clear eX))
local macro_rules | `(tactic| walk_at"rd") => `(tactic| repeat first
 | (refine⟨_,rfl,?_⟩)
 | (refine⟨_,_,rfl,rfl,?_⟩)
 | (refine⟨_,_,rfl,rfl,⟨by decide,by decide⟩,?_⟩)
 | (refine' ⟨_,_,rfl,.inl ?k1,?_⟩; (case k1=>walk_at"hp"))
 | (refine' ⟨_,_,_,_,rfl,rfl,?k1,?k2,?_⟩; (case k1=>walk_at"hp"); (case k2=>rfl)))
namespace L2
open PySem PySem.Spec PyProof.Rows
section
variable {X:Cx}
theorem aJo(hu:X.A.units+64<qi):OpR X (lh .NotEq) (fun x y H Q=>∃(a b:Addr) (xs:List V),x=.ref a/\y=.ref b/\SqL X.K H a xs/\SqL X.K H b []/\Q (.bl (!xs.isEmpty)) H):=by
 intro pins s σ H x y v u Q I rx ry h;obtain⟨a,b,xs,rfl,rfl,ha,hb,q⟩:=h;cases rx;cases ry;obtain⟨i1,r1,p1,_⟩:=I.list ha;obtain⟨i2,r2,p2,_⟩:=I.list hb;cases r2;show iz _ _ (richCompare .NotEq (.ref a) (.ref b)) _ _ _;cases xs with
 |nil =>
  cases r1;refine SeqAt.RcNeAt.lists (e:=fun _=>true) p1.isList p2.isList rfl (by omega) (fun j h1 _=>absurd h1 (uv _)) _ _ _ _ ?_;exact⟨.bl false,H,I,rfl,q⟩
 |cons z zs =>
  cases r1 with
  |cons rz rt =>
   refine SeqAt.RcNeAt.lists_lengths p1.isList p2.isList (by simp) (by omega) _ _ _ _ ?_;exact⟨.bl true,H,I,rfl,q⟩
end
section
variable {X:Cx}
theorem hU : ((ir n).all fun _=>true)=true:=by simp
end
end L2
namespace L2
open PySem
structure Sm (d:θ) (n m:Nat):Prop where
 sh:d.showable=true
 ls:d.leavesShort 200=true
 wt:d.weight<=n
 dp:d.depth<=m
 nd:d.hasDict=false
theorem bH{n:Nat}(h:n<2 ^ 100):n.log2<100:=by
 by_cases h0:n=0
 ·subst h0;decide
 ·exact(Nat.log2_lt h0).mpr h
theorem Sm.int{i:Int}(h:i.natAbs<2 ^ 100):Sm (.int i) 101 0:=by
 have hl:=bH h;refine⟨?_,?_,?_,ξ _,rfl⟩
 ·simp only[θ.showable,decide_eq_true_eq];omega
 ·simp only[θ.leavesShort,decide_eq_true_eq];have:=int_text_length_le (a:=i) (k:=100) (by decide) hl;show(η (toString i)).length<=200;rw[ofString_length];omega
 ·simp only[θ.weight]
  split <;> omega
theorem Sm.none:Sm .none 0 0:=⟨rfl,rfl,ξ _,ξ _,rfl⟩
theorem Sm.bool(b:Bool):Sm (.bool b) 0 0:=⟨rfl,rfl,ξ _,ξ _,rfl⟩
theorem Sm.le{n' m':Nat}(h:Sm d n m)(hn:n<=n')(hm:m<=m'):Sm d n' m':=⟨h.sh,h.ls,iq h.wt hn,iq h.dp hm,h.nd⟩
theorem Sm.len(h:Sm d n m)(hn:n<=10000):d.shown.length<=τ:=by
 have h1:=θ.shown_le 200 (by decide) d h.ls;have h2:=h.wt;rw[il];omega
end L2
namespace L2
open PySem PySem.Spec PyProof.Rows
theorem qJ{x p}{es:List Expr}: jk (.Name x p::es) env=(false,eval (.Name x p) env)::jk es env:=rfl
section
variable {X:Cx}{e:Expr}{es:List Expr}{te:TE}{t:TA}
theorem aGo(h:PAx X es t):PEx X (.List es pos) (tLst t):=⟨qT h.h⟩
theorem dH(h:PEx X e te):aFj X (.Return (some e) pos) (tRet te):=⟨jI h.h⟩
theorem aKa{i:Nat}(hN:X.N.Nodup)(hi:X.N[i]?=some x)(hx:X.env.scope.names.lookup x=some .local)(he:PEx X (.List es p1) te):
  aFj X (.Assign [.Name x pos'] (.List es p1) pos) (aJk te (yC i)):=⟨aEt hN hi (.inl hx) he.h rfl (.inr hx)⟩
end
structure xE (P:lu) (w:my) (K:ς) (mg:Str->Option Value) (base:nc) (CX:CXT) (k:Nat) (m:Str) (C:Addr) (sp:Sp):Prop where
 cl:Cls K C
 ex:∃f fd ps,Meth K C m f/\jY P w K mg base CX k f fd ps sp/\Binds K fd ps []
section
variable {X:Cx}{CX:CXT}{k:Nat}{E:XK}{m:Str}{pos apos:Pos}{e o:Expr}{es:List Expr}{ta:TE}{t:TA}{T:Addr->Sp->Prop}
def aKw (T:Addr->Sp->Prop) (m:Str) (E:XK) (ta:TE) (t:TA):TE:=fun σ H Q=>ta σ H fun x H1=>∃a C dx fs sp,x=.ref a/\H1 a=some (.ins C dx fs)/\fs.lookup m=none/\T C sp/\t σ H1 fun vs H2=>sp (x::vs) H2 Q E
theorem iM(he:PE X o ta)(hT:∀C sp,T C sp->xE X.prog X.w X.K X.mg X.base CX k m C sp)(hr:xA k X.A)(hx:zR CX X E)(ha:PA X (e::es) t)
  (hst:jk (e::es) X.env=(false,eval e X.env)::jk es X.env:=by rfl)(hpl:(uf pos (jk es X.env)).any (·.1)=false:=by rfl)
  (ht:eval (.Call (.Attribute o m apos) (e::es) [] pos) X.env=(do
   let ov ←eval o X.env
   standAt apos.atName
   let (f,first) ←holding [ov] (getMethod ov m pl)
   callWith pos f first (uf pos (jk (e::es) X.env)) (backToKw pos (keywordEach [] X.env))):=by rfl):
  PE X (.Call (.Attribute o m apos) (e::es) [] pos) (aKw T m E ta t):=by
 intro pins s σ H Q I h;refine vk (pl:=pl) (thn (he pins s σ H _ I h) fun u s1 zq=>?_) ht;obtain⟨x,H1,I1,rx,a,C,dx,fs,sp,ex,ea,l,hC,q⟩:=zq;subst ex;obtain rfl:u=km a:=rx;obtain⟨c,f,fd,ps,hm,F,hb⟩:=hT C sp hC;refine gJ I1 ea c hm l ?_;refine PySem.W.callWith_K (first:=[.ref a]) (h₀:=X.base) I.ok.mod.kin hm.kp (thn (ha pos pins s1 σ H1 _ I1 q) fun us s2 zq=>zq.el fun vs H2 I2 r q2=>⟨I2.kIn,?_⟩) hst hpl;exact wB (us:=.ref a::us) (vs:=.ref a::vs) (dvs:=[]) F hr hb .nil hx I2 (.cons rfl r) (by rw[ly];exact q2)
theorem xB(he:PE X o ta)(hT:∀C sp,T C sp->xE X.prog X.w X.K X.mg X.base CX k m C sp)(hr:xA k X.A)(hx:zR CX X E)
  (ht:eval (.Call (.Attribute o m apos) [] [] pos) X.env=(do
   let ov ←eval o X.env
   standAt apos.atName
   let (f,first) ←holding [ov] (getMethod ov m pl)
   callWith pos f first (uf pos (jk [] X.env)) (backToKw pos (keywordEach [] X.env))):=by rfl):
  PE X (.Call (.Attribute o m apos) [] [] pos) (aKw T m E ta aMl):=by
 intro pins s σ H Q I h;refine vk (pl:=pl) (thn (he pins s σ H _ I h) fun u s1 zq=>?_) ht;obtain⟨x,H1,I1,rx,a,C,dx,fs,sp,ex,ea,l,hC,q⟩:=zq;subst ex;obtain rfl:u=km a:=rx;obtain⟨c,f,fd,ps,hm,F,hb⟩:=hT C sp hC;refine gJ I1 ea c hm l ?_;exact PySem.W.callWith_K0 (first:=[.ref a]) I1.kIn hm.kp (wB (us:=[.ref a]) (vs:=[.ref a]) (dvs:=[]) F hr hb .nil hx I1 (.cons rfl .nil) q)
end
def aDc:V->Option Str
 |.str x=>some x
 |.int i=>if i.natAbs<2 ^ 100 then some (toString i) else none
 |_=>none
def TJ:=St->Hp->Str->(Str->Hp->Prop)->Prop
def PJ (X:Cx) (es:List Expr) (t:TJ):Prop:=∀(pins:List (Addr×Obj)) (s:χ) (σ:St) (H:Hp) (acc:Str) (Q:Str->Hp->Prop),Inv X pins σ H s->t σ H acc Q →
 iz (jj X.prog X.w) X.A (joinParts acc (evalEach es X.env)) (EP X pins σ fun v H'=>∃z,v=.str z/\Q z H') X.xe s
section
variable {X:Cx}{e e1 e2:Expr}{es:List Expr}{te:TE}{t:TJ}{pos p:Pos}{x:Str}
def jNil:TJ:=fun _ H acc Q=>acc.length<=τ/\Q acc H
theorem aMo:PJ X [] jNil:=fun _ s _ H acc Q I h=>joinParts_nil ⟨.str acc,H,I.tok _,⟨_,rfl⟩,acc,rfl,h.2⟩ h.1
def jStr (x:Str) (t:TJ):TJ:=fun σ H acc Q=>(acc++x).length<=τ/\t σ H (acc++x) Q
theorem aJu{j}(ht:PJ X es t):PJ X (.Constant (.str x) j p::es) (jStr x t):=by
 intro pins s σ H acc Q I h;refine joinParts_cons (Calls.Constant_str ⟨h.1,ht pins _ σ H _ Q (I.tok _) h.2⟩)
theorem aMr{s:χ}{R:Value->χ->Prop}(I:Inv X pins σ H s)(r:RelV v u)(hy:aDc v=some y)(hl:y.length<=τ)
  (h:∀t' tk,Inv X pins σ H { s with toks:=tk }->R (.str y t') { s with toks:=tk }):iz (jj X.prog X.w) X.A (formatField u Str.empty) R E s:=by
 cases v with
 |str x =>
  obtain⟨t,rfl⟩:=r;cases hy;exact formatField_str (fun t' tk=>h t' tk (I.kept fun _ _ q=>q)) hl
 |int i =>
  obtain⟨t,rfl⟩:=r;have hy':(if i.natAbs<2 ^ 100 then some (η (toString i)) else none)=some y:=hy
  by_cases hi:i.natAbs<2 ^ 100
  ·rw[if_pos hi]at hy';cases hy';refine formatField_int_small ?_ (h _ _ (I.kept fun _ _ q=>q));have:=bH hi;omega
  ·rw[if_neg hi]at hy';cases hy'
 |_=>cases hy
def jVal (te:TE) (t:TJ):TJ:=fun σ H acc Q=>te σ H fun v H1=>∃y,aDc v=some y/\y.length<=τ/\(acc++y).length<=τ/\t σ H1 (acc++y) Q
theorem aFu(he:PE X e te)(ht:PJ X es t):PJ X (.FormattedValue e (-1) none p::es) (jVal te t):=by
 intro pins s σ H acc Q I h;refine joinParts_cons (FormattedValue_plain (thn (he pins s σ H _ I h) fun u s1 zq=>?_));obtain⟨v,H1,I1,r,y,hy,hl,ha,q⟩:=zq;exact aMr I1 r hy hl fun t' tk I2=>⟨ha,ht pins _ σ H1 _ Q I2 q⟩
def tJoin (t:TJ):TE:=fun σ H Q=>t σ H Str.empty fun z H1=>Q (.str z) H1
theorem aGh(h:PJ X (e1::e2::es) t):PE X (.JoinedStr (e1::e2::es) pos) (tJoin t):=by
 intro pins s σ H Q I hq;exact JoinedStr_many (thn (h pins s σ H Str.empty _ I hq) fun u s1 ⟨v,H1,I1,r,z,ez,q⟩=>⟨v,H1,I1,r,by rw[ez];exact q⟩)
def aPy (te:TE):TE:=fun σ H Q=>te σ H fun v H1=>∃y,aDc v=some y/\y.length<=τ/\Q (.str y) H1
theorem aKs(he:PE X e te):PE X (.JoinedStr [.FormattedValue e (-1) none p] pos) (aPy te):=by
 intro pins s σ H Q I h;refine JoinedStr_one (FormattedValue_plain (thn (he pins s σ H _ I h) fun u s1 zq=>?_));obtain⟨v,H1,I1,r,y,hy,hl,q⟩:=zq;exact aMr I1 r hy hl fun t' tk I2=>⟨.str y,H1,I2,⟨_,rfl⟩,q⟩
end
end L2
namespace L2
open PySem
def jn (c:Nat):List (List Nat)->List Nat
 |[]=>[]
 |[p]=>p
 |p::q::r=>p++c::jn c (q::r)
theorem aHl{c:Nat}: ∀{p1 p2 t1 t2:List Nat},c∉p1->c∉p2->p1++c::t1=p2++c::t2->p1=p2/\t1=t2
 |[],[],t1,t2,_,_,h=>⟨rfl,(uj h).2⟩
 |[],b::p2,t1,t2,_,h2,h=>absurd (Ξ.mpr (.inl (uj h).1)) h2
 |a::p1,[],t1,t2,h1,_,h=>absurd (Ξ.mpr (.inl (uj h).1.symm)) h1
 |a::p1,b::p2,t1,t2,h1,h2,h=>by
  obtain⟨e1,e2⟩:=uj h;obtain⟨e3,e4⟩:=aHl (fun z=>h1 (Ψ _ z)) (fun z=>h2 (Ψ _ z)) e2;exact⟨by rw[e1,e3],e4⟩
theorem aLj{c:Nat}: ∀{ps qs:List (List Nat)},ps≠[]->qs≠[]->(∀p∈ps,c∉p)->(∀q∈qs,c∉q)->jn c ps=jn c qs->ps=qs
 |[],_,h,_,_,_,_=>absurd rfl h
 |_,[],_,h,_,_,_=>absurd rfl h
 |[p],[q],_,_,_,_,h=>by rw[show p=q from h]
 |[p],q::q2::qs,_,_,hp,_,h=>by
  have e:p=q++c::jn c (q2::qs):=h;exact absurd (by rw[e];simp) (hp p (Δ ..))
 |p::p2::ps,[q],_,_,_,hq,h=>by
  have e:p++c::jn c (p2::ps)=q:=h;exact absurd (by rw[←e];simp) (hq q (Δ ..))
 |p::p2::ps,q::q2::qs,_,_,hp,hq,h=>by
  obtain⟨e1,e2⟩:=aHl (hp p (Δ ..)) (hq q (Δ ..)) h;have ih:=aLj (by simp) (by simp) (fun z hz=>hp z (Ψ _ hz)) (fun z hz=>hq z (Ψ _ hz)) e2;rw[e1,ih]
theorem nS(c:Nat):∀ys:List Str,(jo ⟨#[c]⟩ ys).cps.toList=jn c (ys.map fun y=>y.cps.toList)
 |[]=>rfl
 |[y]=>rfl
 |y::z::ys=>by
  show(y++⟨#[c]⟩++jo ⟨#[c]⟩ (z::ys)).cps.toList=_;rw[qj,qj,oq,oq,nS c (z::ys),jr];rfl
theorem aMn(x y:Str):ox x y≠[]:=fun h=>by
 unfold ox at h
 split at h
 ·cases h
 ·split at h
  ·cases h
  ·rw[StrLaws.partsBetween_eq]at h;obtain⟨p,r,e⟩:=StrLaws.partsFrom_ne x y.length 0 (og x y 0 x.length (x.length+1));rw[e]at h;cases h
theorem oA{c:Nat}{ys:List Str}(hne:ys≠[])(hf:∀y∈ys,c∉y.cps.toList):ox (jo ⟨#[c]⟩ ys) ⟨#[c]⟩=ys:=by
 have h1:=StrLaws.join_split (jo ⟨#[c]⟩ ys) ⟨#[c]⟩;have h2:=congrArg (fun z:Str=>z.cps.toList) h1;simp only[nS]at h2;have h3:=aLj (by simpa using aMn _ _) (by simpa using hne) (fun p hp=>by
  obtain⟨y,hy,rfl⟩:=iw.mp hp;exact StrLaws.split_free _ c y hy) (fun p hp=>by
  obtain⟨y,hy,rfl⟩:=iw.mp hp;exact hf y hy) h2
 have hi:∀{as bs:List Str},(as.map fun y=>y.cps.toList)=(bs.map fun y=>y.cps.toList)->as=bs:=by
  intro as
  induction as with
  |nil=>intro bs h;cases bs with
   |nil=>rfl
   |cons b bs=>cases h
  |cons a as ih=>intro bs h;cases bs with
   |nil=>cases h
   |cons b bs =>
    obtain⟨e1,e2⟩:=uj h;rw[ih e2,Str.ext' (Array.toList_inj.mp e1)]
 exact hi h3
end L2
namespace L2
open PySem PySem.Spec PyProof.Rows
section
variable {X:Cx}
theorem sS:MtR X "str.split" (fun x vs H Q=>∃z y:Str,x=.str z/\vs=[.str y]/\(y.length == 0)=false/\z.length+2<=τ/\∀p,H p=none->Q (.ref p) (upd H p (.lst ((ox z y).map V.str)))):=by
 intro pins s σ H x vs v us Q I rx rv h;obtain⟨z,y,rfl,rfl,h2,h4,q⟩:=h;have hn:(si.Str.partsBetween z (og z y 0 z.length (z.length+1)) y.length).length<=τ:=by
  have e1:=StrLaws.occ_length_le z y 0 z.length (z.length+1);rw[length_partsBetween];omega
 obtain⟨t,rfl⟩:=rx;obtain⟨u,rfl,ru⟩:=vals1 rv;obtain⟨t',rfl⟩:=ru;have fin:∀(tk:Nat) (ws:List Value),kJ ((ox z y).map V.str) ws->(ox z y).length<=τ →
   EP X pins σ Q (.ref s.heap.objs.size) { s with toks:=tk,heap:=s.heap.push { cls:=.type "list",data:=.seq ws.toArray } }:=fun tk ws rw' hl=>by
  refine⟨.ref s.heap.objs.size,_,I.laid (o:=.lst ((ox z y).map V.str)) (fun b o e=>Θ _ e) (ξ _) ?_,rfl,q _ (I.hok.fresh (ξ _))⟩;exact⟨by rw[δ];exact hl,_,0,rw',jb _ rfl⟩
 cases h1:(decide (z.length<y.length)||decide (si.Str.strKind z<si.Str.strKind y))
 ·cases hf:(og z y 0 z.length (z.length+1)).isEmpty
  ·refine sk F.slot_str_split (typeIs_str _ _ _) F.entry_str_split (F.args_str_split_2 _ _) (meets_str_split_sep z y t t' h1 h2 hf (by omega) hn) ?_;have e:ox z y=si.Str.partsBetween z (og z y 0 z.length (z.length+1)) y.length:=(if_neg (ne_true_of_eq_false h1)).trans (if_neg (ne_true_of_eq_false hf));exact fin _ _ (by rw[e];exact sR _ _) (by rw[e];exact hn)
  ·have e:ox z y=[z]:=(if_neg (ne_true_of_eq_false h1)).trans (if_pos hf);exact sk F.slot_str_split (typeIs_str _ _ _) F.entry_str_split (F.args_str_split_2 _ _) (meets_str_split_not_found z y t t' h1 h2 hf) (fin s.toks [.str z t] (by rw[e];exact .cons ⟨_,rfl⟩ .nil) (by rw[e];show 1<=τ;decide))
 ·have e:ox z y=[z]:=if_pos h1;exact sk F.slot_str_split (typeIs_str _ _ _) F.entry_str_split (F.args_str_split_2 _ _) (meets_str_split_cannot_occur z y t t' h1) (fin s.toks [.str z t] (by rw[e];exact .cons ⟨_,rfl⟩ .nil) (by rw[e];show 1<=τ;decide))
theorem iF:MtR X "str.join" (fun x vs H Q=>∃(sep:Str) (a:Addr) (ys:List Str),x=.str sep/\vs=[.ref a]/\SqL X.K H a (ys.map V.str)/\(ys.map (·.length)).sum+ys.length*sep.length<=16777216/\Q (.str (jo sep ys)) H):=by
 intro pins s σ H x vs v us Q I rx rv h;obtain⟨sep,a,ys,rfl,rfl,ha,hz,q⟩:=h;obtain⟨t,rfl⟩:=rx;obtain⟨u,rfl,ru⟩:=vals1 rv;cases ru;obtain⟨its,r,pl,_⟩:=I.list ha;refine PyProof.Rows.join_list pl.isList (aFw (by simpa using r)) hz fun t' k=>⟨.str _,H,I.tok _,⟨_,rfl⟩,?_⟩;rw[show Txt.join sep ys=jo sep ys from StrLaws.glued_eq_join sep ys];exact q
end
section
variable {X:Cx}
theorem mI(f:Nat->Int):∀k,argBest (fun i j=>decide (f i > f j)) k<=k/\∀j,j<=k->f j<=f (argBest (fun i j=>decide (f i > f j)) k)
 |0=>⟨ξ _,fun j hj=>by rw[show j=0 by omega];exact Int.le_refl _⟩
 |k+1=>by
  obtain⟨h1,h2⟩:=mI f k;unfold argBest
  by_cases h:f (k+1) > f (argBest (fun i j=>decide (f i > f j)) k)
  ·rw[if_pos (decide_eq_true h)];refine⟨ξ _,fun j hj=>?_⟩
   by_cases e:j=k+1
   ·rw[e];exact Int.le_refl _
   ·have:=h2 j (by omega);omega
  ·rw[if_neg (by rw[decide_eq_false h];exact π)];refine⟨by omega,fun j hj=>?_⟩
   by_cases e:j=k+1
   ·rw[e];omega
   ·exact h2 j (by omega)
theorem zG(hc:X.calm=true):vR X (.builtin "max") (fun xs H Q=>∃(a:Addr) (ns:List Int),xs=[.ref a]/\SqL X.K H a (ns.map V.int)/\ns≠[]/\∀m:Int,m∈ns->(∀n∈ns,n<=m)->Q (.int m) H):=by
 intro pins s σ H xs us Q I r h;obtain⟨a,ns,rfl,ha,hne,q⟩:=h;obtain⟨u,rfl,rx⟩:=vals1 r;cases rx;obtain⟨its,rv,pl,_⟩:=I.list ha;have hi:=intsAre_of rv;obtain⟨ys,hy⟩:=hi.allInts.items;have e1:ns=ys.toList.map (·.1):=by
  rw[←nums_intItems,←hy];exact(show numsOf its.toArray.toList=ns from hi.numsOf).symm
 have hsz:ys.size=ns.length:=by rw[e1,δ,lj]
 have hpos : 0<ns.length:=rg.mpr hne;have hat:∀j,ns[j]?=ys[j]?.map (fun x:Int×Tok=>x.1):=fun j=>by rw[e1,υ,sx]
 have hnum:∀j,j<ns.length->ns[j]?=some (numAt ys j):=fun j hj=>by
  have hj2:j<ys.size:=by omega
  rw[hat,nh hj2];unfold numAt;rw[nh hj2];rfl
 refine max_intList (I.ok.hd hc) (hy ▸ pl.isList) (by omega) fun v h' tk hv hk=>?_;obtain⟨t,rfl⟩:=intItems_at hv;obtain⟨b1,b2⟩:=mI (numAt ys) (ys.size-1);refine⟨.int _,H,I.kept hk,⟨_,rfl⟩,q _ (ι (hnum _ (by omega))) fun n hn=>?_⟩;obtain⟨j,hj⟩:=jd.mp hn;have hjl:j<ns.length:=(ε.mp hj).1;rw[hnum j hjl]at hj;cases hj;exact b2 j (by omega)
theorem aNk:OpR X (qb .Mult) (fun x y H Q=>∃(z:Str) (n:Int),x=.str z/\y=.int n/\(n=0\/n=1)/\z.length<=τ/\Q (.str (if n=1 then z else Str.empty)) H):=by
 intro pins s σ H x y v u Q I rx ry h;obtain⟨z,n,rfl,rfl,hn,hl,q⟩:=h;obtain⟨t,rfl⟩:=rx;obtain⟨t',rfl⟩:=ry;rcases hn with rfl|rfl
 ·refine P.mul_str_none (by decide) (by decide) ⟨.str _,H,I.tok _,⟨_,rfl⟩,q⟩
 ·refine P.mul_str (by decide) (fun _ h=>by simp at h) (fun _ h=>by simp at h) ?_;exact⟨.str _,H,I,⟨_,rfl⟩,q⟩
theorem aKy(hu:X.A.units+64<qi):OpR X (lh .Eq) (fun x y H Q=>∃(a b:Addr) (xs:List V),x=.ref a/\y=.ref b/\SqL X.K H a xs/\SqL X.K H b []/\Q (.bl xs.isEmpty) H):=by
 intro pins s σ H x y v u Q I rx ry h;obtain⟨a,b,xs,rfl,rfl,ha,hb,q⟩:=h;cases rx;cases ry;obtain⟨i1,r1,p1,_⟩:=I.list ha;obtain⟨i2,r2,p2,_⟩:=I.list hb;cases r2;cases xs with
 |nil =>
  cases r1;refine SeqAt.eq_listAt (e:=fun _=>true) p1.isList p2.isList rfl (by omega) (fun j h1 _=>absurd h1 (uv _)) ?_;exact⟨.bl true,H,I,rfl,q⟩
 |cons z zs =>
  cases r1 with
  |cons rz rt =>
   refine SeqAt.eq_list_lengthsAt p1.isList p2.isList (by simp) (by omega) ?_;exact⟨.bl false,H,I,rfl,q⟩
end
def aFs (J:It) (k:Nat) (js:List Nat) (g:TG) (tc:TT) (tk tv:TE) (σ:St) (Q:VK) (H1:Hp):Prop:=∀D,H1 D=none →
 ∃W:Nat->Nat->St->List (Key×V)->Hp->Prop,(∃m,W 0 m (fA k js σ) [] (upd H1 D (.dK [])))/\∀i m σ' kvs H',W i m σ' kvs H' →
  (J.stop i H'/\Q (.ref D) H') ∨
  (J.go i H'/\∃N:St->List (Key×V)->Hp->Prop,(∀σ' ys H',N σ' ys H'->∃m',m'<m/\W (i+1) m' σ' ys H') ∧
   ∀x H2,J.yld i H' x H2->g x σ' H2 fun σ3 H3=>tc σ3 H3 fun b H4=>if b=true then tk σ3 H4 fun y H5=>tv σ3 H5 fun v H6=>∃key,y=kV key/\H6 D=some (.dK kvs)/\kvs.length<τ/\N σ3 (putK kvs key v) (upd H6 D (.dK (putK kvs key v))) else N σ3 kvs H4)
def aRb (wi:TI) (k:Nat) (js:List Nat) (g:TG) (tc:TT) (tk tv:TE):TE:=fun σ H Q=>wi σ H fun J H1=>aFs J k js g tc tk tv σ Q H1
section
variable {prog:lu}{w:my}{A:mj}{R:Result->χ->Prop}{s:χ}
theorem rM{iter:Expr}(I:Nat->χ->Prop)
  (turn:∀n s,I n s->iz (jj prog w) A (pyNext it) (fun r s₁=>match r with
   |none=>R (.ok .next) s₁
   |some v=>iz (jj prog w) A (ul target it v) (fun _ s₀=>iz (jj prog w) A (assign target env v) (fun _ s₂ =>
     iz (jj prog w) A (forIn ifs true fun c r=>if r=true then do let ok ←isTrue c env (eval c env);pure (sm ok) else pure (sm r)) (fun ok s₃ =>
      if ok=true then iz (jj prog w) A (eval kx env) (fun kv s₄=>iz (jj prog w) A (eval vx env) (fun vv s₅ =>
       iz (jj prog w) A (dictSet D kv vv) (fun _ s₆=>∃m,m<n/\I m s₆) (fun _ _=>False) s₅) (fun _ _=>False) s₄) (fun _ _=>False) s₃
      else ∃m,m<n/\I m s₃) (fun _ _=>False) s₂) (fun _ _=>False) s₀) (fun _ _=>False) s₁) (fun _ _=>False) s)
  (n:Nat)(h:I n s):codeAny (jj prog w) A (.compLoop (.DictComp kx vx [⟨target,iter,ifs,0⟩] scope pos) 0 it (.ref D) env) R s:=by
 refine codeAny_loop rfl I (fun n s hI=>?_) n h;show iz _ A ((compTurn (.DictComp kx vx [⟨target,iter,ifs,0⟩] scope pos) 0 it (.ref D) env).onRaise (fun x=>do noteFrame x env;theTreesLotGoes x)) _ _ s;refine wpAny_noted ?_;rw[compTurn_dict];refine ψ (wpAny_standAt (ψ (mh (turn n s hI) (fun r s₁ h₁=>?_) fun _ _ z=>ke z)));cases r with
 |none=>exact io h₁
 |some v =>
  refine ψ (mh h₁ (fun _ s₀ h₀=>?_) fun _ _ z=>ke z);refine ψ (mh h₀ (fun _ s₂ h₂=>ψ (mh h₂ (fun ok s₃ h₃=>?_) fun _ _ z=>ke z)) fun _ _ z=>ke z);cases ok with
  |false=>exact io ⟨rfl,h₃⟩
  |true =>
   exact ψ (ψ (mh h₃ (fun kv s₄ h₄=>ψ (qf (mh h₄ (fun vv s₅ h₅=>ψ (wpAny_standAt (qf (mh h₅ (fun _ s₆ h₆=>io ⟨rfl,h₆⟩) fun _ _ z=>ke z)))) fun _ _ z=>ke z))) fun _ _ z=>ke z))
end
section
variable {X:Cx}{elt tg iter:Expr}{ifs:List Expr}{scope:Scope}{cl:List (Str×Addr)}{ts ys:List Str}{js:List Nat}{pos:Pos}{wi:TI}{g:TG}{tc:TT}{te:TE}
theorem aHx{s4:χ}{fp:List Addr}(I2:Inv X pins σ H2 s2)(f2:∀b∈fp,iA X pins H2 b)
  (I4:Inv (X.comp scope cl N s2 H2 fp C) pins' σ' H3 s4)(hC:s2.heap.objs.size<=C)(hs':sf C s4.heap h'):Inv X pins σ H3 { s4 with heap:=h' }:=by
 have ext:=hs'.extBut;have neC:∀b o,s2.heap.get? b=some o->b≠C:=fun b o e=>ji (ω (ik e) hC);have hok:HOk X.prog X.w H3 h':=HOk.but (C:=C) I4.hok I4.free fun b o hb e=>ext b o hb e;have B:Un (frs X.stack) fp H2 H3 s2.heap s4.heap:=I4.base;have u:Un (frs X.stack) fp H2 H3 s2.heap h':=by
  refine⟨fun b o e q hb hx=>ext b o (neC b o e) (B.keep b o e q hb hx),fun b o e q hb hx=>?_,B.free,fun b o e hx=>?_,B.tups,B.frzs,B.tbls⟩
  ·obtain⟨sl,e1⟩:=B.slot b o e q hb hx;exact⟨sl,ext b _ (neC b o e) e1⟩
  ·obtain⟨o',e1⟩:=B.there b o e hx;exact⟨o',ext b _ (neC b o e) e1⟩
 have os:s4.os=s2.os:=I4.os;have gb:=I4.bare;obtain⟨hh,gg,dd,tt,os'⟩:=s4;obtain rfl:os'=s2.os:=os;have fin:=I2.call (h':=h') (g':=gg) (d':=dd) (t':=tt) (ch:=fp) u hok gb fun b hb=>⟨(f2 b hb).2.2.2.1,(f2 b hb).2.1,(f2 b hb).2.2.2.2.1,(f2 b hb).2.2.2.2.2⟩;exact fin
theorem aCs(ts ys:List Str)(js:List Nat)(hc:X.calm=true)(hi:PI X tg iter wi)(hclos:closureFor scope X.env=pure cl)(hsub:iH X.env cl)(hcap:rL X scope cl ys js)
  (hg:∀s H fp C,PG (X.comp scope cl (ts++ys) s H fp C) tg g)(ht:∀s H fp C,PIf (X.comp scope cl (ts++ys) s H fp C) ifs tc)(hek:∀s H fp C,PE (X.comp scope cl (ts++ys) s H fp C) kx tk)(hev:∀s H fp C,PE (X.comp scope cl (ts++ys) s H fp C) vx tv)
  (hkind:scope.kind=.function:=by rfl)(hcell:(scope.names.all fun y=>y.2 != .cell)=true:=by rfl)
  (hnames:(scope.names.all fun y=>y.2 != .local||scope.names.lookup y.1 == some .local)=true:=by rfl)
  (hhas:((relabel scope X.env).names.all fun p=>(p.2 != .cell&&p.2 != .free)||(cl.lookup p.1).isSome)=true:=by rfl)
  (hs:∀x,foldedSetIterable iter X.env x=pure x:=by intro _;rfl):PE X (.DictComp kx vx [⟨tg,iter,ifs,0⟩] scope pos) (aRb wi ts.length js g tc tk tv):=by
 intro pins s σ H Q I h;have hcell':∀y∈scope.names,y.2≠.cell:=fun y hy z=>by
  have:=jm.mp hcell y hy;rw[z]at this;exact absurd this (by decide)
 have hnames':∀y∈scope.names,y.2=.local->scope.names.lookup y.1=some .local:=fun y hy z=>by
  have:=jm.mp hnames y hy;rw[z]at this;simpa using this
 have hhas':∀x,((relabel scope X.env).names.lookup x=some .cell\/(relabel scope X.env).names.lookup x=some .free)->∃c,cl.lookup x=some c:=fun x hx=>by
  rcases hx with hx|hx
  ·have:=jm.mp hhas _ (lw hx);exact oz.mp (by simpa using this)
  ·have:=jm.mp hhas _ (lw hx);exact oz.mp (by simpa using this)
 rw[arm_eval_DictComp];refine wpAny_comprehension_free (use:=none) rfl hs hclos hkind hnames' (thn (hi pins s σ H _ I h) fun v s1 h1=>thn h1 fun itv s2 h2=>?_);obtain⟨it,fp,tn,J,H2,e,I2,T,st2,f2,hD⟩:=h2;subst e;have fl:∀b∈fp,b<s2.heap.objs.size:=fun b hb=>by
  obtain⟨o,e,_⟩:=T.obj _ _ st2 b hb;exact ik e
 refine qr (wpAny_newFunctionEnv hcell' (by intro y hy;simp at hy) (fun h₁ hns₁ hsb₁=>?_) hkind);dsimp only at hns₁ hsb₁ ⊢;have hn2:H2 s2.heap.objs.size=none:=I2.hok.fresh (ξ _);obtain⟨W,⟨m0,w0⟩,turn⟩:=hD _ hn2;have I2d:Inv X pins σ (upd H2 s2.heap.objs.size (.dK [])) { s2 with heap:=s2.heap.push { cls:=.type "dict",data:=.dict #[] } } :=
  I2.laid (a:=s2.heap.objs.size) (o:=.dK []) (h':=s2.heap.push { cls:=.type "dict",data:=.dict #[] }) (t':=s2.toks) (fun _ _ q=>Θ _ q) (ξ _) (aCd s2.heap I2.big)
 generalize hHH:s2.heap.push { cls:=.type "dict",dict:=none,data:=.dict #[] }=HH at hns₁ hsb₁ I2d ⊢;have hC:HH.objs.size=s2.heap.objs.size+1:=by rw[←hHH,nc.size_push]
 have hlt:s2.heap.objs.size<HH.objs.size:=by rw[hC];exact ub _
 have f2d:∀b∈fp,iA X pins (upd H2 s2.heap.objs.size (.dK [])) b:=fun b hb=>⟨by rw[kF (ji (fl b hb))];exact(f2 b hb).1,(f2 b hb).2⟩;have fld:∀b∈fp,b<HH.objs.size:=fun b hb=>vh (fl b hb) hlt;have old:∀b o,HH.get? b=some o->h₁.get? b=some o:=fun b o e=>hsb₁.extBut b o (ji (ik e)) (Θ _ e);have I':Inv (X.comp scope cl (ts++ys) { s2 with heap:=HH } (upd H2 s2.heap.objs.size (.dK [])) fp HH.objs.size) [] (fA ts.length js σ) (upd H2 s2.heap.objs.size (.dK [])) { s2 with heap:=h₁,toks:=s2.toks+([]:List (Str×Value)).length } :=
  aAx (s:={ s2 with heap:=HH }) I2d hsub hcap hkind hhas' f2d fld (ξ _) hns₁ old
 have stat:∀{H':Hp},(∀b∈fp,H' b=none)->∀b∈fp,iA (X.comp scope cl (ts++ys) { s2 with heap:=HH } (upd H2 s2.heap.objs.size (.dK [])) fp HH.objs.size) [] H' b:=fun {H'} hn b hb =>
  ⟨hn b hb,ji (fld b hb),I'.ok.exfs b hb,.inl hb,(I'.ok.exf b hb).2,fun p hq=>absurd (show p∈([]:List (Addr×Obj)) from by simpa using hq) (by simp)⟩
 have tn1:tn 0 h₁:=T.keep _ _ _ st2 fun b _ o e=>old b o (hHH ▸ Θ _ e);have loop:∀s₃ : χ,s₃ = { s2 with heap:=h₁,toks:=s2.toks+([]:List (Str×Value)).length } →
   codeAny (jj X.prog X.w) X.A (.compLoop (.DictComp kx vx [⟨tg,iter,ifs,0⟩] scope pos) 0 (.ref it) (.ref s2.heap.objs.size) (compEnvC scope cl HH.objs.size X.env))
    (compPost (jj X.prog X.w) X.A X.xe none (EP X pins σ Q) (.ref s2.heap.objs.size) HH.objs.size) s₃:=by
  rintro s₃ rfl;refine rM (fun n s'=>∃i σ' kvs H',Inv (X.comp scope cl (ts++ys) { s2 with heap:=HH } (upd H2 s2.heap.objs.size (.dK [])) fp HH.objs.size) [] σ' H' s'/\tn i s'.heap/\(∀b∈fp,H' b=none)/\W i n σ' kvs H') ?_ m0 ⟨0,_,[],_,I',tn1,fun b hb=>(f2d b hb).1,w0⟩;rintro n s3 ⟨i,σ3,kvs,H3,I3,st3,fr3,w3⟩;rcases turn i n σ3 kvs H3 w3 with⟨stop,qn⟩|⟨go,N,hN,step⟩
  ·refine thn (T.done (X.comp scope cl (ts++ys) { s2 with heap:=HH } (upd H2 s2.heap.objs.size (.dK [])) fp HH.objs.size) rfl rfl rfl hc i _ s3 σ3 H3 (fun _ _=>False) I3 (stat fr3) st3 stop) fun r s4 zq=>?_;obtain⟨hr,I4⟩:=zq;subst hr;obtain⟨m,hn,_⟩:=I4.loc;exact⟨m,hn,fun h' hs'=>⟨.ref s2.heap.objs.size,_,aHx (s2:={ s2 with heap:=HH }) I2d f2d I4 (ξ _) hs',rfl,qn⟩⟩
  ·refine thn (T.item (X.comp scope cl (ts++ys) { s2 with heap:=HH } (upd H2 s2.heap.objs.size (.dK [])) fp HH.objs.size) rfl rfl rfl hc i _ s3 σ3 H3 (fun _ _=>False) I3 (stat fr3) st3 go) fun r s4 zq=>?_;obtain⟨u,hr,h4⟩:=zq;subst hr;refine thn h4 fun _ s5 zq=>?_;obtain⟨x,H5,I5,r5,y5,st5,fr5⟩:=zq;have I5':=I5.pinned (stat fr5) (T.obj _ _ st5);refine thn (hg _ _ _ _ _ s5 σ3 H5 x u _ I5' r5 (step x H5 y5)) fun _ s6 zq=>?_;obtain⟨σ6,H6,I6,q6⟩:=zq;refine thn (ht _ _ _ _ _ s6 σ6 H6 _ I6 q6) fun b s7 zq=>?_;obtain⟨H7,I7,q7⟩:=zq;have facts:∀{σ':St}{H':Hp}{s':χ},Inv (X.comp scope cl (ts++ys) { s2 with heap:=HH } (upd H2 s2.heap.objs.size (.dK [])) fp HH.objs.size) ([]++cU fp s5.heap) σ' H' s'->tn (i+1) s'.heap/\(∀b∈fp,H' b=none):=fun {σ' H' s'} J=>by
    refine⟨T.keep _ _ _ st5 fun b hb o e=>(J.pin (b,o) (ia _ (ia _ (yD hb e)))).1,fun b hb=>?_⟩;obtain⟨o,e,d⟩:=T.obj _ _ st5 b hb;exact(J.pin (b,o) (ia _ (ia _ (yD hb e)))).2.1
   have bare:∀{σ':St}{H':Hp}{s':χ},Inv (X.comp scope cl (ts++ys) { s2 with heap:=HH } (upd H2 s2.heap.objs.size (.dK [])) fp HH.objs.size) ([]++cU fp s5.heap) σ' H' s'->Inv (X.comp scope cl (ts++ys) { s2 with heap:=HH } (upd H2 s2.heap.objs.size (.dK [])) fp HH.objs.size) [] σ' H' s':=fun J=>J.pins_of fun p hp=>absurd hp (by simp);cases b with
   |false =>
    have q7':N σ6 kvs H7:=by simpa using q7
    obtain⟨m',hm,w7⟩:=hN _ _ _ q7';obtain⟨a3,a4⟩:=facts I7;show ∃m,m<n/\_;exact⟨m',hm,i+1,σ6,kvs,H7,bare I7,a3,a4,w7⟩
   |true =>
    rw[if_pos rfl]at q7;show iz _ _ (eval kx _) _ _ s7;refine thn (hek _ _ _ _ _ s7 σ6 H7 _ I7 q7) fun kv s8 zq=>?_;obtain⟨y,H8,I8,r8,q8⟩:=zq;refine thn (hev _ _ _ _ _ s8 σ6 H8 _ I8 q8) fun vv s9 zq=>?_;obtain⟨v,H9,I9,r9,key,ek,eD,hl,n9⟩:=zq;subst ek;obtain⟨m',hm,w9⟩:=hN _ _ _ n9;obtain⟨a3,a4⟩:=facts I9;have I9':=bare I9;obtain⟨z,hd,vs,rel,dd⟩:=mL I9'.hok eD;have hz:vs.length<=τ:=by rw[←rel.length];exact z
    have hlp:(putK kvs key v).length<=τ:=by have:=dC kvs key v;omega
    refine wpAny_dictSet_pairs (hsz:=hz) (sP r8) dd fun h' dd' hs=>?_;have he:∃q,h'.get? s2.heap.objs.size=some q:=let ⟨q,_,_,hq,_⟩:=dd'; ⟨q,hq⟩;exact⟨m',hm,i+1,σ6,putK kvs key v,_,uO I9' (by rw[eD];exact ju) hs he (aAd hlp hd (rel.put key r9) dd'),T.keep _ _ _ a3 fun b hb o e=>(hs.2 b (ji (fl b hb))).trans e,fun b hb=>by rw[kF (ji (fl b hb))];exact a4 b hb,w9⟩
 exact codeAny_compStart_dict (loop _ rfl) (T.self _ 0 _ _ _ tn1 (loop _ rfl))
end
def lN (P:Nat->List (Key×V)->Hp->Prop) (i:Nat) (js:List Nat) (σ:St):St->List (Key×V)->Hp->Prop:=fun σ' ys H=>P (i+1) ys H/\∃o,σ'=o::vK js σ
theorem aFd{K:ς}{xs:List V}{k:Nat}{tc:TT}{tk tv:TE}{Q:VK}{H1:Hp}(P:Addr->Nat->List (Key×V)->Hp->Prop)(h0:∀D,H1 D=none->P D 0 [] (upd H1 D (.dK [])))(hl:∀D i ys H,i<=xs.length->P D i ys H->SqL K H a xs)
  (hs:∀D i x ys H,xs[i]?=some x->P D i ys H->tc (some x::vK js σ) H fun b H2=>if b=true then tk (some x::vK js σ) H2 fun y H3=>tv (some x::vK js σ) H3 fun v H4=>∃key,y=kV key/\H4 D=some (.dK ys)/\ys.length<τ/\lN (P D) i js σ (some x::vK js σ) (putK ys key v) (upd H4 D (.dK (putK ys key v))) else lN (P D) i js σ (some x::vK js σ) ys H2)
  (hd:∀D ys H,P D xs.length ys H->Q (.ref D) H)(hk:k=1:=by rfl):
  aFs (Itl K a) k js (yC 0) tc tk tv σ Q H1:=by
 subst hk;intro D hD;refine⟨fun i m σ' ys H=>m=xs.length-i/\i<=xs.length/\P D i ys H/\∃o,σ'=o::vK js σ,⟨xs.length,by simp,ij _,h0 D hD,none,rfl⟩,?_⟩;rintro i m σ' ys H ⟨rfl,hi,p,o,rfl⟩;have q:=hl D i ys H hi p
 by_cases hlt:i<xs.length
 ·refine .inr ⟨⟨xs,xs[i],q,by simp[hlt]⟩,lN (P D) i js σ,fun σ3 zs H3 z=>⟨xs.length-(i+1),by omega,rfl,hlt,z.1,z.2⟩,fun x H' y=>?_⟩;obtain⟨e,y⟩:=y;subst e;exact hs D i x ys _ (y xs q) p
 ·have e:i=xs.length:=by omega
  subst e;exact .inl ⟨⟨xs,q,ξ _⟩,hd D ys H p⟩
section
variable {X:Cx}{tg:Expr}
def iSeq (K:ς) (tl:TE):TI:=fun σ H R=>tl σ H fun x H1=>∃a,x=.ref a/\(((∃xs,SqL K H1 a xs)/\R (Itl K a) H1)\/((∃xs,SqT K H1 a xs)/\R (Itt K a) H1))
theorem aQx(hl:PE X l tl):PI X tg l (iSeq X.K tl):=by
 intro pins s σ H R I h;refine thn (hl pins s σ H _ I h) fun v s1 zq=>?_;obtain⟨x,H1,I1,r1,q1⟩:=zq;obtain⟨a,e,q1⟩:=q1;subst e;cases r1;rcases q1 with⟨⟨xs,hq⟩,q⟩|⟨⟨xs,hq⟩,q⟩
 ·obtain⟨its,rv,p,hz⟩:=I1.list hq;refine wpAny_pyIter_list p.isList ?_;refine⟨s1.heap.objs.size,[s1.heap.objs.size],_,_,H1,rfl,I1.kept (t':=s1.toks) fun b o e=>Θ _ e,sL a _,⟨_,jb _ rfl,rfl,rfl⟩,fun b hb=>?_,q⟩;have e:b=s1.heap.objs.size:=by simpa using hb
  subst e;exact I1.fpOk (ξ _) (I1.hok.fresh (ξ _))
 ·obtain⟨its,rv,p,hz⟩:=I1.tuple hq;refine wpAny_pyIter_tuple (show s1.heap.IsTuple a its.toArray from p) ?_;refine⟨s1.heap.objs.size,[s1.heap.objs.size],_,_,H1,rfl,I1.kept (t':=s1.toks) fun b o e=>Θ _ e,pR a _,⟨_,jb _ rfl,rfl,rfl⟩,fun b hb=>?_,q⟩;have e:b=s1.heap.objs.size:=by simpa using hb
  subst e;exact I1.fpOk (ξ _) (I1.hok.fresh (ξ _))
theorem iI{K:ς}(hK:X.K=K)(he:PE X e ta)(hb:ug e f X.env (eval e X.env)=eval e X.env):PE X (.Attribute e f pos) (tFld K ta f):=hK ▸ kP he hb
theorem aLw:OpR X (qb .Add) (fun x y H Q=>∃a b xs ys,x=.ref a/\y=.ref b/\SqT X.K H a xs/\SqT X.K H b ys/\ys≠[]/\xs.length+ys.length<=τ ∧
  (xs=[]->Q (.ref b) H)/\(xs≠[]->∀p,H p=none->Q (.ref p) (upd H p (.tup (xs++ys))))):=by
 intro pins s σ H x y v u Q I rx ry h;obtain⟨a,b,xs,ys,rfl,rfl,ha,hb,hx,hz,q1,q2⟩:=h
 by_cases hxs:xs=[]
 ·cases rx;cases ry;obtain⟨its,r1,p1,_⟩:=I.tuple ha;obtain⟨its2,r2,p2,_⟩:=I.tuple hb;have e1:its=[]:=r1.nil_iff.mpr hxs;subst e1;obtain⟨⟨cls,dd,data,sl⟩,ho,hc,n,hd⟩:=id p1;obtain⟨⟨cls2,dd2,data2,sl2⟩,ho2,hc2,n2,hd2⟩:=id p2;simp only at hc hd hc2 hd2;subst hc hd hc2 hd2;exact concat_meets ⟨_,ho,rfl⟩ ⟨_,ho2,rfl⟩ noFill_tuple_add seq_tuple_add vd vb (ui _ _)
   (tuple_addW0 a b _ _ n n2 dd dd2 sl sl2 rfl) ⟨ho,ho2,.ref b,H,I,rfl,q1 hxs⟩
 ·exact aNg pins s σ H _ _ v u Q I rx ry ⟨a,b,xs,ys,rfl,rfl,ha,hb,hxs,hz,fun z=>absurd z hx,fun _=>q2 hxs⟩
end
theorem aHs{X:Cx}{i:Nat}(hN:X.N.Nodup)(hi:X.N[i]?=some x)(hx:Loc X.env.scope x)(he:PEx X (.List es p1) te)(hf:X.fn x=true:=by rfl):
  aFj X (.Assign [.Name x pos'] (.List es p1) pos) (aJk te (yC i)):=⟨aEt hN hi hx he.h rfl (.inl hf)⟩
theorem joinC(b:Bool){D:Ends}{rest:TS}{c:TT}{t u:TS}{H:Hp}(hk:if b=true then t { D with nx:=rest D } σ H' else u { D with nx:=rest D } σ H')(h:∀Q:Bool->Hp->Prop,Q b H'->c σ H Q):vH (aKn c t u) rest D σ H:=h _ hk
theorem aNh : SlR X (fun x lo hi H Q=>∃z,x=.str z/\z.length<=τ/\Q (.str (Txt.slice z lo hi)) H):=by
 intro pins s σ H x v vl vu lo hi sl Q I rx hs pl pu h;obtain⟨z,rfl,hz,q⟩:=h;obtain⟨t,rfl⟩:=rx;refine⟨"str",_,F.slot_str_getitem.lookup,typeIs_str _ _ _,?_⟩;have fin:∀(a b:Option Int),Q (.str (Txt.slice z a b)) H->∀t' k,EP X pins σ Q (.str (Txt.slice z a b) t') { s with toks:=k }:=fun a b q t' k=>⟨.str _,H,I.tok _,⟨_,rfl⟩,q⟩;cases pl with
 |none =>
  cases pu with
  |none=>exact rm (l:=none) (u:=none) (st:=none) hs rfl (post_val_or_str ⟨iq (Txt.slice_le z none none) hz,fin none none q⟩)
  |int j tj=>exact rm (l:=none) (u:=some (j,tj)) (st:=none) hs rfl (post_val_or_str ⟨iq (Txt.slice_le z none (some j)) hz,fin none (some j) q⟩)
 |int i ti =>
  cases pu with
  |none=>exact rm (l:=some (i,ti)) (u:=none) (st:=none) hs rfl (post_val_or_str ⟨iq (Txt.slice_le z (some i) none) hz,fin (some i) none q⟩)
  |int j tj=>exact rm (l:=some (i,ti)) (u:=some (j,tj)) (st:=none) hs rfl (post_val_or_str ⟨iq (Txt.slice_le z (some i) (some j)) hz,fin (some i) (some j) q⟩)
theorem aAy : OpR X (qb .Add) (fun x y H Q=>∃a b xs ys,x=.ref a/\y=.ref b/\SqT X.K H a xs/\SqT X.K H b ys/\ys≠[]/\xs.length+ys.length<=τ/\∀p H',jJ H H'->SqT X.K H' p (xs++ys)->Q (.ref p) H'):=by
 intro pins s σ H x y v u Q I rx ry h;obtain⟨a,b,xs,ys,rfl,rfl,ha,hb,hx,hz,q⟩:=h;refine aLw pins s σ H _ _ v u Q I rx ry ⟨a,b,xs,ys,rfl,rfl,ha,hb,hx,hz,fun e=>?_,fun _ p hp=>?_⟩
 ·subst e;exact q b H (fun _ _ z=>z) hb
 ·exact q p _ (fun b o z=>by rw[kF (jS z hp)];exact z) (SqT.of jT)
theorem zH{K:ς}{xs:List V}{k:Nat}{g:TG}{tc:TT}{te:TE}{Q:VK}(P:Nat->List V->Hp->Prop)(h0:P 0 [] H1)(hl:∀i ys H,i<=xs.length->P i ys H->SqT K H a xs/\ys.length<=i)(hz:xs.length<τ)
  (hs:∀i x ys H (os:St),os.length=k->xs[i]?=some x->P i ys H->g x (os++vK js σ) H fun σ3 H3=>tc σ3 H3 fun b H2=>if b=true then te σ3 H2 fun v H3=>aGd P i k js σ σ3 (ys++[v]) H3 else aGd P i k js σ σ3 ys H2)
  (hd:∀ys H,P xs.length ys H->∀p,H p=none->Q (.ref p) (upd H p (.lst ys))):
  iK (Itt K a) k js g tc te σ Q H1:=by
 refine eV P (fun σ'=>∃os:St,os.length=k/\σ'=os++vK js σ) ⟨kc k none,nu,rfl⟩ h0 hz (fun i ys H h p=>(hl i ys H h p).2) (fun i ys H h p=>⟨xs,xs[i],(hl i ys H (kq h) p).1,ζ h⟩) (fun ys H p=>⟨⟨xs,(hl _ ys H (ξ _) p).1,ξ _⟩,fun l n _=>hd ys H p l n⟩) fun i ys σ' H h p r x H' y=>?_;obtain⟨os,ho,rfl⟩:=r;have q:=(hl i ys H (kq h) p).1;obtain⟨rfl,y⟩:=y;exact hs i x ys _ os ho (y xs q) p
end L2
namespace L2
open PySem
inductive Kd where
 |num (w:Nat)
 |nest (i:Nat)
 |many (n:Nat) (k:Kd)
 |pick (is:List Nat)
abbrev Shp:=Str×List (Str×Kd)
abbrev Un3:=Str×Nat×Str
def vW:List Nat->Nat
 |[]=>0
 |x::xs=>max x (vW xs)
theorem iJ{n:Nat}: ∀{xs:List Nat},n∈xs->n<=vW xs
 |x::xs,h=>by
  rcases Ξ.mp h with rfl|h
  ·exact Nat.le_max_left _ _
  ·exact iq (iJ h) (Nat.le_max_right _ _)
theorem aBj:∀{xs:List Nat},xs≠[]->vW xs∈xs
 |[],h=>absurd rfl h
 |[x],_=>by show max x 0∈[x];rw[Nat.max_zero];exact ο.mpr rfl
 |x::y::xs,_=>by
  have ih:=aBj (xs:=y::xs) (by simp);show max x (vW (y::xs))∈_
  by_cases h:x<=vW (y::xs)
  ·rw[Nat.max_eq_right h];exact Ψ _ ih
  ·rw[Nat.max_eq_left (by omega)];exact Δ ..
theorem aOs{m:Nat}{xs:List Nat}(h1:m∈xs)(h2:∀n∈xs,n<=m):m=vW xs :=
 Nat.le_antisymm (iJ h1) (h2 _ (aBj fun z=>by rw[z]at h1;cases h1))
def Kd.size (sz:List Nat):Kd->Nat
 |.num w=>w
 |.nest i=>sz.getD i 0
 |.many n k=>n*k.size sz
 |.pick is=>1+vW (is.map fun i=>sz.getD i 0)
def Kd.depth (dp:List Nat):Kd->Nat
 |.num _=>0
 |.nest i=>dp.getD i 0
 |.many _ k=>k.depth dp
 |.pick is=>vW (is.map fun i=>dp.getD i 0)
def pj (p x:Str):Str:=if p.length=0 then x else p++η "." ++ x
def Kd.units (sz:List Nat) (ut:List (Str->List Un3)):Kd->Str->List Un3
 |.num w,p=>[(p,w,η "num")]
 |.nest i,p=>(ut.getD i fun _=>[]) p
 |.many n k,p=>(ir n).flatMap fun j=>k.units sz ut (pj p (η (toString j)))
 |.pick is,p=>[(pj p (η "tag"),1,η "tag"),(p,vW (is.map fun i=>sz.getD i 0),η "pick")]
structure Tab where
 sz:List Nat
 dp:List Nat
 ut:List (Str->List Un3)
def Tab.more (t:Tab) (s:Shp):Tab:=⟨t.sz++[(s.2.map fun f=>f.2.size t.sz).sum],t.dp++[1+vW (s.2.map fun f=>f.2.depth t.dp)],t.ut++[fun p=>s.2.flatMap fun f=>f.2.units t.sz t.ut (pj p f.1)]⟩
def tabs (S:List Shp):Tab:=S.foldl Tab.more ⟨[],[],[]⟩
theorem aIh(S:List Shp)(s:Shp):tabs (S++[s])=(tabs S).more s:=by unfold tabs;rw[List.foldl_append];rfl
def Tab.Ok (t:Tab):Prop:=t.ut.length=t.sz.length/\∀i p,(((t.ut.getD i fun _=>[]) p).map (·.2.1)).sum=t.sz.getD i 0
theorem aDb(f:Nat->List Un3)(m:Nat)(h:∀j,((f j).map (·.2.1)).sum=m):∀n,((((ir n).flatMap f)).map (·.2.1)).sum=n*m
 |0=>by simp
 |n+1=>by
  rw[sr,ot,ρ,List.sum_append,aDb f m h n,qc,h n,Nat.succ_mul]
theorem Kd.units_sum{t:Tab}(h:t.Ok):∀(k:Kd) (p:Str),((k.units t.sz t.ut p).map (·.2.1)).sum=k.size t.sz
 |.num w,p=>by simp[Kd.units,Kd.size]
 |.nest i,p=>h.2 i p
 |.many n k,p=>aDb _ _ (fun j=>Kd.units_sum h k _) n
 |.pick is,p=>by simp[Kd.units,Kd.size]
theorem oN{t:Tab}(h:t.Ok)(p:Str):∀fs:List (Str×Kd),((fs.flatMap fun f=>f.2.units t.sz t.ut (pj p f.1)).map (·.2.1)).sum=(fs.map fun f=>f.2.size t.sz).sum
 |[]=>rfl
 |f::fs=>by
  rw[vi,ρ,List.sum_append,Kd.units_sum h,oN h p fs,ki,sv]
theorem Tab.Ok.more{t:Tab}(h:t.Ok)(s:Shp):(t.more s).Ok:=by
 refine⟨by show(t.ut++[_]).length=(t.sz++[_]).length;rw[ν,ν,h.1];rfl,fun i p=>?_⟩;show((((t.ut++[_]).getD i fun _=>[]) p).map (fun u:Un3=>u.2.1)).sum=(t.sz++[_]).getD i 0;rw[Ω,Ω]
 by_cases hi:i<t.ut.length
 ·rw[ii hi,ii (by rw[←h.1];exact hi)];have:=h.2 i p;rw[Ω,Ω]at this;exact this
 ·rw[ic (by omega),ic (by rw[←h.1];omega),←h.1]
  by_cases e:i-t.ut.length=0
  ·rw[e];exact oN h p s.2
  ·obtain⟨n,hn⟩ : ∃n,i-t.ut.length=n+1:=⟨i-t.ut.length-1,by omega⟩;rw[hn];rfl
def Kd.Below (n:Nat):Kd->Prop
 |.num _=>True
 |.nest i=>i<n
 |.many _ k=>k.Below n
 |.pick is=>∀i∈is,i<n
theorem zT{α : Type}{xs ys:List α}{d : α}{i:Nat}(h:i<xs.length):(xs++ys).getD i d=xs.getD i d:=by
 rw[Ω,Ω,ii h]
theorem Kd.Below.mono{n m:Nat}(h:n<=m):∀{k:Kd},k.Below n->k.Below m
 |.num _,_=>ju
 |.nest i,q=>ω (show i<n from q) h
 |.many _ k,q=>Kd.Below.mono (k:=k) h q
 |.pick is,q=>fun i hi=>ω (q i hi) h
theorem wH{xs ys is:List Nat}(h:∀i∈is,i<xs.length):(is.map fun i=>(xs++ys).getD i 0)=is.map fun i=>xs.getD i 0 :=
 rh fun i hi=>zT (h i hi)
theorem Kd.size_app{sz more:List Nat}: ∀{k:Kd},k.Below sz.length->k.size (sz++more)=k.size sz
 |.num _,_=>rfl
 |.nest i,q=>zT q
 |.many n k,q=>by show n*_=n*_;rw[Kd.size_app (k:=k) q]
 |.pick is,q=>by show 1+vW _=1+vW _;rw[wH q]
theorem Kd.depth_app{dp more:List Nat}: ∀{k:Kd},k.Below dp.length->k.depth (dp++more)=k.depth dp
 |.num _,_=>rfl
 |.nest i,q=>zT q
 |.many n k,q=>Kd.depth_app (k:=k) q
 |.pick is,q=>by show vW _=vW _;rw[wH q]
theorem Kd.units_app{sz more:List Nat}{ut um:List (Str->List Un3)}(e:ut.length=sz.length):∀{k:Kd},k.Below sz.length->∀p,k.units (sz++more) (ut++um) p=k.units sz ut p
 |.num _,_,_=>rfl
 |.nest i,q,p=>by show((ut++um).getD i _) p=(ut.getD i _) p;rw[zT (by rw[e];exact q)]
 |.many n k,q,p=>by
  show(ir n).flatMap _=(ir n).flatMap _
  congr 1
  funext j
  exact Kd.units_app e (k:=k) q _
 |.pick is,q,p=>by
  show[_,(p,vW _,_)]=[_,(p,vW _,_)];rw[wH q]
theorem bF:∀S:List Shp,(tabs S).sz.length=S.length/\(tabs S).dp.length=S.length/\(tabs S).ut.length=S.length:=fun S=>by
 have:∀(S:List Shp) (t:Tab) (n:Nat),(t.sz.length=n/\t.dp.length=n/\t.ut.length=n)->((S.foldl Tab.more t).sz.length=n+S.length/\(S.foldl Tab.more t).dp.length=n+S.length/\(S.foldl Tab.more t).ut.length=n+S.length):=by
  intro S
  induction S with
  |nil=>intro t n h;exact h
  |cons s S ih =>
   intro t n h;have:=ih (t.more s) (n+1) ⟨by show(t.sz++[_]).length=_;rw[ν,h.1];rfl,by show(t.dp++[_]).length=_;rw[ν,h.2.1];rfl,by show(t.ut++[_]).length=_;rw[ν,h.2.2];rfl⟩;rw[Γ,show n+(S.length+1)=n+1+S.length by omega];exact this
 have h:=this S ⟨[],[],[]⟩ 0 ⟨rfl,rfl,rfl⟩;rw[Nat.zero_add]at h;exact h
theorem aAu(S:List Shp):∀R:List Shp,∃a b c,(tabs (S++R)).sz=(tabs S).sz++a/\(tabs (S++R)).dp=(tabs S).dp++b/\(tabs (S++R)).ut=(tabs S).ut++c:=fun R=>by
 have:∀(R:List Shp) (t:Tab),∃a b c,(R.foldl Tab.more t).sz=t.sz++a/\(R.foldl Tab.more t).dp=t.dp++b/\(R.foldl Tab.more t).ut=t.ut++c:=by
  intro R
  induction R with
  |nil=>intro t;exact⟨[],[],[],by simp,by simp,by simp⟩
  |cons s R ih =>
   intro t;obtain⟨a,b,c,h1,h2,h3⟩:=ih (t.more s);exact⟨[_]++a,[_]++b,[_]++c,h1.trans (jr _ _ _),h2.trans (jr _ _ _),h3.trans (jr _ _ _)⟩
 unfold tabs;rw[List.foldl_append];exact this R _
structure Cl5 where
 num:Addr
 nest:Addr
 many:Addr
 pick:Addr
 shape:Addr
inductive KO (c:Cl5) (K:ς) (H:Hp) (sa:List Addr):Addr->Kd->Prop
 |num {a dx:Addr}{w:Nat} : H a=some (.ins c.num dx [("width",.int w)])->KO c K H sa a (.num w)
 |nest {a dx s:Addr}{i:Nat} : sa[i]?=some s->H a=some (.ins c.nest dx [("shape",.ref s)])->KO c K H sa a (.nest i)
 |many {a dx b:Addr}{n:Nat}{k:Kd} : H a=some (.ins c.many dx [("count",.int n),("kind",.ref b)])->KO c K H sa b k->KO c K H sa a (.many n k)
 |pick {a dx t:Addr}{is:List Nat}{ss:List Addr} : H a=some (.ins c.pick dx [("shapes",.ref t)])->SqT K H t (ss.map V.ref)->ss.length=is.length->(∀(j i:Nat) (s:Addr),is[j]?=some i->ss[j]?=some s->sa[i]?=some s)->KO c K H sa a (.pick is)
theorem KO.same{K:ς}(h:KO c K H sa a k)(g:jJ H H'):KO c K H' sa a k:=by
 induction h with
 |num h=>exact .num (g _ _ h)
 |nest e h=>exact .nest e (g _ _ h)
 |many h _ ih=>exact .many (g _ _ h) ih
 |pick h t l e=>exact .pick (g _ _ h) (g.tp t) l e
theorem wK{sa more:List Addr}{i:Nat}(h:sa[i]?=some s):(sa++more)[i]?=some s:=by
 rw[ii (ε.mp h).1];exact h
theorem KO.more{K:ς}(h:KO c K H sa a k)(more:List Addr):KO c K H (sa++more) a k:=by
 induction h with
 |num h=>exact .num h
 |nest e h=>exact .nest (wK e) h
 |many h _ ih=>exact .many h ih
 |pick h t l e=>exact .pick h t l fun j i s h1 h2=>wK (e j i s h1 h2)
theorem KO.ahead{K:ς}(h:KO c K H sa a k):k.Below sa.length:=by
 induction h with
 |num h=>exact ju
 |nest e h=>exact(ε.mp e).1
 |many h _ ih=>exact ih
 | @pick a dx t is ss h t' l e =>
  intro i hi;obtain⟨j,hj⟩:=jd.mp hi;have hj1:j<is.length:=(ε.mp hj).1;exact(ε.mp (e j i _ hj (ζ (by omega)))).1
inductive FO (c:Cl5) (K:ς) (H:Hp) (sa:List Addr):List Addr->List (Str×Kd)->Prop
 |nil:FO c K H sa [] []
 |cons {p k:Addr}{ps:List Addr}{nm:Str}{kd:Kd}{fs:List (Str×Kd)} : SqT K H p [.str nm,.ref k]->KO c K H sa k kd->FO c K H sa ps fs->FO c K H sa (p::ps) ((nm,kd)::fs)
theorem FO.same{K:ς}(h:FO c K H sa ps fs)(g:jJ H H'):FO c K H' sa ps fs:=by
 induction h with
 |nil=>exact .nil
 |cons t k _ ih=>exact .cons (g.tp t) (k.same g) ih
theorem FO.len{K:ς}(h:FO c K H sa ps fs):ps.length=fs.length:=by
 induction h with
 |nil=>rfl
 |cons _ _ _ ih=>rw[Γ,Γ,ih]
theorem FO.snoc{K:ς}(h:FO c K H sa ps fs)(t:SqT K H p [.str nm,.ref k])(hk:KO c K H sa k kd):FO c K H sa (ps++[p]) (fs++[(nm,kd)]):=by
 induction h with
 |nil=>exact .cons t hk .nil
 |cons t' k' _ ih=>exact .cons t' k' ih
theorem FO.get{K:ς}(h:FO c K H sa ps fs):∀{i:Nat}{p:Addr},ps[i]?=some p->∃nm kd k,fs[i]?=some (nm,kd)/\SqT K H p [.str nm,.ref k]/\KO c K H sa k kd:=by
 induction h with
 |nil=>intro i p e;simp at e
 |cons t k _ ih =>
  intro i p e;cases i with
  |zero=>cases e;exact⟨_,_,_,rfl,t,k⟩
  |succ i=>exact ih e
def SO (c:Cl5) (K:ς) (H:Hp) (sa:List Addr) (a:Addr) (s:Shp):Prop:=∃dx t ps,H a=some (.ins c.shape dx [("name",.str s.1),("fields",.ref t)])/\SqT K H t (ps.map V.ref)/\FO c K H sa ps s.2
theorem SO.same{K:ς}(h:SO c K H sa a s)(g:jJ H H'):SO c K H' sa a s:=by
 obtain⟨dx,t,ps,h1,h2,h3⟩:=h;exact⟨dx,t,ps,g _ _ h1,g.tp h2,h3.same g⟩
def SW (c:Cl5) (K:ς) (H:Hp) (sa:List Addr) (S:List Shp):Prop:=sa.length=S.length/\∀(i:Nat) (a:Addr) (s:Shp),sa[i]?=some a->S[i]?=some s->SO c K H (sa.take i) a s
theorem SW.same{K:ς}(h:SW c K H sa S)(g:jJ H H'):SW c K H' sa S:=⟨h.1,fun i a s h1 h2=>(h.2 i a s h1 h2).same g⟩
theorem SW.nil{K:ς}: SW c K H [] []:=⟨rfl,fun i a s h _=>by simp at h⟩
theorem SW.snoc{K:ς}(h:SW c K H sa S)(x:SO c K H sa a s):SW c K H (sa++[a]) (S++[s]):=by
 have hl:sa.length=S.length:=h.1;refine⟨by rw[ν,ν,h.1];rfl,fun i b u h1 h2=>?_⟩
 by_cases hi:i<sa.length
 ·rw[ii hi]at h1;rw[ii (by rw[←h.1];exact hi)]at h2;rw[List.take_append_of_le_length (by omega)];exact h.2 i b u h1 h2
 ·have hi2:i<(sa++[a]).length:=(ε.mp h1).1;have e:i=sa.length:=by rw[ν,jt]at hi2;omega
  subst e;rw[ic (ξ _),mr]at h1;rw[ic (by omega),show sa.length-S.length=0 by omega]at h2;cases h1;cases h2;rw[List.take_left' rfl];exact x
inductive LK (K:ς) (H:Hp):Addr->Kd->Prop
 |num {a:Addr}{w:Nat} : SqT K H a [.str (η "num"),.int w]->LK K H a (.num w)
 |nest {a:Addr}{i:Nat} : SqT K H a [.str (η "shape"),.int i]->LK K H a (.nest i)
 |many {a b:Addr}{n:Nat}{k:Kd} : SqT K H a [.str (η "row"),.int n,.ref b]->LK K H b k->LK K H a (.many n k)
 |pick {a l:Addr}{is:List Nat} : SqT K H a [.str (η "pick"),.ref l]->SqL K H l (is.map fun (i:Nat)=>V.int i)->LK K H a (.pick is)
theorem LK.same{K:ς}(h:LK K H a k)(g:jJ H H'):LK K H' a k:=by
 induction h with
 |num h=>exact .num (g.tp h)
 |nest h=>exact .nest (g.tp h)
 |many h _ ih=>exact .many (g.tp h) ih
 |pick h l=>exact .pick (g.tp h) (g.seq l)
inductive LF (K:ς) (H:Hp):List Addr->List (Str×Kd)->Prop
 |nil:LF K H [] []
 |cons {p k:Addr}{ps:List Addr}{nm:Str}{kd:Kd}{fs:List (Str×Kd)} : SqT K H p [.str nm,.ref k]->LK K H k kd->LF K H ps fs->LF K H (p::ps) ((nm,kd)::fs)
theorem LF.same{K:ς}(h:LF K H ps fs)(g:jJ H H'):LF K H' ps fs:=by
 induction h with
 |nil=>exact .nil
 |cons t k _ ih=>exact .cons (g.tp t) (k.same g) ih
theorem LF.len{K:ς}(h:LF K H ps fs):ps.length=fs.length:=by
 induction h with
 |nil=>rfl
 |cons _ _ _ ih=>rw[Γ,Γ,ih]
theorem LF.snoc{K:ς}(h:LF K H ps fs)(t:SqT K H p [.str nm,.ref k])(hk:LK K H k kd):LF K H (ps++[p]) (fs++[(nm,kd)]):=by
 induction h with
 |nil=>exact .cons t hk .nil
 |cons t' k' _ ih=>exact .cons t' k' ih
theorem LF.get{K:ς}(h:LF K H ps fs):∀{i:Nat}{p:Addr},ps[i]?=some p->∃nm kd k,fs[i]?=some (nm,kd)/\SqT K H p [.str nm,.ref k]/\LK K H k kd:=by
 induction h with
 |nil=>intro i p e;simp at e
 |cons t k _ ih =>
  intro i p e;cases i with
  |zero=>cases e;exact⟨_,_,_,rfl,t,k⟩
  |succ i=>exact ih e
def LS (K:ς) (H:Hp) (a:Addr) (s:Shp):Prop:=∃l ps,SqT K H a [.str s.1,.ref l]/\SqL K H l (ps.map V.ref)/\LF K H ps s.2
theorem LS.same{K:ς}(h:LS K H a s)(g:jJ H H'):LS K H' a s:=by
 obtain⟨l,ps,h1,h2,h3⟩:=h;exact⟨l,ps,g.tp h1,g.seq h2,h3.same g⟩
inductive LW (K:ς) (H:Hp):List Addr->List Shp->Prop
 |nil:LW K H [] []
 |cons {a:Addr}{as:List Addr}{s:Shp}{S:List Shp} : LS K H a s->LW K H as S->LW K H (a::as) (s::S)
theorem LW.same{K:ς}(h:LW K H as S)(g:jJ H H'):LW K H' as S:=by
 induction h with
 |nil=>exact .nil
 |cons t _ ih=>exact .cons (t.same g) ih
theorem LW.len{K:ς}(h:LW K H as S):as.length=S.length:=by
 induction h with
 |nil=>rfl
 |cons _ _ ih=>rw[Γ,Γ,ih]
theorem LW.snoc{K:ς}(h:LW K H as S)(x:LS K H a s):LW K H (as++[a]) (S++[s]):=by
 induction h with
 |nil=>exact .cons x .nil
 |cons t _ ih=>exact .cons t ih
theorem LW.get{K:ς}(h:LW K H as S):∀{i:Nat}{a:Addr},as[i]?=some a->∃s,S[i]?=some s/\LS K H a s:=by
 induction h with
 |nil=>intro i a e;simp at e
 |cons t _ ih =>
  intro i a e;cases i with
  |zero=>cases e;exact⟨_,rfl,t⟩
  |succ i=>exact ih e
abbrev spS:Str:=⟨#[32]⟩
abbrev nlS:Str:=⟨#[10]⟩
def Kd.words (nm:Nat->Str):Kd->List Str
 |.num w=>[η "num",η (toString (w:Int))]
 |.nest i=>[nm i]
 |.many n k=>η "row" :: η (toString (n:Int))::k.words nm
 |.pick is=>η "pick" :: is.map nm
theorem Kd.words_ne(nm:Nat->Str):∀k:Kd,k.words nm≠[]
 |.num _=>by simp[Kd.words]
 |.nest _=>by simp[Kd.words]
 |.many _ _=>by simp[Kd.words]
 |.pick _=>by simp[Kd.words]
def kK (S:List Shp) (i:Nat):Str:=(S.getD i (Str.empty,[])).1
def aGn (nm:Nat->Str) (s:Shp):List (List Str):=[η "shape",s.1]::s.2.map fun f=>f.1::f.2.words nm
def nQ (S:List Shp):List (List Str):=S.flatMap (aGn (kK S))
def Pln (w:Str):Prop:=32∉w.cps.toList/\10∉w.cps.toList
theorem aGw{c d:Nat}(ne:d≠c):∀{ps:List (List Nat)},(∀p∈ps,d∉p)->d∉jn c ps
 |[],_=>by simp[jn]
 |[p],h=>h p (ο.mpr rfl)
 |p::q::r,h=>by
  have ih:=aGw ne (ps:=q::r) fun x hx=>h x (Ψ _ hx);have hp:=h p (Δ ..);show d∉p++c::jn c (q::r);simp only[je,Ξ,not_or];exact⟨hp,ne,ih⟩
theorem aEg{ws:List Str}(hne:ws≠[])(h:∀w∈ws,Pln w):ox (jo spS ws) spS=ws:=oA hne fun w hw=>(h w hw).1
theorem aBq{ls:List (List Str)}(hne:ls≠[])(h:∀l∈ls,∀w∈l,Pln w):ox (jo nlS (ls.map (jo spS))) nlS=ls.map (jo spS):=by
 refine oA (by simpa using hne) fun y hy=>?_;obtain⟨l,hl,rfl⟩:=iw.mp hy;rw[nS];refine aGw (by decide) fun p hp=>?_;obtain⟨w,hw,rfl⟩:=iw.mp hp;exact(h l hl w hw).2
theorem mB{y:Str}{ys:List Str}(h:ys≠[]):jo sep (y::ys)=y++sep++jo sep ys:=by
 cases ys with
 |nil=>exact absurd rfl h
 |cons z zs=>rfl
theorem aGj{n:Nat}(h:n<=9):Pln (η (toString (n:Int))):=by
 have:∀m:Fin 10,Pln (η (toString ((m.val:Nat):Int))):=by
  intro m;unfold Pln;revert m;ac_rfl
 exact this ⟨n,by omega⟩
def Kd.Fit (n:Nat):Kd->Prop
 |.num w=>1<=w/\w<=4
 |.nest i=>i<n
 |.many m k=>1<=m/\m<=6/\((∃w,k=.num w/\1<=w/\w<=4)\/∃i,k=.nest i/\i<n)
 |.pick is=>2<=is.length/\is.length<=4/\is.Nodup/\∀i∈is,i<n
theorem Kd.Fit.below : ∀{k:Kd},k.Fit n->k.Below n
 |.num _,_=>ju
 |.nest _,h=>h
 |.many _ k,h=>by
  rcases h.2.2 with⟨w,rfl,_⟩|⟨i,rfl,hi⟩
  ·exact ju
  ·exact hi
 |.pick _,h=>h.2.2.2
theorem Kd.Fit.plain{n:Nat}{nm:Nat->Str}(hnm:∀i,i<n->Pln (nm i)):∀{k:Kd},k.Fit n->∀w∈k.words nm,Pln w:=by
 have hnum:∀w:Nat,1<=w/\w<=4->∀x∈(Kd.num w).words nm,Pln x:=fun w hw x hx=>by
  simp only[Kd.words,Ξ,kg,or_false]at hx;rcases hx with rfl|rfl
  ·unfold Pln;ac_rfl
  ·exact aGj (by omega)
 intro k h;cases k with
 |num w=>exact hnum w h
 |nest i =>
  intro x hx;rw[ο.mp (show x∈[nm i] from hx)];exact hnm i h
 |many m k =>
  intro x hx;simp only[Kd.words,Ξ]at hx;rcases hx with rfl|rfl|hx
  ·unfold Pln;ac_rfl
  ·exact aGj (by have:=h.2.1;omega)
  ·rcases h.2.2 with⟨w,rfl,hw⟩|⟨i,rfl,hi⟩
   ·exact hnum w hw x hx
   ·rw[ο.mp (show x∈[nm i] from hx)];exact hnm i hi
 |pick is =>
  intro x hx;simp only[Kd.words,Ξ,iw]at hx;rcases hx with rfl|⟨i,hi,rfl⟩
  ·unfold Pln;ac_rfl
  ·exact hnm i (h.2.2.2 i hi)
def Kd.Rk (r:Nat):Kd->Prop
 |.num _=>True
 |.nest i=>2*i+2<=r
 |.many _ k=>(∃w,k=.num w/\1<=r)\/∃i,k=.nest i/\2*i+3<=r
 |.pick is=>∀i∈is,2*i+3<=r
theorem Kd.Fit.rk : ∀{k:Kd},k.Fit n->k.Rk (2*n+1)
 |.num _,_=>ju
 |.nest i,h=>by have:i<n:=h;show 2*i+2<=2*n+1;omega
 |.many m k,h=>by
  rcases h.2.2 with⟨w,e,_⟩|⟨i,e,hi⟩
  ·exact .inl ⟨w,e,by omega⟩
  ·exact .inr ⟨i,e,by omega⟩
 |.pick is,h=>fun i hi=>by have:=h.2.2.2 i hi;omega
theorem Kd.Rk.mono{r q:Nat}(h:r<=q):∀{k:Kd},k.Rk r->k.Rk q
 |.num _,_=>ju
 |.nest i,g=>iq (show 2*i+2<=r from g) h
 |.many m k,g=>by
  rcases g with⟨w,e,hw⟩|⟨i,e,hi⟩
  ·exact .inl ⟨w,e,by omega⟩
  ·exact .inr ⟨i,e,by omega⟩
 |.pick is,g=>fun i hi=>iq (g i hi) h
theorem Kd.Fit.mono{n m:Nat}(h:n<=m):∀{k:Kd},k.Fit n->k.Fit m
 |.num _,g=>g
 |.nest i,g=>ω (show i<n from g) h
 |.many _ k,g=>⟨g.1,g.2.1,by
  rcases g.2.2 with g|⟨i,e,hi⟩
  ·exact .inl g
  ·exact .inr ⟨i,e,by omega⟩⟩
 |.pick is,g=>⟨g.1,g.2.1,g.2.2.1,fun i hi=>ω (g.2.2.2 i hi) h⟩
structure Good (S:List Shp):Prop where
 ne:∀(i:Nat) (s:Shp),S[i]?=some s->s.2≠[]
 few:∀(i:Nat) (s:Shp),S[i]?=some s->s.2.length<=6
 fit:∀(i:Nat) (s:Shp),S[i]?=some s->∀f∈s.2,f.2.Fit i/\1<=f.1.length/\f.1.length<=6
 sz:∀i:Nat,(tabs S).sz.getD i 0<=1000
theorem aBn{α : Type}{S:List α}{i:Nat}{s : α}(h:S[i]?=some s):S=S.take i++s::S.drop (i+1)/\(S.take i).length=i:=by
 obtain⟨hi,e⟩:=ε.mp h;refine⟨?_,by rw[ib];omega⟩
 conv=>lhs;rw[←ky i S]
 rw[jl hi,e]
theorem oY{α : Type}{xs zs:List α}{y d : α}: (xs++y::zs).getD xs.length d=y:=by
 rw[Ω,ic (ξ _),mr];rfl
theorem nP{S R:List Shp}{i:Nat}(h:i<S.length):(tabs (S++R)).sz.getD i 0=(tabs S).sz.getD i 0/\(tabs (S++R)).dp.getD i 0=(tabs S).dp.getD i 0/\((tabs (S++R)).ut.getD i fun _=>[])=(tabs S).ut.getD i fun _=>[]:=by
 obtain⟨a,b,c,e1,e2,e3⟩:=aAu S R;obtain⟨l1,l2,l3⟩:=bF S;rw[e1,e2,e3];exact⟨zT (by omega),zT (by omega),zT (by omega)⟩
theorem cF(S:List Shp)(s:Shp)(R:List Shp):(tabs (S++s::R)).sz.getD S.length 0=(s.2.map fun f=>f.2.size (tabs S).sz).sum/\(tabs (S++s::R)).dp.getD S.length 0=1+vW (s.2.map fun f=>f.2.depth (tabs S).dp)/\∀p,((tabs (S++s::R)).ut.getD S.length fun _=>[]) p=s.2.flatMap fun f=>f.2.units (tabs S).sz (tabs S).ut (pj p f.1):=by
 have e:S++s::R=(S++[s])++R:=by rw[jr];rfl
 obtain⟨h1,h2,h3⟩:=nP (S:=S++[s]) (R:=R) (i:=S.length) (by rw[ν];exact ub _);obtain⟨l1,l2,l3⟩:=bF S;rw[e,h1,h2,h3,aIh];refine⟨?_,?_,fun p=>?_⟩
 ·show((tabs S).sz++[_]).getD _ _=_;rw[←l1,oY]
 ·show((tabs S).dp++[_]).getD _ _=_;rw[←l2,oY]
 ·show((tabs S).ut++[_]).getD _ _ p=_;rw[←l3,oY]
theorem Kd.tab_lo{S R:List Shp}{k:Kd}(h:k.Below S.length):k.size (tabs (S++R)).sz=k.size (tabs S).sz/\k.depth (tabs (S++R)).dp=k.depth (tabs S).dp/\∀p,k.units (tabs (S++R)).sz (tabs (S++R)).ut p=k.units (tabs S).sz (tabs S).ut p:=by
 obtain⟨a,b,c,e1,e2,e3⟩:=aAu S R;obtain⟨l1,l2,l3⟩:=bF S;rw[e1,e2,e3];exact⟨Kd.size_app (by rw[l1];exact h),Kd.depth_app (by rw[l2];exact h),fun p=>Kd.units_app (by omega) (by rw[l1];exact h) p⟩
theorem aDh{α β : Type}{f g : α->List β}: ∀{xs:List α},(∀x∈xs,f x=g x)->xs.flatMap f=xs.flatMap g
 |[],_=>rfl
 |x::xs,h=>by rw[vi,vi,h x (Δ ..),aDh fun y hy=>h y (Ψ _ hy)]
theorem gU{S:List Shp}{i:Nat}(h:S[i]?=some s)(hF:∀f∈s.2,f.2.Below i):(tabs S).sz.getD i 0=(s.2.map fun f=>f.2.size (tabs S).sz).sum/\(tabs S).dp.getD i 0=1+vW (s.2.map fun f=>f.2.depth (tabs S).dp)/\∀p,((tabs S).ut.getD i fun _=>[]) p=s.2.flatMap fun f=>f.2.units (tabs S).sz (tabs S).ut (pj p f.1):=by
 obtain⟨e,hl⟩:=aBn h;generalize S.take i=A at e hl;generalize S.drop (i+1)=B at e;subst e;subst hl;obtain⟨h1,h2,h3⟩:=cF A s B;have q:=fun f hf=>Kd.tab_lo (R:=s::B) (hF f hf);refine⟨?_,?_,fun p=>?_⟩
 ·rw[h1,rh fun f hf=>(q f hf).1]
 ·rw[h2,rh fun f hf=>(q f hf).2.1]
 ·rw[h3 p,aDh fun f hf=>(q f hf).2.2 _]
theorem Kd.units_len{sz:List Nat}{ut:List (Str->List Un3)}{n:Nat}(h:∀i,i<n->1<=sz.getD i 0/\∀p,((ut.getD i fun _=>[]) p).length<=sz.getD i 0):∀{k:Kd},k.Fit n->1<=k.size sz/\∀p,(k.units sz ut p).length<=k.size sz:=by
 have hn:∀w,1<=w->1<=(Kd.num w).size sz/\∀p,((Kd.num w).units sz ut p).length<=(Kd.num w).size sz:=fun w hw=>⟨hw,fun p=>hw⟩;intro k hk;cases k with
 |num w=>exact hn w hk.1
 |nest i=>exact h i hk
 |many m k =>
  have hs : 1<=k.size sz/\∀p,(k.units sz ut p).length<=k.size sz:=by
   rcases hk.2.2 with⟨w,rfl,hw,_⟩|⟨i,rfl,hi⟩
   ·exact hn w hw
   ·exact h i hi
  refine⟨Nat.mul_pos hk.1 hs.1,fun p=>?_⟩;show((ir m).flatMap _).length<=m*_;have:∀m,((ir m).flatMap fun j=>k.units sz ut (pj p (η (toString j)))).length<=m*k.size sz:=by
   intro m
   induction m with
   |zero=>exact ij _
   |succ m ih =>
    rw[sr,ot,ν,qc,Nat.succ_mul];exact Nat.add_le_add ih (hs.2 _)
  exact this m
 |pick is =>
  refine⟨by show 1<=1+_;omega,fun p=>?_⟩;show 2<=1+vW _;cases is with
  |nil=>exact absurd hk.1 (by decide)
  |cons i r =>
   have:=(h i (hk.2.2.2 i (Δ ..))).1;have g:=iJ (n:=sz.getD i 0) (xs:=(i::r).map fun i=>sz.getD i 0) (Δ ..);omega
theorem gI(p:Str):∀{fs:List (Str×Kd)},(∀f∈fs,1<=f.2.size sz/\∀p,(f.2.units sz ut p).length<=f.2.size sz)->(fs.flatMap fun f=>f.2.units sz ut (pj p f.1)).length<=(fs.map fun f=>f.2.size sz).sum/\fs.length<=(fs.map fun f=>f.2.size sz).sum
 |[],_=>⟨ξ _,ξ _⟩
 |f::fs,h=>by
  have ih:=gI p (fs:=fs) fun g hg=>h g (Ψ _ hg);have h0:=h f (Δ ..);rw[vi,ν,ki,sv,Γ];exact⟨Nat.add_le_add (h0.2 _) ih.1,by omega⟩
theorem Good.len(h:Good S):∀n i,i<n->i<S.length->1<=(tabs S).sz.getD i 0/\∀p,(((tabs S).ut.getD i fun _=>[]) p).length<=(tabs S).sz.getD i 0
 |0,i,hi,_=>absurd hi (uv _)
 |n+1,i,hi,hl=>by
  have hs:S[i]?=some S[i]:=ζ hl;have hF:=h.fit i _ hs;obtain⟨e1,e2,e3⟩:=gU hs fun f hf=>(hF f hf).1.below;have q:∀f∈S[i].2,1<=f.2.size (tabs S).sz/\∀p,(f.2.units (tabs S).sz (tabs S).ut p).length<=f.2.size (tabs S).sz:=fun f hf =>
   Kd.units_len (fun j hj=>Good.len h n j (by omega) (by omega)) (hF f hf).1
  have hne:=h.ne i _ hs;have : 1<=S[i].2.length:=by
   cases e:S[i].2 with
   |nil=>exact absurd e hne
   |cons _ _=>exact ow (ij _)
  refine⟨?_,fun p=>?_⟩
  ·rw[e1];exact iq this (gI Str.empty q).2
  ·rw[e1,e3 p];exact(gI p q).1
theorem Good.kd(h:Good S){k:Kd}(hk:k.Fit S.length): 1<=k.size (tabs S).sz/\∀p,(k.units (tabs S).sz (tabs S).ut p).length<=k.size (tabs S).sz:=Kd.units_len (fun j hj=>h.len S.length j hj hj) hk
theorem wE{m:Nat}: ∀{xs:List Nat},(∀x∈xs,x<=m)->vW xs<=m
 |[],_=>ij _
 |x::xs,h=>Nat.max_le.mpr ⟨h x (Δ ..),wE fun y hy=>h y (Ψ _ hy)⟩
theorem Kd.size_bd{sz:List Nat}{m:Nat}(h:∀i,sz.getD i 0<=m)(hm : 4<=m):∀{k:Kd},k.Fit n->k.size sz<=6*m
 |.num w,hk=>by have:=hk.2;show w<=_;omega
 |.nest i,_=>by have:=h i;show sz.getD i 0<=_;omega
 |.many c k,hk=>by
  have:k.size sz<=m:=by
   rcases hk.2.2 with⟨w,rfl,_,hw⟩|⟨i,rfl,hi⟩
   ·show w<=m;omega
   ·exact h i
  exact Nat.mul_le_mul hk.2.1 this
 |.pick is,_=>by
  have:vW (is.map fun i=>sz.getD i 0)<=m:=wE fun x hx=>by obtain⟨i,_,rfl⟩:=iw.mp hx;exact h i
  show 1+_<=_;omega
def Kd.parts (S:List Shp):Kd->List (Str×Kd)
 |.nest i=>(S.getD i (Str.empty,[])).2
 |.many n k=>(ir n).map fun j=>(η (toString j),k)
 |_=>[]
theorem Kd.parts_units(h:Good S){k:Kd}(hk:k.Fit S.length)(hs:(∃i,k=.nest i)\/∃n q,k=.many n q)(p:Str):k.units (tabs S).sz (tabs S).ut p=(k.parts S).flatMap fun f=>f.2.units (tabs S).sz (tabs S).ut (pj p f.1):=by
 rcases hs with⟨i,rfl⟩|⟨n,q,rfl⟩
 ·have hi:i<S.length:=hk;have hs:S[i]?=some S[i]:=ζ hi;have e:(Kd.nest i).parts S=S[i].2:=by show(S.getD i _).2=_;rw[Ω,hs];rfl
  rw[e];exact(gU hs fun f hf=>((h.fit i _ hs) f hf).1.below).2.2 p
 ·show(ir n).flatMap _=((ir n).map _).flatMap _;rw[List.flatMap_map]
def Kd.isNum:Kd->Bool
 |.num _=>true
 |_=>false
def Kd.isNest:Kd->Bool
 |.nest _=>true
 |_=>false
def Kd.isMany:Kd->Bool
 |.many _ _=>true
 |_=>false
def Kd.isPick:Kd->Bool
 |.pick _=>true
 |_=>false
def aIp (m:Str):Prop:=∀v w:V,[(("width" : Str),v)].lookup m=none/\[(("shape" : Str),v)].lookup m=none/\[(("count" : Str),v),(("kind" : Str),w)].lookup m=none/\[(("shapes" : Str),v)].lookup m=none
def spV (c:Cl5) (K:ς) (r:Nat) (F:Kd->Bool) (val:Kd->Tab->Nat):Sp:=fun vs H Q _=>∃(a:Addr) (kd:Kd) (sa:List Addr) (S:List Shp),vs=[.ref a]/\F kd=true/\kd.Rk r/\kd.Fit S.length/\KO c K H sa a kd/\SW c K H sa S/\Good S/\∀H',jJ H H'->Q (.int (val kd (tabs S))) H'
def TV (c:Cl5) (K:ς) (r:Nat) (val:Kd->Tab->Nat):Addr->Sp->Prop:=fun C sp=>(C=c.num/\sp=spV c K r Kd.isNum val)\/(C=c.nest/\sp=spV c K r Kd.isNest val)\/(C=c.many/\sp=spV c K r Kd.isMany val)\/(C=c.pick/\sp=spV c K r Kd.isPick val)
theorem aDd{K:ς}{val:Kd->Tab->Nat}{H:Hp}{kd:Kd}{S:List Shp}{Q:VK}{E:XK}(hm:aIp m)(hr:kd.Rk r)(hf:kd.Fit S.length)(ho:KO c K H sa a kd)(hw:SW c K H sa S)(hg:Good S)
  (q:∀H',jJ H H'->Q (.int (val kd (tabs S))) H'):∃a' C dx fs sp,V.ref a=.ref a'/\H a'=some (.ins C dx fs)/\fs.lookup m=none/\TV c K r val C sp/\sp [.ref a] H Q E:=by
 cases id ho with
 |num h=>exact⟨_,_,_,_,_,rfl,h,(hm _ .non).1,.inl ⟨rfl,rfl⟩,a,_,sa,S,rfl,rfl,hr,hf,ho,hw,hg,q⟩
 |nest e h=>exact⟨_,_,_,_,_,rfl,h,(hm _ .non).2.1,.inr (.inl ⟨rfl,rfl⟩),a,_,sa,S,rfl,rfl,hr,hf,ho,hw,hg,q⟩
 |many h _=>exact⟨_,_,_,_,_,rfl,h,(hm _ _).2.2.1,.inr (.inr (.inl ⟨rfl,rfl⟩)),a,_,sa,S,rfl,rfl,hr,hf,ho,hw,hg,q⟩
 |pick h _ _ _=>exact⟨_,_,_,_,_,rfl,h,(hm _ .non).2.2.2,.inr (.inr (.inr ⟨rfl,rfl⟩)),a,_,sa,S,rfl,rfl,hr,hf,ho,hw,hg,q⟩
inductive aGr (c:Cl5) (K:ς) (r:Nat) (val:Nat->Tab->Nat) (vs:List V) (H:Hp) (Q:VK):Prop|mk:∀(a:Addr) (i:Nat) (sa:List Addr) (S:List Shp),vs=[.ref a]->sa[i]?=some a->2*i+1<=r->SW c K H sa S->Good S->(∀H',jJ H H'->Q (.int (val i (tabs S))) H')->aGr c K r val vs H Q
def mK (c:Cl5) (K:ς) (r:Nat) (val:Nat->Tab->Nat):Sp:=fun vs H Q _=>aGr c K r val vs H Q
inductive UR (K:ς) (H:Hp):List Addr->List Un3->Prop
 |nil:UR K H [] []
 |cons {t:Addr}{ts:List Addr}{u:Un3}{us:List Un3} : SqT K H t [.str u.1,.int u.2.1,.str u.2.2]->UR K H ts us->UR K H (t::ts) (u::us)
theorem UR.same{K:ς}(h:UR K H ts us)(g:jJ H H'):UR K H' ts us:=by
 induction h with
 |nil=>exact .nil
 |cons t _ ih=>exact .cons (g.tp t) ih
theorem UR.len{K:ς}(h:UR K H ts us):ts.length=us.length:=by
 induction h with
 |nil=>rfl
 |cons _ _ ih=>rw[Γ,Γ,ih]
theorem UR.app{K:ς}(h:UR K H ts us)(h':UR K H ts' us'):UR K H (ts++ts') (us++us'):=by
 induction h with
 |nil=>exact h'
 |cons t _ ih=>exact .cons t ih
theorem UR.get{K:ς}(h:UR K H ts us):∀{i:Nat}{t:Addr},ts[i]?=some t->∃u,us[i]?=some u/\SqT K H t [.str u.1,.int u.2.1,.str u.2.2]:=by
 induction h with
 |nil=>intro i t e;simp at e
 |cons t _ ih =>
  intro i a e;cases i with
  |zero=>cases e;exact⟨_,rfl,t⟩
  |succ i=>exact ih e
theorem UR.but{K:ς}{H:Hp}(h:UR K H ts us)(g:But l H H')(hl:H l=some (.lst zs)):UR K H' ts us:=by
 induction h with
 |nil=>exact .nil
 |cons t _ ih=>exact .cons (g.tup hl t) ih
def UL (K:ς) (H:Hp) (l:Addr) (us:List Un3):Prop:=∃ts:List Addr,H l=some (.lst (ts.map V.ref))/\UR K H ts us
abbrev un (kd:Kd) (S:List Shp) (p:Str):List Un3:=kd.units (tabs S).sz (tabs S).ut p
theorem Kd.parts_un(h:Good S){k:Kd}(hk:k.Fit S.length)(hs:(∃i,k=.nest i)\/∃n q,k=.many n q){p:Str}: un k S p=(k.parts S).flatMap fun f=>un f.2 S (pj p f.1):=Kd.parts_units h hk hs p
def spU (c:Cl5) (K:ς) (r:Nat) (F:Kd->Bool):Sp:=fun vs H Q _=>∃(a:Addr) (p:Str) (kd:Kd) (sa:List Addr) (S:List Shp),vs=[.ref a,.str p]/\p.length+8*r<=200/\F kd=true/\kd.Rk r/\kd.Fit S.length/\KO c K H sa a kd/\SW c K H sa S/\Good S ∧
 ∀l H',jJ H H'->H l=none->UL K H' l (un kd S p)->Q (.ref l) H'
def TU (c:Cl5) (K:ς) (r:Nat):Addr->Sp->Prop:=fun C sp=>(C=c.num/\sp=spU c K r Kd.isNum)\/(C=c.nest/\sp=spU c K r Kd.isNest)\/(C=c.many/\sp=spU c K r Kd.isMany)\/(C=c.pick/\sp=spU c K r Kd.isPick)
theorem kdU{K:ς}{H:Hp}{kd:Kd}{S:List Shp}(hm:aIp m)(hr:kd.Rk r)(hf:kd.Fit S.length)(ho:KO c K H sa a kd)(hw:SW c K H sa S)(hg:Good S):
  ∃C dx fs sp,H a=some (.ins C dx fs)/\fs.lookup m=none/\TU c K r C sp/\∀(p:Str) (Q:VK) (E:XK),p.length+8*r<=200->(∀l H',jJ H H'->H l=none->UL K H' l (un kd S p)->Q (.ref l) H')->sp [.ref a,.str p] H Q E:=by
 cases id ho with
 |num h=>exact⟨_,_,_,_,h,(hm _ .non).1,.inl ⟨rfl,rfl⟩,fun p Q E hp q=>⟨a,p,_,sa,S,rfl,hp,rfl,hr,hf,ho,hw,hg,q⟩⟩
 |nest e h=>exact⟨_,_,_,_,h,(hm _ .non).2.1,.inr (.inl ⟨rfl,rfl⟩),fun p Q E hp q=>⟨a,p,_,sa,S,rfl,hp,rfl,hr,hf,ho,hw,hg,q⟩⟩
 |many h _=>exact⟨_,_,_,_,h,(hm _ _).2.2.1,.inr (.inr (.inl ⟨rfl,rfl⟩)),fun p Q E hp q=>⟨a,p,_,sa,S,rfl,hp,rfl,hr,hf,ho,hw,hg,q⟩⟩
 |pick h _ _ _=>exact⟨_,_,_,_,h,(hm _ .non).2.2.2,.inr (.inr (.inr ⟨rfl,rfl⟩)),fun p Q E hp q=>⟨a,p,_,sa,S,rfl,hp,rfl,hr,hf,ho,hw,hg,q⟩⟩
inductive PR (c:Cl5) (K:ς) (H:Hp) (sa:List Addr):List Addr->List (Str×Kd)->Prop
 |nil:PR c K H sa [] []
 |cons {t k:Addr}{x:V}{y:Str}{kd:Kd}{ts:List Addr}{ps:List (Str×Kd)} : SqT K H t [x,.ref k]->aDc x=some y->KO c K H sa k kd->PR c K H sa ts ps->PR c K H sa (t::ts) ((y,kd)::ps)
theorem PR.same{K:ς}(h:PR c K H sa ts ps)(g:jJ H H'):PR c K H' sa ts ps:=by
 induction h with
 |nil=>exact .nil
 |cons t x k _ ih=>exact .cons (g.tp t) x (k.same g) ih
theorem PR.len{K:ς}(h:PR c K H sa ts ps):ts.length=ps.length:=by
 induction h with
 |nil=>rfl
 |cons _ _ _ _ ih=>rw[Γ,Γ,ih]
theorem PR.snoc{K:ς}{x:V}(h:PR c K H sa ts ps)(t1:SqT K H t [x,.ref k])(h2:aDc x=some y)(h3:KO c K H sa k kd):PR c K H sa (ts++[t]) (ps++[(y,kd)]):=by
 induction h with
 |nil=>exact .cons t1 h2 h3 .nil
 |cons t x k _ ih=>exact .cons t x k ih
theorem PR.get{K:ς}(h:PR c K H sa ts ps):∀{i:Nat}{t:Addr},ts[i]?=some t->∃x y kd k,ps[i]?=some (y,kd)/\SqT K H t [x,.ref k]/\aDc x=some y/\KO c K H sa k kd:=by
 induction h with
 |nil=>intro i t e;simp at e
 |cons t x k _ ih =>
  intro i a e;cases i with
  |zero=>cases e;exact⟨_,_,_,_,rfl,t,x,k⟩
  |succ i=>exact ih e
theorem FO.parts{K:ς}(h:FO c K H sa ps fs)(more:List Addr):PR c K H (sa++more) ps fs:=by
 induction h with
 |nil=>exact .nil
 |cons t k _ ih=>exact .cons t rfl (k.more more) ih
theorem SW.at{K:ς}(h:SW c K H sa S){i:Nat}(e:sa[i]?=some a):∃s,S[i]?=some s/\SO c K H (sa.take i) a s:=by
 have hi:i<S.length:=by rw[←h.1];exact(ε.mp e).1
 exact⟨S[i],ζ hi,h.2 i a _ e (ζ hi)⟩
theorem SO.fields{K:ς}{H:Hp}{sa:List Addr}(h:SO c K H (sa.take i) a s):∃dx t ps,H a=some (.ins c.shape dx [("name",.str s.1),("fields",.ref t)])/\SqT K H t (ps.map V.ref)/\PR c K H sa ps s.2:=by
 obtain⟨dx,t,ps,h1,h2,h3⟩:=h;refine⟨dx,t,ps,h1,h2,?_⟩;have:=h3.parts (sa.drop i);rw[ky]at this;exact this
theorem aIk:∀j:Nat,j<6->(η (toString j)).length=1:=by ac_rfl
theorem Kd.parts_ok(h:Good S){k:Kd}{r:Nat}(hk:k.Fit S.length)(hr:k.Rk (r+1)){f:Str×Kd}(hf:f∈k.parts S):f.2.Rk r/\f.2.Fit S.length/\1<=f.1.length/\f.1.length<=6:=by
 cases k with
 |num w=>cases hf
 |nest i =>
  have hi:i<S.length:=hk;have hs:S[i]?=some S[i]:=ζ hi;have e:(Kd.nest i).parts S=S[i].2:=by show(S.getD i _).2=_;rw[Ω,hs];rfl
  rw[e]at hf;obtain⟨g1,g2,g3⟩:=h.fit i _ hs f hf;exact⟨g1.rk.mono (by have : 2*i+2<=r+1:=hr;omega),g1.mono (by omega),g2,g3⟩
 |many n q =>
  obtain⟨j,hj,rfl⟩:=iw.mp hf;have hj':j<6:=ω (ua.mp hj) hk.2.1;have:=aIk j hj';refine⟨?_,?_,by show 1<=(η (toString j)).length;omega,by show(η (toString j)).length<=6;omega⟩
  ·rcases hr with⟨w,rfl,_⟩|⟨i,rfl,hi⟩
   ·exact ju
   ·show 2*i+2<=r;omega
  ·rcases hk.2.2 with⟨w,rfl,hw⟩|⟨i,rfl,hi⟩
   ·exact hw
   ·exact hi
 |pick is=>cases hf
def Kd.lv:Kd->Nat
 |.many _ _=>1
 |_=>0
theorem Kd.lv_le:∀k:Kd,k.lv<=1
 |.num _=>ij _
 |.nest _=>ij _
 |.many _ _=>ξ _
 |.pick _=>ij _
def LX (K:ς) (H:Hp) (sl:Addr) (S:List Shp):Prop:=∃as:List Addr,SqL K H sl (as.map V.ref)/\LW K H as S
theorem LX.same{K:ς}(h:LX K H sl S)(g:jJ H H'):LX K H' sl S:=by
 obtain⟨as,h1,h2⟩:=h;exact⟨as,g.seq h1,h2.same g⟩
def rN (K:ς) (val:Kd->Tab->Nat):Nat->Sp
 |0=>fun _ _ _ _=>False
 |r+1=>fun vs H Q _=>∃(a sl:Addr) (kd:Kd) (S:List Shp),vs=[.ref a,.ref sl]/\kd.Rk r/\kd.lv<=r/\kd.Fit S.length/\LK K H a kd/\LX K H sl S/\Good S/\∀H',jJ H H'->Q (.int (val kd (tabs S))) H'
def spLU (K:ς):Nat->Sp
 |0=>fun _ _ _ _=>False
 |r+1=>fun vs H Q _=>∃(a sl:Addr) (p:Str) (kd:Kd) (S:List Shp),vs=[.ref a,.ref sl,.str p]/\p.length+8*r<=200/\kd.Rk r/\kd.lv<=r/\kd.Fit S.length/\LK K H a kd/\LX K H sl S/\Good S ∧
  ∀l H',jJ H H'->H l=none->UL K H' l (un kd S p)->Q (.ref l) H'
def vSz (kd:Kd) (t:Tab):Nat:=kd.size t.sz
def vDp (kd:Kd) (t:Tab):Nat:=kd.depth t.dp
def sSz (i:Nat) (t:Tab):Nat:=t.sz.getD i 0
def sDp (i:Nat) (t:Tab):Nat:=t.dp.getD i 0
theorem KO.but{K:ς}{H:Hp}(g:But l H H')(hl:H l=some (.lst zs))(h:KO c K H sa a k):KO c K H' sa a k:=by
 have n:∀{a C dx fs},H a=some (.ins C dx fs)->H' a=some (.ins C dx fs):=fun h=>g _ _ (hV h hl (by intro z;cases z)) h
 induction h with
 |num h=>exact .num (n h)
 |nest e h=>exact .nest e (n h)
 |many h _ ih=>exact .many (n h) ih
 |pick h t l e=>exact .pick (n h) (g.tup hl t) l e
theorem FO.but{K:ς}{H:Hp}(g:But l H H')(hl:H l=some (.lst zs))(h:FO c K H sa ps fs):FO c K H' sa ps fs:=by
 induction h with
 |nil=>exact .nil
 |cons t k _ ih=>exact .cons (g.tup hl t) (k.but g hl) ih
theorem SO.but{K:ς}{H:Hp}(g:But l H H')(hl:H l=some (.lst zs))(h:SO c K H sa a s):SO c K H' sa a s:=by
 obtain⟨dx,t,ps,h1,h2,h3⟩:=h;exact⟨dx,t,ps,g _ _ (hV h1 hl (by intro z;cases z)) h1,g.tup hl h2,h3.but g hl⟩
theorem SW.but{K:ς}{H:Hp}(g:But l H H')(hl:H l=some (.lst zs))(h:SW c K H sa S):SW c K H' sa S:=⟨h.1,fun i a s h1 h2=>(h.2 i a s h1 h2).but g hl⟩
theorem But.from{H:Hp}(g:jJ H H1)(hl:H l=none)(b:But l H1 H2):jJ H H2:=fun x o q=>b x o (jS q hl) (g x o q)
theorem cN{H:Hp}(hx:H x=none)(hd:H dx=none):jJ H (upd (upd H dx o) x u):=fun b v q=>by
 rw[kF (jS q hx),kF (jS q hd)];exact q
theorem jJ.putn{H:Hp}(g:jJ H H1)(h:H a=none):jJ H (upd H1 a o):=fun b v q=>by
 rw[kF (jS q h)];exact g _ _ q
theorem qF{ss:List Addr}{i:Nat}(h:(ss.map V.ref)[i]?=some x):∃s,ss[i]?=some s/\x=.ref s:=by
 rw[υ]at h;cases e:ss[i]? with
 |none=>rw[e]at h;cases h
 |some c=>rw[e]at h;cases h;exact⟨c,rfl,rfl⟩
theorem qV{α β : Type}{f : α->β}{l:List α}{i:Nat}{a : α}(h:l[i]?=some a):(l.take (i+1)).map f=(l.take i).map f++[f a]:=by
 rw[jq,h,ρ];rfl
theorem eU{α β : Type}{f : α->List β}{l:List α}{i:Nat}{a : α}(h:l[i]?=some a):(l.take (i+1)).flatMap f=(l.take i).flatMap f++f a:=by
 rw[jq,h,ot];show _++[a].flatMap f=_;rw[qc]
theorem kM{α : Type}{l:List α}: l.take l.length=l:=rn
theorem aIa{ns:List Nat}{m:Int}(h1:m∈ns.map fun n:Nat=>(n:Int))(h2:∀n∈ns.map fun n:Nat=>(n:Int),n<=m):m=((vW ns:Nat):Int):=by
 obtain⟨n,hn,rfl⟩:=iw.mp h1;rw[←aOs hn fun k hk=>by have:=h2 (k:Int) (List.mem_map_of_mem hk);omega]
theorem sumI:∀ns:List Nat,(ns.map fun n:Nat=>(n:Int)).sum=((ns.sum:Nat):Int)
 |[]=>rfl
 |n::ns=>by rw[ki,sv,sv,sumI ns];omega
theorem Kd.Rk.zero : ∀{k:Kd},k.Rk 0->k.Fit n->k.isNum=true
 |.num _,_,_=>rfl
 |.nest i,h,_=>by have : 2*i+2<=0:=h;omega
 |.many _ _,h,_=>by
  rcases h with⟨_,_,h⟩|⟨i,_,h⟩ <;> omega
 |.pick is,h,q=>by
  cases is with
  |nil=>exact absurd q.1 (by decide)
  |cons i _=>have:=h i (Δ ..);omega
theorem Kd.Rk.sub{r:Nat}(h:(Kd.many n k).Rk (r+1)):k.Rk r:=by
 rcases h with⟨w,rfl,_⟩|⟨i,rfl,hi⟩
 ·exact ju
 ·show 2*i+2<=r;omega
theorem Kd.Fit.sub(h:(Kd.many n k).Fit m):k.Fit m:=by
 rcases h.2.2 with⟨w,rfl,hw⟩|⟨i,rfl,hi⟩
 ·exact hw
 ·exact hi
theorem uS{os:St}(h:os.length=2):∃a b,os=[a,b]:=by
 match os,h with
 |[a,b],_=>exact⟨a,b,rfl⟩
theorem aAr{m:Str}(h:m = "size" ∨ m = "depth" ∨ m = "units_at" ∨ m = "parted"):aIp m:=by
 rcases h with rfl|rfl|rfl|rfl <;> exact fun _ _=>⟨rfl,rfl,rfl,rfl⟩
theorem xE.mono{K:ς}{k:Nat}(h:xE P w K mg base CX j m C sp)(hk:j<=k):xE P w K mg base CX k m C sp:=by
 obtain⟨c,f,fd,ps,h1,h2,h3⟩:=h;exact⟨c,f,fd,ps,h1,h2.mono hk,h3⟩
theorem noFn{K:ς}{sp:Sp}(h:∀vs H Q E,sp vs H Q E->False):jY P w K mg base CX k f fd ps sp:=⟨fun vs H Q E q=>(h vs H Q E q).elim,fun _ _ _ H _ _ vs Q E _ _ _ _ q=>(h vs H Q E q).elim⟩
theorem noV{K:ς}{F:Kd->Bool}(hF:∀k,F k=true->k.isNum=true->False):∀vs H Q E,spV c K 0 F val vs H Q E->False:=fun vs H Q E h=>by obtain⟨a,kd,sa,S,_,h1,h2,h3,_⟩:=h;exact hF kd h1 (h2.zero h3)
theorem noU{K:ς}{F:Kd->Bool}(hF:∀k,F k=true->k.isNum=true->False):∀vs H Q E,spU c K 0 F vs H Q E->False:=fun vs H Q E h=>by obtain⟨a,p,kd,sa,S,_,_,h1,h2,h3,_⟩:=h;exact hF kd h1 (h2.zero h3)
theorem nn1:∀k:Kd,k.isNest=true->k.isNum=true->False:=fun k h g=>by cases k <;> first|exact π h|exact π g
theorem nn2:∀k:Kd,k.isMany=true->k.isNum=true->False:=fun k h g=>by cases k <;> first|exact π h|exact π g
theorem nn3:∀k:Kd,k.isPick=true->k.isNum=true->False:=fun k h g=>by cases k <;> first|exact π h|exact π g
theorem ff1:∀k:Kd,k.isNest=true->(∃i,k=.nest i)\/∃n q,k=.many n q:=fun k h=>by
 cases k <;> first|exact .inl ⟨_,rfl⟩|cases h
theorem ff2:∀k:Kd,k.isMany=true->(∃i,k=.nest i)\/∃n q,k=.many n q:=fun k h=>by
 cases k <;> first|exact .inr ⟨_,_,rfl⟩|cases h
inductive Itm where
 |sh (n:Str)
 |fd (n:Str) (k:Kd)
def hZ (s:Shp):List Itm:=.sh s.1::s.2.map fun f=>.fd f.1 f.2
def vB (S:List Shp):List Itm:=S.flatMap hZ
def Itm.line (nm:Nat->Str):Itm->List Str
 |.sh n=>[η "shape",n]
 |.fd n k=>n::k.words nm
theorem bV(S:List Shp):nQ S=(vB S).map (Itm.line (kK S)):=by
 unfold nQ vB;rw[List.map_flatMap]
 congr 1
 funext s
 unfold aGn hZ;rw[ki,jp];rfl
theorem zO(A B:List Shp):vB (A++B)=vB A++vB B:=ot
def nM (S:List Shp) (j:Nat) (T:List Shp):Prop:=(∃S2,S=T++S2/\j=(vB T).length)\/∃S1 s S2 f1 f2,S=S1++s::S2/\s.2=f1++f2/\T=S1++[(s.1,f1)]/\j=(vB S1).length+1+f1.length
theorem nM.start(S:List Shp):nM S 0 []:=.inl ⟨S,rfl,rfl⟩
theorem nM.next(h:nM S j T)(hj:j<(vB S).length):∃S1 s S2,S=S1++s::S2 ∧
  (((vB S)[j]?=some (.sh s.1)/\T=S1/\nM S (j+1) (S1++[(s.1,[])]))\/∃f1 n k f2,s.2=f1++(n,k)::f2/\(vB S)[j]?=some (.fd n k)/\T=S1++[(s.1,f1)]/\nM S (j+1) (S1++[(s.1,f1++[(n,k)])])):=by
 have one:∀{T:List Shp}{S2:List Shp},S=T++S2->j=(vB T).length->∃S1 s S2,S=S1++s::S2 ∧
  (((vB S)[j]?=some (.sh s.1)/\T=S1/\nM S (j+1) (S1++[(s.1,[])]))\/∃f1 n k f2,s.2=f1++(n,k)::f2/\(vB S)[j]?=some (.fd n k)/\T=S1++[(s.1,f1)]/\nM S (j+1) (S1++[(s.1,f1++[(n,k)])])):=by
  intro T S2 e ej;cases S2 with
  |nil=>rw[e,ly,←ej]at hj;exact absurd hj (oy _)
  |cons s S2 =>
   refine⟨T,s,S2,e,.inl ⟨?_,rfl,.inr ⟨T,s,S2,[],s.2,e,rfl,rfl,by rw[ej];rfl⟩⟩⟩;rw[e,zO,ic (by omega),ej,mr];rfl
 rcases h with⟨S2,e,ej⟩|⟨S1,s,S2,f1,f2,e,ef,eT,ej⟩
 ·exact one e ej
 ·cases f2 with
  |nil =>
   rw[ly]at ef;have e2:T=S1++[s]:=by rw[eT,←ef]
   refine one (S2:=S2) (by rw[e,e2,jr];rfl) ?_;rw[e2,zO,ν,ej];show _=_+([s].flatMap hZ).length;rw[qc];unfold hZ;rw[Γ,δ,ef];omega
  |cons f f2 =>
   refine⟨S1,s,S2,e,.inr ⟨f1,f.1,f.2,f2,ef,?_,eT,.inr ⟨S1,s,S2,f1++[(f.1,f.2)],f2,e,by rw[ef,jr];rfl,rfl,by rw[ej,ν];rfl⟩⟩⟩;rw[e,zO,ic (by omega),show j-(vB S1).length=f1.length+1 by omega];show((hZ s)++vB S2)[f1.length+1]?=_;unfold hZ;rw[qg,List.getElem?_cons_succ,ii (by rw[δ,ef,ν,Γ];omega),υ,ef,ic (ξ _),mr];rfl
theorem wM{A:List Shp}(h:A≠[]): 0<(vB A).length:=by
 cases A with
 |nil=>exact absurd rfl h
 |cons a A=>exact Nat.succ_pos _
theorem nM.done(h:nM S (vB S).length T):T=S:=by
 rcases h with⟨S2,e,ej⟩|⟨S1,s,S2,f1,f2,e,ef,eT,ej⟩
 ·cases S2 with
  |nil=>rw[e,ly]
  |cons s S2 =>
   rw[e,zO,ν]at ej;have:=wM (A:=s::S2) (by simp);omega
 ·rw[e,zO,ν,show vB (s::S2)=hZ s++vB S2 from rfl,ν]at ej;unfold hZ at ej;rw[Γ,δ,ef,ν]at ej;have h2:f2=[]:=rp.mp (by omega);have h3:S2=[]:=by
   cases S2 with
   |nil=>rfl
   |cons a A=>have:=wM (A:=a::A) (by simp);omega
  rw[eT,e,h3];subst h2;rw[ly]at ef;rw[←ef]
theorem aZ(sa:List Addr)(z:Addr):atI ((sa++[z]).map V.ref) (-1)=some (.ref z):=by
 have l:((sa++[z]).map V.ref).length=sa.length+1:=by rw[δ,ν];rfl
 have e:ixN (sa.length+1) (-1)=some sa.length:=by
  unfold ixN;rw[if_neg (by omega),if_pos (by omega)]
  congr 1
  omega
 unfold atI;rw[l,e];show((sa++[z]).map V.ref)[sa.length]?=_;rw[ρ,ic (by rw[δ];exact ξ _),δ,mr];rfl
theorem aKz(sa:List Addr)(z:Addr):ixN ((sa++[z]).map V.ref).length (-1)=some sa.length:=by
 rw[δ,ν,jt];unfold ixN;rw[if_neg (by omega),if_pos (by omega)]
 congr 1
 omega
theorem aLq(sa:List Addr)(z y:Addr):((sa++[z]).map V.ref).set sa.length (.ref y)=(sa++[y]).map V.ref:=by
 rw[ρ,ρ,List.set_append_right _ _ (by rw[δ];exact ξ _),δ,mr];rfl
theorem cutA(xs:List V)(k:Nat):yN xs (some (k:Int)) none=xs.drop k:=by
 unfold yN;rw[HT.sIx_none,HT.sIx_nat];have e:xs.drop (min k xs.length)=xs.drop k:=by
  by_cases h:k<=xs.length
  ·rw[Nat.min_eq_left h]
  ·rw[Nat.min_eq_right (by omega),uc,List.drop_eq_nil_of_le (by omega)]
 rw[e,mz];rw[rl];omega
theorem aCw(x:V)(xs:List V):yN (x::xs) (some 1) none=xs:=cutA (x::xs) 1
theorem aPg(x y:V)(xs:List V):yN (x::y::xs) (some 2) none=xs:=cutA (x::y::xs) 2
theorem at0{x:V}{xs:List V}: atI (x::xs) 0=some x:=vT (j:=0) rfl
theorem at1{x y:V}{xs:List V}: atI (x::y::xs) 1=some y:=vT (j:=1) rfl
theorem cutB(xs:List V)(k:Nat):yN xs none (some (k:Int))=xs.take k:=by
 unfold yN;rw[HT.sIx_none,HT.sIx_nat,List.drop_zero,Nat.sub_zero]
 by_cases h:k<=xs.length
 ·rw[Nat.min_eq_left h]
 ·rw[Nat.min_eq_right (by omega),rn,mz (by omega)]
theorem cutC(sa:List Addr)(z:Addr):yN ((sa++[z]).map V.ref) none (some (-1))=sa.map V.ref:=by
 unfold yN;rw[HT.sIx_none,List.drop_zero,Nat.sub_zero];have l:((sa++[z]).map V.ref).length=sa.length+1:=by rw[δ,ν];rfl
 have e:HT.sIx ((sa++[z]).map V.ref).length ((sa++[z]).map V.ref).length (some (-1))=(sa.map V.ref).length:=by
  rw[l,δ];show(if (-1:Int)<0 then ((-1:Int)+((sa.length+1:Nat):Int)).toNat else min (-1:Int).toNat (sa.length+1))=_;rw[if_pos (by decide)];omega
 rw[e,ρ,List.take_left' rfl]
def dk (T:List Shp) (sa:List Addr):List (Key×V):=ig (fun (s:Shp) (a:Addr)=>((.inr s.1:Key),V.ref a)) T sa
theorem aLm{T:List Shp}{sa:List Addr}(hn:(T.map (·.1)).Nodup):∀{i:Nat}{s:Shp}{a:Addr},T[i]?=some s->sa[i]?=some a->aO (dk T sa) (.inr s.1)=some (.ref a):=by
 induction T generalizing sa with
 |nil=>intro i s a h;simp at h
 |cons t T ih =>
  intro i s a h1 h2;cases sa with
  |nil=>simp at h2
  |cons b sa =>
   cases i with
   |zero =>
    cases h1;cases h2;unfold dk aO;rw[qd,List.find?_cons_of_pos (by simp)];rfl
   |succ i =>
    have hn':=md.mp (show(t.1::T.map (·.1)).Nodup from hn);have:=ih hn'.2 (sa:=sa) h1 h2;unfold dk aO at this ⊢;rw[qd,List.find?_cons_of_neg]
    ·exact this
    ·intro z;have z2:t.1=s.1:=ol.inj (show(ol t.1:Key)=.inr s.1 from of_decide_eq_true z);have h1':T[i]?=some s:=h1;exact hn'.1 (by rw[z2];exact List.mem_map_of_mem (ι h1'))
theorem lM{kvs:List (Key×V)}{k:Key}(h:∀x∈kvs,x.1≠k):putK kvs k v=kvs++[(k,v)]:=by
 unfold putK
 first
 |rw[if_neg (by simp only[vy,not_exists];rintro x ⟨hx,z⟩;exact h x hx (of_decide_eq_true z))]
 | (split
    · rename_i z
      simp only[vy]at z;obtain⟨x,hx,z⟩:=z;exact absurd (by simpa using z) (h x hx)
    · rfl)
theorem aBm{α β γ : Type}(f : α->β->γ):∀{xs:List α}{ys:List β}{x : α}{y : β},xs.length=ys.length->ig f (xs++[x]) (ys++[y])=ig f xs ys++[f x y]
 |[],[],_,_,_=>rfl
 |a::xs,b::ys,x,y,h=>by
  rw[qg,qg,qd,qd,aBm f (lc h)];rfl
theorem aNs{T:List Shp}{sa:List Addr}{j:Nat}(h1:T[j]?=some s)(h2:sa[j]?=some a):dk (T.take (j+1)) (sa.take (j+1))=dk (T.take j) (sa.take j)++[(.inr s.1,.ref a)]:=by
 unfold dk;rw[jq,jq,h1,h2];refine aBm _ ?_;rw[ib,ib];have:=(ε.mp h1).1;have:=(ε.mp h2).1;omega
theorem aOc{T:List Shp}{sa:List Addr}: ∀x∈dk T sa,∃s∈T,x.1=.inr s.1:=by
 induction T generalizing sa with
 |nil=>intro x hx;cases sa <;> simp[dk]at hx
 |cons t T ih =>
  intro x hx;cases sa with
  |nil=>simp[dk]at hx
  |cons a sa =>
   unfold dk at hx;rw[qd]at hx;rcases Ξ.mp hx with rfl|hx
   ·exact⟨t,Δ ..,rfl⟩
   ·obtain⟨s,hs,e⟩:=ih x hx;exact⟨s,Ψ _ hs,e⟩
theorem SW.init{K:ς}{sa:List Addr}{z:Addr}{T:List Shp}{s:Shp}(h:SW c K H (sa++[z]) (T++[s])):SW c K H sa T/\SO c K H sa z s:=by
 have hl:sa.length=T.length:=by have:=h.1;rw[ν,ν]at this;exact lc this
 refine⟨⟨hl,fun i a u h1 h2=>?_⟩,?_⟩
 ·have hi:i<sa.length:=(ε.mp h1).1;have:=h.2 i a u (wK h1) (by rw[ii (by omega)];exact h2);rw[List.take_append_of_le_length (by omega)]at this;exact this
 ·have:=h.2 sa.length z s (by rw[ic (ξ _),mr];rfl) (by rw[hl,ic (ξ _),mr];rfl);rw[List.take_left' rfl]at this;exact this
theorem aKj(c:Nat):∀ps:List (List Nat),(jn c ps).length<=(ps.map (·.length)).sum+ps.length
 |[]=>ξ _
 |[p]=>by show p.length<=(p.length+0)+1;omega
 |p::q::r=>by
  have ih:=aKj c (q::r);show(p++c::jn c (q::r)).length<=_;rw[ν,Γ,ki,sv,Γ];omega
theorem gK{α : Type}{f : α->Nat}{m:Nat}: ∀{l:List α},(∀x∈l,f x<=m)->(l.map f).sum<=l.length*m
 |[],_=>ij _
 |x::l,h=>by
  have h1:=h x (Δ ..);have h2:=gK (f:=f) (l:=l) fun y hy=>h y (Ψ _ hy);rw[ki,sv,Γ,Nat.succ_mul];omega
theorem pT{c:Nat}{ws:List Str}{m:Nat}(h:∀w∈ws,w.length<=m):(jo ⟨#[c]⟩ ws).length<=ws.length*(m+1):=by
 have e:(jo ⟨#[c]⟩ ws).length=(jn c (ws.map fun w=>w.cps.toList)).length:=by
  rw[←nS];exact(lj).symm
 rw[e];refine iq (aKj _ _) ?_;rw[jp,δ,Nat.mul_add,Nat.mul_one];exact Nat.add_le_add_right (gK fun w hw=>by show w.cps.toList.length<=m;rw[lj];exact h w hw) _
theorem iN{ns:List Nat}{i:Nat}(h:(ns.map fun n:Nat=>V.int n)[i]?=some x):∃c:Nat,ns[i]?=some c/\x=.int c:=by
 rw[υ]at h;cases e:ns[i]? with
 |none=>rw[e]at h;cases h
 |some c=>rw[e]at h;cases h;exact⟨c,rfl,rfl⟩
theorem xM{ss:List Addr}{i:Nat}(h:ss[i]?=some s):atI (ss.map V.ref) (i:Int)=some (.ref s):=vT (by rw[υ,h];rfl)
theorem pL{ss:List Str}{i:Nat}(h:ss[i]?=some s):atI (ss.map V.str) (i:Int)=some (.str s):=vT (by rw[υ,h];rfl)
theorem LX.at{K:ς}(h:LX K H sl S){i:Nat}(hi:i<S.length):∃(as:List Addr) (s l:Addr) (ps:List Addr),SqL K H sl (as.map V.ref)/\as[i]?=some s/\SqT K H s [.str (S[i]).1,.ref l]/\SqL K H l (ps.map V.ref)/\LF K H ps (S[i]).2:=by
 obtain⟨as,h1,h2⟩:=h;have hl:=h2.len;have ha:as[i]?=some (as[i]'(by omega)):=ζ _;obtain⟨s,hs,l,ps,q1,q2,q3⟩:=h2.get ha;rw[ζ hi]at hs;cases hs;exact⟨as,_,l,ps,h1,ha,q1,q2,q3⟩
def offs (xs:List Addr) (H:Hp):Hp:=fun b=>if b∈xs then none else H b
theorem qI{xs:List Addr}{a:Addr}{H:Hp}(n:a∉xs)(h:H a=some o):offs xs H a=some o:=by unfold offs;rw[if_neg n];exact h
theorem jM : jJ (offs xs H) H:=fun b o q=>by
 unfold offs at q
 split at q
 ·cases q
 ·exact q
theorem xV{xs:List Addr}{H H':Hp}(h:∀b o,b∉xs->H b=some o->H' b=some o):jJ (offs xs H) (offs xs H'):=fun b o q=>by
 unfold offs at q ⊢
 split at q
 ·cases q
 ·rename_i n;rw[if_neg n];exact h b o n q
theorem jZ(g:jJ H H'):jJ (offs xs H) (offs xs H'):=xV fun b o _ q=>g b o q
theorem pS{xs ys:List Addr}(h:∀b,b∈xs->b∈ys):jJ (offs ys H) (offs xs H):=fun b o q=>by
 unfold offs at q ⊢
 split at q
 ·cases q
 ·rename_i n;rw[if_neg fun z=>n (h b z)];exact q
def Al (xs:List Addr) (H:Hp):Prop:=∀b∈xs,∃o,H b=some o
theorem Al.same(h:Al xs H)(g:jJ H H'):Al xs H':=fun b hb=>by
 obtain⟨o,ho⟩:=h b hb;exact⟨o,g _ _ ho⟩
theorem Al.new{H:Hp}(h:Al xs H)(ht:H t=none):t∉xs:=fun z=>by
 obtain⟨o,ho⟩:=h t z;rw[ht]at ho;cases ho
end L2
namespace L2
open PySem PySem.Spec PyProof.Rows
theorem oB(h:(qN P w).is k u=true):RelV (kV k) u:=by
 rcases qU (show pH k u=true from h) with⟨i,t,rfl,rfl⟩|⟨x,t,rfl,rfl⟩
 ·exact⟨t,rfl⟩
 ·exact⟨t,rfl⟩
def epOf (o:Obj):Nat:=match o.data with | .dict _ ep=>ep|_=>0
theorem Inv.frozen{H:Hp}(I:Inv X pins σ H s)(e:H a=some (.dK kvs)):∃o,s.heap.get? a=some o/\Inv X pins σ (upd H a (.frz o (.dK kvs))) s:=by
 obtain⟨z,hd,vs,rel,dd⟩:=mL I.hok e;obtain⟨o,es,ep,ho,r⟩:=id dd;exact⟨o,ho,I.write (x:=a) (e:=a) (h':=s.heap) (t':=s.toks) (by rw[e];exact ju) (.inl rfl) (fun _ _ _ q=>q) ⟨o,ho⟩ ⟨ho,aAd z hd rel dd⟩⟩
theorem lJ{H:Hp}(ok:HOk P w H h)(e:H a=some (.frz o (.dK kvs))):(a == jw)=false/\∃vs,KV kvs vs/\h.DictAt (qN P w) a vs (epOf o):=by
 obtain⟨h1,z,hd,vs,rel,q,es,ep,hq,h2,h3,r⟩:=(show vE P w H h a (.frz o (.dK kvs)) from ok a _ e);rw[h1]at hq;cases hq;refine⟨hd,vs,rel,o,es,h1,h2,?_,r⟩;rw[h3];unfold epOf;rw[h3]
theorem KV.get:∀{kvs:List (Key×V)}{vs:List (Key×Value)},KV kvs vs->∀{i:Nat}{kv:Key×V},kvs[i]?=some kv->∃u,vs[i]?=some (kv.1,u)
 |_,_,.nil,_,_,e=>by simp at e
 |_,_,.cons (a:=p) (b:=q) r _,0,kv,e=>by
  simp at e;subst e;exact⟨q.2,by simp[r.1]⟩
 |_,_,.cons _ t,i+1,kv,e=>by
  obtain⟨u,h⟩:=KV.get t (i:=i) (kv:=kv) (by simpa using e);exact⟨u,by simpa using h⟩
def Itd (a:Addr) (o:Obj) (kvs:List (Key×V)):It :=
 ⟨fun i H=>H a=some (.frz o (.dK kvs))/\i<kvs.length,fun i H x H'=>H'=H/\∃kv,kvs[i]?=some kv/\x=kV kv.1,fun i H=>H a=some (.frz o (.dK kvs))/\kvs.length<=i⟩
theorem aJe{K:ς}(a it:Addr)(o:Obj)(kvs:List (Key×V)):Turn P w K tg (Itd a o kvs) [it] it (fun i h=>h.IsKeyIter it a i kvs.length (epOf o)) where
 mem:=by simp
 obj:=fun i h st b hb=>by
  have e:b=it:=by simpa using hb
  subst e;obtain⟨o,e,c,d⟩:=st;exact⟨o,e,fun v z=>by rw[d]at z;cases z⟩
 keep:=fun i h h' st k=>st.at fun o e=>k it (by simp) o e
 item:=by
  intro X hP hw hK hc i pins s σ H E I hf st hg;subst hP hw hK;obtain⟨hq,hi⟩:=hg;obtain⟨_,vs,rel,dd⟩:=lJ I.hok hq;obtain⟨u,hu⟩:=KV.get rel (i:=i) (kv:=kvs[i]) (by simp[hi]);obtain⟨f0,f1,f2,f3,f4,f5⟩:=hf it (by simp);have hl:kvs.length=vs.length:=om rel;rw[hl]at st;refine wpAny_pyNext_dict_item st dd hu fun key h' hk st' sb=>?_;have I1:Inv X pins σ H { s with heap:=h' }:=I.turned (t':=s.toks) (fun b o hb e=>(sb.2 b hb).trans e) f0 f1 f3 f4 f5;exact⟨key,rfl,letGo_keyiter st' ⟨kV kvs[i].1,H,I1,oB hk,⟨rfl,kvs[i],by simp[hi],rfl⟩,by rw[hl];exact st',fun b hb=>(hf b hb).1⟩⟩
 done:=by
  intro X hP hw hK hc i pins s σ H E I hf st hg;subst hP hw hK;obtain⟨hq,hi⟩:=hg;obtain⟨_,vs,rel,dd⟩:=lJ I.hok hq;obtain⟨f0,f1,f2,f3,f4,f5⟩:=hf it (by simp);have hl:kvs.length=vs.length:=om rel;rw[hl]at st hi;exact wpAny_pyNext_dict_end (I.ok.hd hc) st dd (by simp;omega) fun h' eb=>⟨rfl,I.turned (t':=s.toks) (fun b o hb e=>eb b o hb e) f0 f1 f3 f4 f5⟩
 self:=fun _ _ _ _ _ st h=>wpAny_pyIter_keyiter st h
def iDict (tl:TE):TI:=fun σ H R=>tl σ H fun x H1=>∃a kvs,x=.ref a/\H1 a=some (.dK kvs)/\∀o,R (Itd a o kvs) (upd H1 a (.frz o (.dK kvs)))
theorem aNu(hl:PE X l tl):PI X tg l (iDict tl):=by
 intro pins s σ H R I h;refine thn (hl pins s σ H _ I h) fun v s1 zq=>?_;obtain⟨x,H1,I1,r1,q1⟩:=zq;obtain⟨a,kvs,e,hq,q⟩:=q1;subst e;cases r1;obtain⟨o,ho,I2⟩:=I1.frozen hq;obtain⟨hd,vs,rel,dd⟩:=lJ I2.hok (jT);have hl:kvs.length=vs.length:=om rel;refine wpAny_pyIter_dict hd dd ?_;refine⟨s1.heap.objs.size,[s1.heap.objs.size],_,_,_,rfl,I2.kept (t':=s1.toks) fun b o e=>Θ _ e,aJe a _ o kvs,⟨_,jb _ rfl,rfl,?_⟩,fun b hb=>?_,q o⟩
 ·rw[hl];rfl
 have e:b=s1.heap.objs.size:=by simpa using hb
 subst e;exact I2.fpOk (ξ _) (I2.hok.fresh (ξ _))
end L2
namespace L2.TX
open PySem PySem.Spec PyProof.Rows
section
variable {prog:lu}{w:my}{A:mj}{R:Result->χ->Prop}{I:Addr}{fp wr:List Addr}{G:Array GenState->Array GenState->Prop}{n:Nat}{P:Nat->Value->Prop}{St:Nat->χ->Prop}
end
end L2.TX
namespace L2
open PySem PySem.Spec PyProof.Rows
theorem aRa{X:Cx}(hu:X.A.units+64<qi):OpR X (lh .Eq) (fun x y H Q=>∃(a b:Addr) (xs:List V),x=.ref a/\y=.ref b/\SqT X.K H a xs/\SqT X.K H b []/\Q (.bl xs.isEmpty) H):=by
 intro pins s σ H x y v u Q I rx ry h;obtain⟨a,b,xs,rfl,rfl,ha,hb,q⟩:=h;cases rx;cases ry;obtain⟨i1,r1,p1,_⟩:=I.tuple ha;obtain⟨i2,r2,p2,_⟩:=I.tuple hb;cases r2;refine SeqAt.eq_tupleAt (e:=fun _=>true) (show s.heap.IsTuple a i1.toArray from p1) (show s.heap.IsTuple b ([]:List Value).toArray from p2) (by omega) (fun j _ h2=>absurd h2 (uv _)) ?_;refine⟨.bl xs.isEmpty,H,I,?_,q⟩;cases r1 with
 |nil=>rfl
 |cons _ _=>rfl
structure InsC (K:ς) (C:Addr):Prop where
 cl:Cls K C
 ha:ql K (.ref C) "__class__" = some (some (.builtin "object.__class__"))
 hn:PySem.W.specialIn K (.builtin "object.__class__") "__get__" = some (some (.builtin "getset_descriptor.__get__"))
 htk:PySem.W.takesIn K (.builtin "object.__class__")=some true
 hm:uh K C (.type "object")=some true
theorem InsC.ty{K:ς}(c:InsC K C){H:Hp}(e:H a=some (.ins C dx fs)):gY K H (.ref a) (.ref C):=.ins e c.cl c.ha c.hn c.htk c.hm
theorem dM{X:Cx}{K:ς}(hK:X.K=K):vR X (.builtin "isinstance") (fun xs H Q=>∃(x:V) (D:Addr) (t:Value) (b:Bool),xs=[x,.ref D]/\gY K H x t/\jz K t (.ref D)=some b/\Q (.bl b) H):=by
 intro pins s σ H xs us Q I r h;obtain⟨x,D,t,b,rfl,ht,hk,q⟩:=h;subst hK;obtain⟨u,w',rfl,rx,rD⟩:=vals2 r;cases rD;exact aJd I rx ht hk fun tk=>⟨.bl b,H,I.tok tk,rfl,q⟩
end L2
namespace L2
open PySem
def nA (fs:List (Str×Kd)) (ds:List θ):List (θ×θ):=ig (fun (f:Str×Kd) (d:θ)=>(jg f.1,d)) fs ds
def aGz:Kd->List (Str×Kd)->List θ->θ
 |.many _ _,_,ds=>.list ds
 |_,fs,ds=>.dict (nA fs ds)
def aS (c:Kd->θ->Prop):List (Str×Kd)->List θ->Prop
 |[],[]=>True
 |f::fs,d::ds=>c f.2 d/\aS c fs ds
 |_,_=>False
def Can (S:List Shp):Nat->Kd->θ->Prop
 |_,.num w,d=>∃v:Nat,d=.int v/\v<256 ^ w
 |0,_,_=>False
 |n+1,.pick is,d=>∃(j i:Nat) (e:θ),is[j]?=some i/\d=.tuple [.int j,e]/\Can S n (.nest i) e
 |n+1,.nest i,d=>∃ds,d=aGz (.nest i) ((Kd.nest i).parts S) ds/\aS (Can S n) ((Kd.nest i).parts S) ds
 |n+1,.many m k,d=>∃ds,d=aGz (.many m k) ((Kd.many m k).parts S) ds/\aS (Can S n) ((Kd.many m k).parts S) ds
def Kd.Pd (k:Kd):Prop:=(∃i,k=.nest i)\/∃n q,k=.many n q
theorem aRk{n:Nat}{k:Kd}(hk:k.Pd):Can S (n+1) k d ↔ ∃ds,d=aGz k (k.parts S) ds/\aS (Can S n) (k.parts S) ds:=by
 rcases hk with⟨i,rfl⟩|⟨m,q,rfl⟩ <;> exact Iff.rfl
theorem aS.len : ∀{fs:List (Str×Kd)}{ds:List θ},aS c fs ds->fs.length=ds.length
 |[],[],_=>rfl
 |_::_,_::_,h=>congrArg (·+1) (aS.len h.2)
theorem aS.get{c:Kd->θ->Prop}: ∀{fs:List (Str×Kd)}{ds:List θ}{i:Nat}{f:Str×Kd},aS c fs ds->fs[i]?=some f->∃d,ds[i]?=some d/\c f.2 d
 |_::_,d::_,0,_,h,e=>by cases e;exact⟨d,rfl,h.1⟩
 |_::_,_::_,i+1,f,h,e=>aS.get (i:=i) (f:=f) h.2 e
theorem aS.app : ∀{fs gs:List (Str×Kd)}{ds es:List θ},aS c fs ds->aS c gs es->aS c (fs++gs) (ds++es)
 |[],_,[],_,_,h=>h
 |_::_,_,_::_,_,h,g=>⟨h.1,aS.app h.2 g⟩
def nx (p:Str) (b:Int):List θ->Option Int
 |.tuple [.str q,.int v]::_=>if q=p/\0<=v/\v<b then some v else none
 |_=>none
def Sml (x:Str):Prop:=x.cps.toList.all (fun c=>decide (c<128))=true
theorem Sml.short(h:Sml x):(jg x).leavesShort 200=true:=jm.mpr fun c hc=>decide_eq_true (ω (of_decide_eq_true (jm.mp h c hc)) (by decide))
theorem Sml.ok(h:Sml x):SeqAt.shaped (.str x)=true:=by
 have e:θ.canLay0 (.str x)=true:=by
  show x.cps.all (fun c=>decide (c<0x110000))=true;rw[←Array.all_toList];exact jm.mpr fun c hc=>decide_eq_true (ω (of_decide_eq_true (jm.mp h c hc)) (by decide))
 unfold SeqAt.shaped;rw[e];rfl
structure NmS (S:List Shp):Prop where
 nm:∀i,i<S.length->(kK S i).length<=6/\Sml (kK S i)
 fd:∀s∈S,∀f∈s.2,Sml f.1
theorem Sml.app(h:Sml x)(g:Sml y):Sml (x++y):=by
 unfold Sml at *;rw[qj,oq,List.all_append,h,g];rfl
theorem Sml.pj(h:Sml p)(g:Sml x):Sml (pj p x):=by
 unfold L2.pj
 split
 ·exact g
 ·exact(h.app (by unfold Sml;ac_rfl)).app g
theorem aNw:∀j:Nat,j<6->Sml (η (toString j)):=by
 have:∀j:Fin 6,Sml (η (toString j.val)):=by unfold Sml;ac_rfl
 exact fun j hj=>this ⟨j,hj⟩
theorem vG{S:List Shp}{i:Nat}(h:S[i]?=some s):(Kd.nest i).parts S=s.2:=by
 show(S.getD i _).2=_;rw[Ω,h];rfl
theorem aIm(hN:NmS S){k:Kd}(hk:k.Fit S.length){f:Str×Kd}(hf:f∈k.parts S):Sml f.1:=by
 cases k with
 |num w=>cases hf
 |nest i =>
  have hs:S[i]?=some S[i]:=ζ (show i<S.length from hk);rw[vG hs]at hf;exact hN.fd _ (mw _) f hf
 |many n q =>
  obtain⟨j,hj,rfl⟩:=iw.mp hf;exact aNw j (ω (ua.mp hj) hk.2.1)
 |pick is=>cases hf
theorem aFl(hG:Good S){k:Kd}(hp:k.Pd)(hk:k.Fit S.length):((k.parts S).map fun f=>f.2.size (tabs S).sz).sum=k.size (tabs S).sz:=by
 rcases hp with⟨i,rfl⟩|⟨n,q,rfl⟩
 ·have hs:S[i]?=some S[i]:=ζ (show i<S.length from hk);rw[vG hs];exact(gU hs fun f hf=>((hG.fit i _ hs) f hf).1.below).1.symm
 ·show(((ir n).map _).map _).sum=n*q.size (tabs S).sz;rw[jp];have:∀n:Nat,((ir n).map fun _=>q.size (tabs S).sz).sum=n*q.size (tabs S).sz:=by
   intro n;rw[List.map_const',List.sum_replicate_nat,jx]
  exact this n
theorem aRi{w v:Nat}(hw:w<=4)(h:v<256 ^ w):v<4294967296:=ω h (iq (Nat.pow_le_pow_right (by decide) hw) (by decide))
structure Sn (d:θ) (w m:Nat):Prop where
 sh:d.showable=true
 ls:d.leavesShort 200=true
 wt:d.weight<=w
 dp:d.depth<=m
structure SnA (ds:List θ) (w m:Nat):Prop where
 sh:qk ds=true
 ls:ou 200 ds=true
 wt:rq ds<=w
 dp:kh ds<=m
structure SnK (ps:List (θ×θ)) (w m:Nat):Prop where
 sh:qt ps=true
 ls:ph 200 ps=true
 wt:qa ps<=w
 dp:nv ps<=m
theorem Sm.sn(h:Sm d w m):Sn d w m:=⟨h.sh,h.ls,h.wt,h.dp⟩
theorem Sn.le{n' m':Nat}(h:Sn d n m)(hn:n<=n')(hm:m<=m'):Sn d n' m':=⟨h.sh,h.ls,iq h.wt hn,iq h.dp hm⟩
theorem SnA.nil(m:Nat):SnA [] 0 m:=⟨rfl,rfl,ξ _,ij _⟩
theorem SnA.cons{d:θ}{ds:List θ}{n m n':Nat}(h:Sn d n m)(t:SnA ds n' m):SnA (d::ds) (n+1+n') m:=by
 refine⟨?_,?_,?_,?_⟩
 ·show(d.showable&&qk ds)=true;rw[h.sh,t.sh];rfl
 ·show(d.leavesShort 200&&ou 200 ds)=true;rw[h.ls,t.ls];rfl
 ·show d.weight+1+rq ds<=_;have:=h.wt;have:=t.wt;omega
 ·exact Nat.max_le.mpr ⟨h.dp,t.dp⟩
theorem SnA.tup{ds:List θ}{n m:Nat}(t:SnA ds n m):Sn (.tuple ds) n (m+1):=⟨t.sh,t.ls,t.wt,ow t.dp⟩
theorem SnA.lst{ds:List θ}{n m:Nat}(t:SnA ds n m):Sn (.list ds) n (m+1):=⟨t.sh,t.ls,t.wt,ow t.dp⟩
theorem SnK.nil(m:Nat):SnK [] 0 m:=⟨rfl,rfl,ξ _,ij _⟩
theorem Sn.str(h:Sml x):Sn (.str x) x.length 0:=⟨rfl,h.short,ξ _,ξ _⟩
theorem SnK.cons{x:Str}{d:θ}{ps:List (θ×θ)}{n m n':Nat}(hx:Sml x)(h:Sn d n m)(t:SnK ps n' m):SnK ((.str x,d)::ps) (x.length+n+2+n') m:=by
 refine⟨?_,?_,?_,?_⟩
 ·show(true&&d.showable&&qt ps)=true;rw[h.sh,t.sh];rfl
 ·show((jg x).leavesShort 200&&d.leavesShort 200&&ph 200 ps)=true;rw[(Sn.str hx).ls,h.ls,t.ls];rfl
 ·show x.cps.size+d.weight+2+qa ps<=_;have:=h.wt;have:=t.wt;have e:x.length=x.cps.size:=rfl;omega
 ·exact Nat.max_le.mpr ⟨Nat.max_le.mpr ⟨ij _,h.dp⟩,t.dp⟩
theorem SnK.dct{ps:List (θ×θ)}{n m:Nat}(t:SnK ps n m):Sn (.dict ps) n (m+1):=⟨t.sh,t.ls,t.wt,ow t.dp⟩
theorem Sn.len(h:Sn d n m)(hn:n<=80000):d.shown.length<=τ:=by
 have h1:=θ.shown_le 200 (by decide) d h.ls;have h2:=h.wt;rw[il];omega
theorem Sn.int33{i:Int}(h0 : -1<=i)(h:i<4294967296):Sn (.int i) 33 0:=by
 refine⟨(Sm.int (by omega)).sh,(Sm.int (by omega)).ls,?_,ξ _⟩;simp only[θ.weight]
 split
 ·omega
 ·rename_i hz;have h1:i.natAbs≠0:=fun z=>hz (by rw[show i=0 by omega];rfl);have:=(Nat.log2_lt h1).mpr (show i.natAbs<2 ^ 32 by omega);omega
theorem wt14{c t n e:Nat}(hc : 1<=c)(he:e<=50): 60*c*(n+1)+e+60*t*(n+2)<=60*(c+t)*(n+2):=by
 have h1 : 60*c*(n+2)=60*c*(n+1)+60*c:=Nat.mul_succ _ _;have h2 : 60*(c+t)*(n+2)=60*c*(n+2)+60*t*(n+2):=by rw[Nat.mul_add 60 c t,Nat.add_mul]
 rw[h2,h1];omega
theorem aJv(hG:Good S)(hN:NmS S):∀{n:Nat}{k:Kd}{d:θ},k.Fit S.length->k.Rk n->Can S n k d->Sn d (60*k.size (tabs S).sz*(n+1)) (n+1):=by
 have num:∀{n w:Nat}{d:θ},(Kd.num w).Fit S.length->Can S n (.num w) d->Sn d (60*(Kd.num w).size (tabs S).sz*(n+1)) (n+1):=by
  intro n w d hf h;obtain⟨v,rfl,hv⟩ : ∃v:Nat,d=.int v/\v<256 ^ w:=by cases n <;> exact h
  have:=aRi hf.2 hv;refine(Sn.int33 (by omega) (by omega)).le ?_ (ij _);have h1 : 1<=w:=hf.1;have : 60*1*1<=60*(Kd.num w).size (tabs S).sz*(n+1):=Nat.mul_le_mul (Nat.mul_le_mul_left _ h1) (by omega);omega
 intro n
 induction n with
 |zero=>intro k d hf _ h;cases k with
  |num w=>exact num hf h
  |_=>exact h.elim
 |succ n ih =>
  have one:∀{f:Str×Kd}{d:θ},f.2.Rk n->f.2.Fit S.length->Can S n f.2 d->Sn d (60*f.2.size (tabs S).sz*(n+1)) (n+1)/\1<=f.2.size (tabs S).sz:=fun hr hf h=>⟨ih hf hr h,(hG.kd hf).1⟩;have la:∀(fs:List (Str×Kd)) (ds:List θ),(∀f∈fs,f.2.Rk n/\f.2.Fit S.length/\f.1.length<=6/\Sml f.1)->aS (Can S n) fs ds->SnA ds (60*(fs.map fun f=>f.2.size (tabs S).sz).sum*(n+2)) (n+1)/\SnK (nA fs ds) (60*(fs.map fun f=>f.2.size (tabs S).sz).sum*(n+2)) (n+1):=by
   intro fs
   induction fs with
   |nil=>intro ds _ h;cases ds with
    |nil=>exact⟨by simpa using SnA.nil _,by simpa [nA] using SnK.nil _⟩
    |cons _ _=>exact h.elim
   |cons f fs ihl=>intro ds hf h;cases ds with
    |nil=>exact h.elim
    |cons d ds =>
     obtain⟨a1,a2,a3,a4⟩:=hf f (Δ ..);obtain⟨o1,o2⟩:=one a1 a2 h.1;obtain⟨c1,c2⟩:=ihl ds (fun g hg=>hf g (Ψ _ hg)) h.2;rw[ki,sv];have w1:=wt14 (n:=n) (e:=1) (t:=(fs.map fun f=>f.2.size (tabs S).sz).sum) o2 (by decide);have w2:=wt14 (n:=n) (e:=f.1.length+2) (t:=(fs.map fun f=>f.2.size (tabs S).sz).sum) o2 (by omega);have k1:=SnA.cons o1 c1;have k2:=SnK.cons a4 o1 c2;exact⟨⟨k1.sh,k1.ls,iq k1.wt w1,k1.dp⟩,⟨k2.sh,k2.ls,iq k2.wt (by omega),k2.dp⟩⟩
  have pd:∀{k:Kd}{d:θ},k.Pd->k.Fit S.length->k.Rk (n+1)->Can S (n+1) k d->Sn d (60*k.size (tabs S).sz*(n+1+1)) (n+1+1):=by
   intro k d hk hf hr h;obtain⟨ds,rfl,hc⟩:=(aRk hk).mp h;obtain⟨z1,z2⟩:=la _ _ (fun f hf'=>by
    obtain⟨z1,z2,_,z3⟩:=Kd.parts_ok hG hf hr hf';exact⟨z1,z2,z3,aIm hN hf hf'⟩) hc
   rw[←aFl hG hk hf];rcases hk with⟨i,rfl⟩|⟨m,q,rfl⟩
   ·exact z2.dct
   ·exact z1.lst
  intro k d hf hr h;cases k with
  |num w=>exact num hf h
  |nest i=>exact pd (.inl ⟨i,rfl⟩) hf hr h
  |many c q=>exact pd (.inr ⟨c,q,rfl⟩) hf hr h
  |pick is =>
   obtain⟨j,i,e,hi,rfl,hc⟩ : ∃(j i:Nat) (e:θ),is[j]?=some i/\d=.tuple [.int j,e]/\Can S n (.nest i) e:=h;have hm:=ι hi;have hl:=hf.2.2.2 i hm;have hj:j<is.length:=(ε.mp hi).1;have h4:=hf.2.1;have k1:=ih (k:=.nest i) hl (show 2*i+2<=n by have:=hr i hm;omega) hc;have hs:(Kd.nest i).size (tabs S).sz<=vW (is.map fun i=>(tabs S).sz.getD i 0):=iJ (iw.mpr ⟨i,hm,rfl⟩);have w1:=wt14 (n:=n) (c:=1) (e:=1) (t:=vW (is.map fun i=>(tabs S).sz.getD i 0)) (ξ _) (by decide);have k2:=(SnA.cons ((Sn.int33 (i:=(j:Int)) (by omega) (by omega)).le (ξ _) (ij _)) (SnA.cons k1 (SnA.nil _))).tup;refine k2.le ?_ (ξ _);show 33+1+(60*(Kd.nest i).size (tabs S).sz*(n+1)+1+0)<=60*(1+vW (is.map fun i=>(tabs S).sz.getD i 0))*(n+2);generalize 60*(1+vW (is.map fun i=>(tabs S).sz.getD i 0))*(n+2)=z at *;have w2 : 60*(Kd.nest i).size (tabs S).sz*(n+1)<=60*vW (is.map fun i=>(tabs S).sz.getD i 0)*(n+2):=Nat.mul_le_mul (Nat.mul_le_mul_left _ hs) (by omega);have w3 : 60<=60*1*(n+1):=Nat.le_mul_of_pos_right _ (by omega);omega
end L2
namespace L2
open PySem PySem.Spec PyProof.Rows
mutual
inductive Dt (z:Bool) (K:ς) (H:Hp):V->θ->Prop
 |non:Dt z K H .non .none
 |bl (b:Bool):Dt z K H (.bl b) (.bool b)
 |int (i:Int):Dt z K H (.int i) (.int i)
 |str (x:Str):Dt z K H (.str x) (.str x)
 |lst {a:Addr}{xs:List V}{ds:List θ} : SqL K H a xs->(z=true->a≠jw)->Dts z K H xs ds->Dt z K H (.ref a) (.list ds)
 |tup {a:Addr}{xs:List V}{ds:List θ} : SqT K H a xs->Dts z K H xs ds->Dt z K H (.ref a) (.tuple ds)
 |dct {a:Addr}{ks:List Str}{xs:List V}{ds:List θ} : H a=some (.dK (ig (fun k v=>((.inr k:Key),v)) ks xs))->ks.length=xs.length->Dts z K H xs ds->Dt z K H (.ref a) (.dict (ig (fun k d=>(jg k,d)) ks ds))
inductive Dts (z:Bool) (K:ς) (H:Hp):List V->List θ->Prop
 |nil:Dts z K H [] []
 |cons {x:V}{xs:List V}{d:θ}{ds:List θ} : Dt z K H x d->Dts z K H xs ds->Dts z K H (x::xs) (d::ds)
end
mutual
theorem Dt.same{K:ς}(g:jJ H H'):∀{x:V}{d:θ},Dt z K H x d->Dt z K H' x d
 |_,_,.non=>.non
 |_,_,.bl b=>.bl b
 |_,_,.int i=>.int i
 |_,_,.str x=>.str x
 |_,_,.lst h n t=>.lst (g.seq h) n (Dts.same g t)
 |_,_,.tup h t=>.tup (g.tp h) (Dts.same g t)
 |_,_,.dct h l t=>.dct (g _ _ h) l (Dts.same g t)
theorem Dts.same{K:ς}(g:jJ H H'):∀{xs:List V}{ds:List θ},Dts z K H xs ds->Dts z K H' xs ds
 |_,_,.nil=>.nil
 |_,_,.cons h t=>.cons (Dt.same g h) (Dts.same g t)
end
mutual
theorem Dt.any{K:ς}: ∀{x:V}{d:θ},Dt z K H x d->Dt false K H x d
 |_,_,.non=>.non
 |_,_,.bl b=>.bl b
 |_,_,.int i=>.int i
 |_,_,.str x=>.str x
 |_,_,.lst h n t=>.lst h (fun z=>nomatch z) (Dts.any t)
 |_,_,.tup h t=>.tup h (Dts.any t)
 |_,_,.dct h l t=>.dct h l (Dts.any t)
theorem Dts.any{K:ς}: ∀{xs:List V}{ds:List θ},Dts z K H xs ds->Dts false K H xs ds
 |_,_,.nil=>.nil
 |_,_,.cons h t=>.cons (Dt.any h) (Dts.any t)
end
mutual
theorem Dat.dt{K:ς}: ∀{x:V}{d:θ},Dat K H x d->Dt false K H x d
 |_,_,.non=>.non
 |_,_,.bl b=>.bl b
 |_,_,.int i=>.int i
 |_,_,.str x=>.str x
 |_,_,.lst h t=>.lst h (fun z=>nomatch z) (DatAll.dt t)
 |_,_,.tup h t=>.tup h (DatAll.dt t)
theorem DatAll.dt{K:ς}: ∀{xs:List V}{ds:List θ},DatAll K H xs ds->Dts false K H xs ds
 |_,_,.nil=>.nil
 |_,_,.cons h t=>.cons (Dat.dt h) (DatAll.dt t)
end
theorem Dts.length{z:Bool}{K:ς}{H:Hp}: ∀{xs:List V}{ds:List θ},Dts z K H xs ds->xs.length=ds.length
 |_,_,.nil=>rfl
 |_,_,.cons _ t=>congrArg (·+1) (Dts.length t)
theorem Dts.get{K:ς}: ∀{xs:List V}{ds:List θ}{i:Nat}{d:θ},Dts z K H xs ds->ds[i]?=some d->∃x,xs[i]?=some x/\Dt z K H x d
 |_,_,_,_,.nil,e=>by simp at e
 |_,_,0,_,.cons h _,e=>by simp at e;subst e;exact⟨_,rfl,h⟩
 |_,_,i+1,d,.cons _ t,e=>by
  obtain⟨x,h1,h2⟩:=Dts.get (i:=i) (d:=d) t (by simpa using e);exact⟨x,by simpa using h1,h2⟩
theorem Dts.snoc{K:ς}: ∀{xs:List V}{ds:List θ}{x:V}{d:θ},Dts z K H xs ds->Dt z K H x d->Dts z K H (xs++[x]) (ds++[d])
 |_,_,_,_,.nil,h=>.cons h .nil
 |_,_,_,_,.cons h t,g=>.cons h (Dts.snoc t g)
theorem Dt.ty{K:ς}(h:Dt z K H x d):tyM K x H (tyD d):=by
 cases h with
 |lst h _ _=>exact .inl (.inl ⟨rfl,_,h⟩)
 |tup h _=>exact .inl (.inr ⟨rfl,_,h⟩)
 |dct h _ _=>exact .inr ⟨rfl,_,_,rfl,h⟩
 |_=>exact .inl rfl
section
variable {X:Cx}{pins:List (Addr×Obj)}{σ:St}{H:Hp}{s:χ}
theorem Inv.dkz(I:Inv X pins σ H s)(h:H a=some (.dK (ig (fun k v=>((.inr k:Key),v)) ks xs)))(hl:ks.length=xs.length):(a == jw)=false/\∃us:List Value,kJ xs us/\s.heap.DictOf (qN X.prog X.w) a (ig (fun k v=>((.inr k:Key),v)) ks us):=by
 obtain⟨_,hsm,vs,kv,dd⟩:=mL I.hok h;have:∀(ks:List Str) (xs:List V) (vs:List (Key×Value)),ks.length=xs.length->KV (ig (fun k v=>((.inr k:Key),v)) ks xs) vs->∃us,kJ xs us/\vs=ig (fun k v=>((.inr k:Key),v)) ks us:=by
  intro ks
  induction ks with
  |nil=>intro xs vs e h;cases xs with
   |nil=>cases h;exact⟨[],.nil,rfl⟩
   |cons _ _=>cases e
  |cons k ks ih=>intro xs vs e h;cases xs with
   |nil=>cases e
   |cons x xs =>
    have h':KV (((.inr k:Key),x)::ig (fun k v=>((.inr k:Key),v)) ks xs) vs:=h;cases h' with
    | @cons p q ps qs h1 h2 =>
     obtain⟨us,r,e2⟩:=ih xs qs (lc e) h2;refine⟨q.2::us,.cons h1.2 r,?_⟩;rw[e2];show q::_=((.inr k:Key),q.2)::_;have:q.1=(.inr k:Key):=h1.1.symm;rw[←this]
 obtain⟨us,r,e⟩:=this ks xs vs hl kv;exact⟨hsm,us,r,e ▸ dd⟩
theorem Inv.noSys{a:Addr}(I:Inv X pins σ H s)(e:s.heap.get? a=some o)(d:o.data=.seq its m):a≠jw:=fun z=>by
 obtain⟨_,o',_,_,e',d',_⟩:=I.mod.sys;have:=I.bk _ _ e';rw[←z,e]at this;cases this;rw[d]at d';cases d'
mutual
theorem Inv.readsT(I:Inv X pins σ H s):∀{x:V}{d:θ}{u:Value},Dt z X.K H x d->RelV x u->∃as,Reads s.heap u d as/\jw∉as
 |_,_,_,.non,r=>by cases r;exact⟨_,.none,by simp⟩
 |_,_,_,.bl b,r=>by cases r;exact⟨_,.bool b,by simp⟩
 |_,_,_,.int i,r=>by obtain⟨t,rfl⟩:=r;exact⟨_,.int i t,by simp⟩
 |_,_,_,.str x,r=>by obtain⟨t,rfl⟩:=r;exact⟨_,.str x t,by simp⟩
 |_,_,_,.lst h _ ds,r=>by
  cases r;obtain⟨its,rv,⟨o,m,e,hc,_,hd⟩,_⟩:=I.list h;obtain⟨as,ra,hn⟩:=Inv.readsTs I ds rv;exact⟨_,.list e hc hd ra,by simp only[Ξ,not_or];exact⟨lm (I.noSys e hd),hn⟩⟩
 |_,_,_,.tup h ds,r=>by
  cases r;obtain⟨its,rv,⟨o,e,hc,n,hd⟩,_⟩:=I.tuple h;obtain⟨as,ra,hn⟩:=Inv.readsTs I ds rv;exact⟨_,.tuple e hc hd ra,hn⟩
 |_,_,_,.dct (a:=a) (ks:=ks) (ds:=ds) h hl hv,r=>by
  cases r;obtain⟨hsm,us,rv,o,es,ep,e1,hx,e2,_,e3,_⟩:=I.dkz h hl;obtain⟨bs,rb,hb⟩:=Inv.readsTs I hv rv;have l1:ks.length=us.length:=hl.trans rv.length;have l2:ks.length=ds.length:=hl.trans hv.length;have keys:∀(el:List DictEntry) (ks:List Str) (us:List Value) (ds:List θ),ks.length=us.length->ks.length=ds.length->Pairs (qN X.prog X.w) el (ig (fun k v=>((.inr k:Key),v)) ks us) →
    ReadsAll s.heap (el.map (·.key)) ((ig (fun k d=>(jg k,d)) ks ds).map (·.1)) []/\el.map (·.val)=us/\(ig (fun k d=>(jg k,d)) ks ds).map (·.2)=ds:=by
   intro el ks
   induction ks generalizing el with
   |nil=>intro us ds z1 z2 p;cases us with
    |nil=>cases ds with
     |nil=>cases p;exact⟨.nil,rfl,rfl⟩
     |cons _ _=>cases z2
    |cons _ _=>cases z1
   |cons k ks ih=>intro us ds z1 z2 p;cases us with
    |nil=>cases z1
    |cons u us=>cases ds with
     |nil=>cases z2
     |cons d ds =>
      have p':Pairs (qN X.prog X.w) el (((.inr k:Key),u)::ig (fun k v=>((.inr k:Key),v)) ks us):=p;cases p' with
      |cons p1 p2 p3 =>
       obtain⟨q1,q2,q3⟩:=ih _ us ds (lc z1) (lc z2) p3;refine⟨.cons (as:=[]) (bs:=[]) (aIn (h:=s.heap) p1) q1,?_,?_⟩
       ·rw[ki,q2];exact congrArg (· :: us) p2
       ·show d::_=d::ds;rw[q3]
  obtain⟨k1,k2,k3⟩:=keys es.toList ks us ds l1 l2 e3;refine⟨_,.dict e1 hx.1 e2 k1 (by rw[k2,k3];exact rb),?_⟩;have ha:jw≠a:=fun z=>by rw[←z]at hsm;simp at hsm
  simp only[uq,ly,qg,Ξ,not_or];exact⟨ha,hb⟩
theorem Inv.readsTs(I:Inv X pins σ H s):∀{xs:List V}{ds:List θ}{us:List Value},Dts z X.K H xs ds->kJ xs us->∃as,ReadsAll s.heap us ds as/\jw∉as
 |_,_,_,.nil,r=>by cases r;exact⟨_,.nil,by simp⟩
 |_,_,_,.cons h t,r=>by
  cases r with
  |cons r1 r2 =>
   obtain⟨a1,e1,n1⟩:=Inv.readsT I h r1;obtain⟨a2,e2,n2⟩:=Inv.readsTs I t r2;exact⟨_,.cons e1 e2,by simp only[je,not_or];exact⟨n1,n2⟩⟩
end
def DtR (K:ς) (H:Hp) (x:V) (d:θ):Prop:=Dt true K H x d\/Dt false K H x d\/(Dat K H x d/\d.hasDict=false)
def aQp (K:ς):List V->Hp->VK->Prop:=fun xs H Q=>∃x d,xs=[x]/\DtR K H x d/\d.showable=true/\d.depth<=60/\d.shown.length<=τ/\Q (.str d.shown) H
theorem bN{K:ς}(hK:X.K=K)(hg:X.A.guards=some [])(hu:X.A.units+64<qi):vR X (.builtin "repr") (aQp K):=by
 subst hK;intro pins s σ H xs us Q I r h;obtain⟨x,d,rfl,hd,hs,hdep,hsz,q⟩:=h;obtain⟨u,rfl,rx⟩:=r.one;have fin:∀(h':nc) (u:Tok) (tk:Nat),(∀b o,s.heap.get? b=some o->h'.get? b=some o)->EP X pins σ Q (.str d.shown u) { s with heap:=h',toks:=tk }:=fun h' u tk hk=>⟨.str d.shown,H,I.kept hk,⟨u,rfl⟩,q⟩;have rd:∃as,Reads s.heap u d as/\(d.hasDict=true->jw∉as):=by
  rcases hd with hd|hd|⟨hd,n⟩
  ·obtain⟨as,ra,hn⟩:=I.readsT hd rx;exact⟨as,ra,fun _=>hn⟩
  ·obtain⟨as,ra,hn⟩:=I.readsT hd rx;exact⟨as,ra,fun _=>hn⟩
  ·obtain⟨as,ra⟩:=I.reads hd rx;exact⟨as,ra,θ.noDict_hsm n⟩
 obtain⟨as,ra,hn⟩:=rd;cases ra with
 |none=>exact P.repr_of_none (fin s.heap _ _ (fun _ _ e=>e))
 |bool b=>cases b <;> exact P.repr_of_bool (fin s.heap _ _ (fun _ _ e=>e))
 |int i t=>exact P.repr_of_int (by simpa [θ.showable] using hs) (fin s.heap _ _ (fun _ _ e=>e))
 |str x t=>exact P.repr_of_str (fin s.heap _ _ (fun _ _ e=>e)) hsz
 |list h1 h2 h3 h4=>exact repr_of_reads' (.list h1 h2 h3 h4) hs hn hg (by omega) (fun _ _ e=>e) fin hsz
 |tuple h1 h2 h3 h4=>exact repr_of_reads' (.tuple h1 h2 h3 h4) hs hn hg (by omega) (fun _ _ e=>e) fin hsz
 |dict h1 h2 h3 h4 h5=>exact repr_of_reads' (.dict h1 h2 h3 h4 h5) hs hn hg (by omega) (fun _ _ e=>e) fin hsz
end
end L2
namespace L2
open PySem PySem.Spec PyProof.Rows PySem.SeqAt
open AutoSeq1 (wpAny_loadPart')
open MeetsSeq MeetsSeq2 MeetsSeq3 SeqRoads2
def EqP (P:lu) (w:my) (A:mj) (s:χ) (y x:Value):Prop:=∀(E:Value->χ->Prop) (Q:Bool->χ->Prop),Q true s->iz (jj P w) A (eqBool y x) Q E s
def RcP (P:lu) (w:my) (A:mj) (s:χ) (y x:Value):Prop:=∀(E:Value->χ->Prop) (Q:Value->χ->Prop),Q (.bool true) s->iz (jj P w) A (richCompare .Eq y x) Q E s
section
variable {P:lu}{w:my}{A:mj}{s:χ}
theorem EqP.of(h:EqAt A s y x true):EqP P w A s y x:=fun E Q q=>h P w E Q q
theorem EqP.refs{l b:Addr}(h:l≠b->RcP P w A s (.ref l) (.ref b)):EqP P w A s (.ref l) (.ref b):=by
 by_cases e:l=b
 ·subst e;exact .of (EqAt.same _)
 ·intro E Q q;unfold eqBool;refine qf (wpAny_ite_split (fun hab=>absurd (by have:=eq_of_beq hab;injection this) e) fun _=>?_);exact ψ (h e E _ (lq q))
theorem loopP(l b:Addr)(xs ys:Array Value)(n m:Nat)(d1 d2:Option Addr)(s1 s2:Array (Option Value))(hz:xs.size=ys.size)(k:Nat):
  ∀i:Nat,xs.size-i=k->MeetsIn P w (si.«list.__eq__.loop» ⟨[.ref l,.ref b,rawInt i,rawInt 2],[]⟩)
   (fun A R s=>s.heap.get? l=some ⟨.type "list",d1,.seq xs n,s1⟩/\s.heap.get? b=some ⟨.type "list",d2,.seq ys m,s2⟩/\(∀j (h1:j<xs.size) (h2:j<ys.size),EqP P w A.in1 s xs[j] ys[j])/\R (.ok (.ret (.bool true))) s):=by
 induction k with
 |zero =>
  intro i hk A R s ⟨hl,hb,he,h⟩;obtain⟨hp,g,d,tk,os⟩:=s
  wp_walk using mv hl,mv hb
  rw[show xs[((i:Nat):Int).toNat]?=none by simp;omega,show ys[((i:Nat):Int).toNat]?=none by simp;omega]
  wp_walk using mv hl,mv hb
  show R (.ok (.ret (.bool (xs.size == ys.size)))) _;rw[hz];simpa using h
 |succ k ih =>
  intro i hk A R s ⟨hl,hb,he,h⟩;obtain⟨hp,g,d,tk,os⟩:=s
  wp_walk using mv hl,mv hb
  have q1:i<xs.size:=by omega
  have q2:i<ys.size:=by omega
  have hc:((i:Int)+1)=((i+1:Nat):Int):=by push_cast;rfl
  rw[show xs[((i:Nat):Int).toNat]?=some xs[i] by simp[q1],show ys[((i:Nat):Int).toNat]?=some ys[i] by simp[q2]];refine ψ (he i q1 q2 _ _ ?_)
  wp_walk
  rw[hc];exact⟨plainId_quiet plain_eq_loop _,codeAny_builtin entry_eq_loop (by
   rw[mj.under_plainId plain_eq_loop _];exact ih (i+1) (by omega) A R _ ⟨hl,hb,he,h⟩)⟩
theorem RcP.lists(hl:s.heap.IsList l xs)(hb:s.heap.IsList b ys)(hz:xs.size=ys.size)(hu:A.units<qi)(he:∀j (h1:j<xs.size) (h2:j<ys.size),EqP P w A.in1 s xs[j] ys[j]):RcP P w A s (.ref l) (.ref b):=fun E Q q=>by
 obtain⟨⟨c1,d1,t1,s1⟩,ho,hc,n,hd⟩:=hl;obtain⟨⟨c2,d2,t2,s2⟩,ho2,hc2,m,hd2⟩:=hb;simp only at hc hd hc2 hd2;subst hc hd hc2 hd2;refine qe (op:=.Eq) ⟨_,ho,rfl⟩ ⟨_,ho2,rfl⟩ F.slot_list_eq (call_meetsIn F.slot_list_eq ⟨_,ho,rfl⟩ F.entry_list_eq (F.args_list_eq_2 _ _) (S:=fun A R s=>s.heap.get? l=some ⟨.type "list",d1,.seq xs n,s1⟩/\s.heap.get? b=some ⟨.type "list",d2,.seq ys m,s2⟩/\(∀j (h1:j<xs.size) (h2:j<ys.size),EqP P w A.in1 s xs[j] ys[j])/\R (.ok (.ret (.bool true))) s) ?_ ⟨ho,ho2,he,(fun x=>nomatch x),q⟩) hu;intro A R s ⟨hl,hb,he,h⟩;obtain⟨hp,g,d,tk,os⟩:=s;have f3:=AutoSeq1.sub_list_list;have hne:¬ (xs.size != ys.size)=true:=by simp[hz]
 wp_walk using mv hl,mv hb
 exact⟨plainId_quiet plain_eq_loop _,codeAny_builtin entry_eq_loop (by
  rw[mj.under_plainId plain_eq_loop _];exact loopP l b xs ys n m d1 d2 s1 s2 hz _ 0 rfl A R _ ⟨hl,hb,he,h⟩)⟩
theorem RcP.tups(hl:s.heap.IsTuple l xs)(hb:s.heap.IsTuple b ys)(hz:xs.size=ys.size)(hu:A.units<qi)(he:∀j (h1:j<xs.size) (h2:j<ys.size),EqP P w A.in1 s xs[j] ys[j]):RcP P w A s (.ref l) (.ref b):=fun E Q q=>by
 obtain⟨⟨c1,d1,t1,s1⟩,ho,hc,n,hd⟩:=hl;obtain⟨⟨c2,d2,t2,s2⟩,ho2,hc2,m,hd2⟩:=hb;simp only at hc hd hc2 hd2;subst hc hd hc2 hd2;refine qe (op:=.Eq) ⟨_,ho,rfl⟩ ⟨_,ho2,rfl⟩ F.slot_tuple_eq (call_meetsIn F.slot_tuple_eq ⟨_,ho,rfl⟩ F.entry_tuple_eq (F.args_tuple_eq_2 _ _) (S:=fun A R s=>s.heap.get? l=some ⟨.type "tuple",d1,.seq xs n,s1⟩/\s.heap.get? b=some ⟨.type "tuple",d2,.seq ys m,s2⟩/\(∀j (h1:j<xs.size) (h2:j<ys.size),EqP P w A.in1 s xs[j] ys[j])/\R (.ok (.ret (.bool true))) s) ?_ ⟨ho,ho2,he,(fun x=>nomatch x),q⟩) hu;refine .of_wp fun A R s zq=>?_;obtain⟨hl,hb,he,h⟩:=zq;obtain⟨hp,g,d,tk,os⟩:=s;have f2:=AutoSeq1.sub_tuple_tuple
 wp_walk using mv hl,mv hb,wpAny_forIn_list _ (fun rest b s'=>b.1=none/\s'=⟨hp,g,d,tk,os⟩/\∃i,rest=(xs.toList.zip ys.toList).drop i) _
 case turn =>
  rintro ⟨y,x⟩ rest b s' ⟨hb',rfl,i,hz'⟩;have hlt:i<(xs.toList.zip ys.toList).length:=by
   rcases Nat.lt_or_ge i (xs.toList.zip ys.toList).length with h'|h'
   ·exact h'
   ·rw[List.drop_of_length_le h']at hz';cases hz'
  have hm:i<min xs.size ys.size:=by simpa using hlt
  rw[jl hlt]at hz';injection hz' with hyx hrest;have e1:y=xs[i]'(ω hm (jy _ _)):=by have:=congrArg Prod.fst hyx;simpa using this
  have e2:x=ys[i]'(ω hm (vt _ _)):=by have:=congrArg Prod.snd hyx;simpa using this
  subst e1 e2;refine ψ (he i _ _ _ _ ?_)
  wp_walk
  exact⟨rfl,rfl,i+1,hrest⟩
 case fin =>
  rintro ⟨b1,b2⟩ s' ⟨hb',rfl,i,_⟩;simp only at hb';subst hb'
  wp_walk
  exact⟨_,rfl,by simpa [si.Tuple.tupleCompareSizes,hz] using h⟩
 case h=>exact⟨rfl,rfl,0,rfl⟩
theorem aKf{κ : Type}[DecidableEq κ]{knd:KeyKind P w κ}{nm:String}{a b:Addr}{ka kb:List (κ×Value)}{E:Value->χ->Prop}{Q:Bool->χ->Prop}(ha:(a == jw)=false)(hb:(b == jw)=false)
  (da:s.heap.DictOf knd a ka)(db:s.heap.DictOf knd b kb)(hl:ka.length=kb.length)(hits:∀(i:Nat) (k : κ) (v:Value),ka[i]?=some (k,v)->∃y,uu kb k=some y/\EqP P w A s v y)(h:Q true s):
  iz (jj P w) A (si.Dict.samePairs nm a b) Q E s:=by
 obtain⟨oa,es,ep,hoa,_,hda,hka,hpa,_⟩:=da;obtain⟨ob,fs,fp,hob,_,hdb,hkb,hpb,_⟩:=db;have la:ka.length=es.size:=by rw[←hpa.length];exact lj
 have lb:kb.length=fs.size:=by rw[←hpb.length];exact lj
 have hz:es.size=fs.size:=by omega
 have hfind:∀k,findBy knd.is fs k=uu kb k:=fun k=>by
  rw[←hpb.find k];clear lb hpb hkb hdb hob hz;obtain⟨l⟩:=fs;simp[findBy]
 unfold si.Dict.samePairs si.Dict.showsAll;rw[if_neg (by rw[ha];exact π),if_neg (by rw[hb];exact π)];refine ψ (io (ψ (io (ψ (vj hoa hda ?_)))));dsimp only;refine ψ (vj hob hdb ?_);rw[if_neg (by rw[hz];simp)];refine ψ (wpAny_dictEpoch hoa hda (ψ ?_));rw[Std.Legacy.Range.forIn_eq_forIn_range'];simp only[Std.Legacy.Range.size,Nat.sub_zero,Nat.add_sub_cancel,Nat.div_one];refine wpAny_forIn_list _ (fun rest q s'=>s'=s/\q=(none,())/\∃i,rest=List.range' i (es.size-i)/\i<=es.size) _ ?_ ?_ _ _ ⟨rfl,rfl,0,by simp,ij _⟩
 ·rintro x rest q s' ⟨rfl,rfl,i,hr,hi⟩;have hlt:i<es.size:=by
   rcases Nat.lt_or_ge i es.size with z|z
   ·exact z
   ·rw[Nat.sub_eq_zero_of_le z]at hr;simp at hr
  obtain⟨rfl,hrest⟩ : x=i/\rest=List.range' (i+1) (es.size-(i+1)):=by
   rw[show es.size-i=(es.size-(i+1))+1 by omega,List.range'_succ]at hr;injection hr with h1 h2;exact⟨h1,h2⟩
  refine ψ (vj hoa hda ?_);rw[nh hlt];have hlt':x<ka.length:=by rw[la];exact hlt
  obtain⟨k,v,hkv⟩ : ∃k v,ka[x]=(k,v):=⟨_,_,rfl⟩;have hg:ka[x]?=some (k,v):=by rw[ζ hlt',hkv]
  obtain⟨hkey,hval⟩:=hpa.get? (i:=x) (e:=es[x]) (k:=k) (v:=v) (by rw[sx];exact nh hlt) hg;obtain⟨k',hk',hh⟩:=hka es[x] (Array.getElem_mem hlt);rw[knd.inj _ _ _ hk' hkey]at hh;obtain⟨y,hy,he⟩:=hits x k v hg;show iz _ _ (holding [es[x].key,es[x].val] _ >>= _) _ _ _;rw[hh];refine ψ (qf (ψ (wpAny_dictFind_of hkey hob hdb hkb ?_)));cases hj:fs.findIdx? fun e=>knd.is k e.key with
  |none=>exact absurd hy (by rw[←hfind k,findBy_of_findIdx?,hj];exact fun z=>nomatch z)
  |some j =>
   obtain⟨hjlt,_,_⟩:=Array.findIdx?_eq_some_iff_getElem.mp hj;have hv':uu kb k=some fs[j].val:=by
    rw[←hfind k,findBy_of_findIdx?,hj];simp[nh hjlt]
   refine ψ (vj hob hdb ?_);rw[nh hjlt];have ey:fs[j].val=y:=jv (hv'.symm.trans hy);rw[←ey,←hval]at he;refine qf (he _ _ ?_);show iz _ _ (if (!true)=true then _ else _) _ _ _;rw[if_neg (by decide)];refine ψ (wpAny_dictEpoch hoa hda ?_);rw[if_neg (by simp)];exact io ⟨rfl,rfl,x+1,hrest,hlt⟩
 ·rintro q s' ⟨rfl,rfl,_⟩;exact io h
theorem cmpP{κ : Type}[DecidableEq κ]{knd:KeyKind P w κ}{a b:Addr}{ka kb:List (κ×Value)}(ng:Bool){E:Value->χ->Prop}{Q:Value->χ->Prop}(ha:(a == jw)=false)(hb:(b == jw)=false)
  (da:s.heap.DictOf knd a ka)(db:s.heap.DictOf knd b kb)(hl:ka.length=kb.length)(hu:A.units<qi)(hits:∀(i:Nat) (k : κ) (v:Value),ka[i]?=some (k,v)->∃y,uu kb k=some y/\EqP P w A.in1 s v y)(h:Q (.bool (!ng)) s):
  iz (jj P w) A (lh (if ng then .NotEq else .Eq) (.ref a) (.ref b)) Q E s:=by
 cases ng
 ·refine qe (op:=.Eq) da.typeIs db.typeIs PySem.F.slot_dict_eq (vw PySem.F.slot_dict_eq da.typeIs PySem.F.entry_dict_eq ?_ (PySem.F.args_dict_eq_2 _ _)) hu;show iz _ _ (qo "__eq__" ⟨[.ref a,.ref b],[]⟩ >>= _) _ _ s;unfold qo;refine ψ (ψ (wpAny_notOrdered_dict da.typeIs ?_));refine io (ψ (wpAny_isInstance (T:="dict") db.typeIs PySem.F.sub_dict_dict ?_));simp only[Bool.not_true,uz,if_false];refine ψ (io (ψ (io (ψ (aKf ha hb da db hl hits (io ⟨_,rfl,(fun x=>nomatch x),h⟩))))))
 ·refine qe (op:=.NotEq) da.typeIs db.typeIs PySem.F.slot_dict_ne (vw PySem.F.slot_dict_ne da.typeIs PySem.F.entry_dict_ne ?_ (PySem.F.args_dict_ne_2 _ _)) hu;show iz _ _ (qo "__ne__" ⟨[.ref a,.ref b],[]⟩ >>= _) _ _ s;unfold qo;refine ψ (ψ (wpAny_notOrdered_dict da.typeIs ?_));refine io (ψ (wpAny_isInstance (T:="dict") db.typeIs PySem.F.sub_dict_dict ?_));simp only[Bool.not_true,uz,if_false];refine ψ (io (ψ (io (ψ (aKf ha hb da db hl hits (io ⟨_,rfl,(fun x=>nomatch x),h⟩))))))
end
theorem zip_get{κ : Type}: ∀{ks:List Str}{us:List κ}{i:Nat}{k:Key}{v : κ},(ig (fun k v=>((.inr k:Key),v)) ks us)[i]?=some (k,v)->us[i]?=some v/\∃x,ks[i]?=some x/\k=.inr x
 |[],_,_,_,_,e=>by simp at e
 |_::_,[],_,_,_,e=>by simp at e
 |x::_,_::_,0,_,_,e=>by simp at e;obtain⟨rfl,rfl⟩:=e;exact⟨rfl,x,rfl,rfl⟩
 |_::ks,_::us,i+1,k,v,e=>zip_get (ks:=ks) (us:=us) (i:=i) (k:=k) (v:=v) (by simpa using e)
theorem aFy{κ : Type}: ∀{ks:List Str}{us:List κ}{i:Nat}{x:Str}{v : κ},((ig (fun k v=>((.inr k:Key),v)) ks us).map (·.1)).Nodup->ks[i]?=some x->us[i]?=some v->(ig (fun k v=>((.inr k:Key),v)) ks us).find? (fun kv=>decide (kv.1=(.inr x:Key)))=some (.inr x,v)
 |[],_,_,_,_,_,e,_=>by simp at e
 |_::_,[],_,_,_,_,_,e=>by simp at e
 |y::_,_::_,0,_,_,_,e,e2=>by simp at e e2;subst e e2;show List.find? _ (_::_)=_;rw[List.find?_cons_of_pos (by simp)]
 |y::ks,u::us,i+1,x,v,n,e,e2=>by
  have n':((.inr y:Key)::(ig (fun k v=>((.inr k:Key),v)) ks us).map (·.1)).Nodup:=n;have ih:=aFy (ks:=ks) (us:=us) (i:=i) (x:=x) (v:=v) (md.mp n').2 (by simpa using e) (by simpa using e2);show List.find? _ (((.inr y:Key),u)::_)=_;rw[List.find?_cons_of_neg]
  ·exact ih
  ·simp only[decide_eq_true_eq];intro z;refine(md.mp n').1 ?_;rw[z];exact iw.mpr ⟨_,List.mem_of_find?_eq_some ih,rfl⟩
section
variable {X:Cx}{pins:List (Addr×Obj)}{σ:St}{H:Hp}{s:χ}
theorem Inv.hits{us:List Value}(hd:((ig (fun k v=>((.inr k:Key),v)) ks vs).map (·.1)).Nodup)(e:us.length=vs.length)(h:∀j (h1:j<us.length) (h2:j<vs.length),EqP X.prog X.w A s us[j] vs[j]):
  ∀(i:Nat) (k:Key) (v:Value),(ig (fun k v=>((.inr k:Key),v)) ks us)[i]?=some (k,v)->∃y,uu (ig (fun k v=>((.inr k:Key),v)) ks vs) k=some y/\EqP X.prog X.w A s v y:=by
 intro i k v hi;obtain⟨hu,x,hx,rfl⟩:=zip_get hi;obtain⟨h1,rfl⟩:=ε.mp hu;have h2:i<vs.length:=by omega
 exact⟨vs[i],by unfold uu;rw[aFy hd hx (ζ h2)];rfl,h i h1 h2⟩
theorem aHb(A:mj){d:θ}{ds:List θ}(h:A.units+kh (d::ds)<qi):A.units+d.depth<qi/\A.units+kh ds<qi:=by
 have e:kh (d::ds)=max d.depth (kh ds):=rfl;rw[e]at h;omega
theorem aHk:∀{ks:List Str}{ds:List θ},ks.length=ds.length->nv (ig (fun k d=>(jg k,d)) ks ds)=kh ds
 |[],[],_=>rfl
 |_::ks,d::ds,e=>by
  show max (max 0 d.depth) (nv (ig (fun k d=>(jg k,d)) ks ds))=max d.depth (kh ds);rw[aHk (lc e),Nat.zero_max]
theorem xW{ks ks':List Str}{ds ds':List θ}(l:ks.length=ds.length)(l':ks'.length=ds'.length)(e:ig (fun k d=>(jg k,d)) ks ds=ig (fun k d=>(jg k,d)) ks' ds'):ks=ks'/\ds=ds':=by
 induction ks generalizing ds ks' ds' with
 |nil=>cases ds with
  |nil=>cases ks' with
   |nil=>cases ds' with
    |nil=>exact⟨rfl,rfl⟩
    |cons _ _=>cases l'
   |cons _ _=>cases ds' with
    |nil=>cases l'
    |cons _ _=>cases e
  |cons _ _=>cases l
 |cons k ks ih=>cases ds with
  |nil=>cases l
  |cons d ds=>cases ks' with
   |nil=>cases e
   |cons k' ks'=>cases ds' with
    |nil=>cases e
    |cons d' ds' =>
     injection e with e1 e2;injection e1 with e3 e4;injection e3 with e5;obtain⟨z1,z2⟩:=ih (lc l) (lc l') e2;exact⟨by rw[e5,z1],by rw[e4,z2]⟩
mutual
theorem Inv.eqT(I:Inv X pins σ H s):∀{A:mj}{x y:V}{d d':θ}{u v:Value},Dt false X.K H x d->d=d'->Dt false X.K H y d'->RelV x u->RelV y v->A.units+d.depth<qi->EqP X.prog X.w A s u v
 |_,_,_,_,_,_,_,.non,e,h2,r1,r2,hu=>by subst e;cases h2;cases r1;cases r2;exact .of (EqAt.same _)
 |_,_,_,_,_,_,_,.bl b,e,h2,r1,r2,hu=>by subst e;cases h2;cases r1;cases r2;exact .of (EqAt.same _)
 |_,_,_,_,_,_,_,.int i,e,h2,r1,r2,hu=>by
  subst e;cases h2;obtain⟨t,rfl⟩:=r1;obtain⟨t',rfl⟩:=r2;exact .of (by simpa using EqAt.int_int i t i t')
 |_,_,_,_,_,_,_,.str x,e,h2,r1,r2,hu=>by
  subst e;cases h2;obtain⟨t,rfl⟩:=r1;obtain⟨t',rfl⟩:=r2;exact .of (by simpa using EqAt.str_str x t x t')
 |A,_,_,_,_,_,_,.lst h _ ds,e,h2,r1,r2,hu=>by
  subst e;cases h2 with
  |lst h' _ ds' =>
   cases r1;cases r2;obtain⟨its,rv,⟨o,m,g1,g2,_,g3⟩,_⟩:=I.list h;obtain⟨its',rv',⟨o',m',g1',g2',_,g3'⟩,_⟩:=I.list h';have hz:its.toArray.size=its'.toArray.size:=by rw[Φ,Φ,←rv.length,←rv'.length,ds.length,ds'.length]
   have hu':A.units+kh _+1<qi:=hu;exact .refs fun _=>.lists ⟨_,g1,g2,_,g3⟩ ⟨_,g1',g2',_,g3'⟩ hz (by omega) fun j h1 h2=>by
    have:=Inv.eqTs I (A:=A.in1) ds rfl ds' rv rv' (by show A.units+1+_<qi;omega) j (by simpa using h1) (by simpa using h2);simpa using this
 |A,_,_,_,_,_,_,.tup h ds,e,h2,r1,r2,hu=>by
  subst e;cases h2 with
  |tup h' ds' =>
   cases r1;cases r2;obtain⟨its,rv,⟨o,g1,g2,m,g3⟩,_⟩:=I.tuple h;obtain⟨its',rv',⟨o',g1',g2',m',g3'⟩,_⟩:=I.tuple h';have hz:its.toArray.size=its'.toArray.size:=by rw[Φ,Φ,←rv.length,←rv'.length,ds.length,ds'.length]
   have hu':A.units+kh _+1<qi:=hu;exact .refs fun _=>.tups ⟨_,g1,g2,_,g3⟩ ⟨_,g1',g2',_,g3'⟩ hz (by omega) fun j h1 h2=>by
    have:=Inv.eqTs I (A:=A.in1) ds rfl ds' rv rv' (by show A.units+1+_<qi;omega) j (by simpa using h1) (by simpa using h2);simpa using this
 |A,_,_,_,_,_,_,.dct h l ds,e,h2,r1,r2,hu=>by
  cases h2 with
  |non=>cases e
  |bl=>cases e
  |int=>cases e
  |str=>cases e
  |lst=>cases e
  |tup=>cases e
  |dct h' l' ds' =>
   injection e with hd;obtain⟨rfl,e2⟩:=xW (l.trans ds.length) (l'.trans ds'.length) hd;cases r1;cases r2;obtain⟨n1,us,rv,dd1⟩:=I.dkz h l;obtain⟨n2,us',rv',dd2⟩:=I.dkz h' l';have e3:us.length=us'.length:=by rw[←rv.length,←rv'.length,←l,←l']
   obtain⟨_,_,_,_,_,_,_,_,nd⟩:=id dd2;have hu':A.units+(nv _+1)<qi:=hu;rw[aHk (l.trans ds.length)]at hu';refine .refs fun _ E Q q=>cmpP false n1 n2 dd1 dd2 (by simp[e3]) (by omega) (Inv.hits nd e3 ?_) q;exact Inv.eqTs I (A:=A.in1) ds e2 ds' rv rv' (by show A.units+1+_<qi;omega)
theorem Inv.eqTs(I:Inv X pins σ H s):∀{A:mj}{xs ys:List V}{ds ds':List θ}{us vs:List Value},Dts false X.K H xs ds->ds=ds'->Dts false X.K H ys ds'->kJ xs us->kJ ys vs->A.units+kh ds<qi->∀j (h1:j<us.length) (h2:j<vs.length),EqP X.prog X.w A s us[j] vs[j]
 |_,_,_,_,_,_,_,.nil,e,_,r1,_,_=>by cases r1;exact fun j h1=>absurd h1 (uv _)
 |A,_,_,_,_,_,_,.cons h t,e,h2,r1,r2,hu=>by
  subst e;cases h2 with
  |cons h' t' =>
   cases r1 with
   |cons q1 q2 =>
    cases r2 with
    |cons q1' q2' =>
     intro j h1 h2;cases j with
     |zero=>exact Inv.eqT I h rfl h' q1 q1' (aHb A hu).1
     |succ j=>exact Inv.eqTs I t rfl t' q2 q2' (aHb A hu).2 j (Nat.lt_of_succ_lt_succ h1) (Nat.lt_of_succ_lt_succ h2)
end
def rNeT (K:ς):R2:=fun x y H Q=>(∃(a b:Addr) (ks:List Str) (xs ys:List V) (ds:List θ),x=.ref a/\y=.ref b/\H a=some (.dK (ig (fun k v=>((.inr k:Key),v)) ks xs))/\H b=some (.dK (ig (fun k v=>((.inr k:Key),v)) ks ys))/\ks.length=xs.length/\ks.length=ys.length/\Dts false K H xs ds/\Dts false K H ys ds/\kh ds<=60/\Q (.bl false) H)\/∃d:θ,Dat K H x d/\Dat K H y d/\SeqAt.shaped d=true/\Q (.bl false) H
theorem aOd(hu:X.A.units+64<qi):OpR X (lh .NotEq) (rNeT X.K):=by
 intro pins s σ H x y v u Q I rx ry h;rcases h with⟨a,b,ks,xs,ys,ds,rfl,rfl,h,h',l,l',d1,d2,hd,q⟩|⟨d,hx,hy,sh,q⟩
 ·cases rx;cases ry;obtain⟨n1,us,rv,dd1⟩:=I.dkz h l;obtain⟨n2,us',rv',dd2⟩:=I.dkz h' l';have e3:us.length=us'.length:=by rw[←rv.length,←rv'.length,←l,←l']
  obtain⟨_,_,_,_,_,_,_,_,nd⟩:=id dd2;exact cmpP true n1 n2 dd1 dd2 (by simp[e3]) (by omega) (Inv.hits nd e3 (Inv.eqTs I (A:=X.A.in1) d1 rfl d2 rv rv' (by show X.A.units+1+_<qi;omega))) ⟨.bl false,H,I,rfl,q⟩
 ·exact aQd hu pins s σ H x y v u Q I rx ry ⟨d,d,hx,hy,sh,sh,by rw[eqv_refl d (canLay_of_shaped sh)];exact q⟩
theorem aIb:vR X (.builtin "len") (fun xs H Q=>∃p kvs,xs=[.ref p]/\H p=some (.dK kvs)/\Q (.int kvs.length) H):=by
 intro pins s σ H xs us Q I r h;obtain⟨p,kvs,rfl,hp,q⟩:=h;obtain⟨u,rfl,rx⟩:=r.one;cases rx;obtain⟨z,hd,vs,rel,dd⟩:=mL I.hok hp;refine call_len_dict hd dd ?_ ⟨.int kvs.length,H,I.tok _,⟨_,by rw[rel.length]⟩,q⟩;rw[←rel.length];have:τ=16777216:=il;omega
end
end L2
namespace L2
open PySem PySem.Spec PyProof.Rows
section
variable {X:Cx}
theorem aFa:vR X (.type "dict") (fun xs H Q=>∃(a:Addr) (kvs:List (Key×V)),xs=[.ref a]/\H a=some (.dK kvs)/\∀l,H l=none->Q (.ref l) (upd H l (.dK kvs))):=by
 intro pins s σ H xs us Q I r h;obtain⟨a,kvs,rfl,ha,q⟩:=h;obtain⟨u,rfl,ru⟩:=r.one;cases ru;obtain⟨z,hd,vs,rel,dd⟩:=mL I.hok ha;refine kt_call_dict hd dd (by rw[←rel.length];exact z) fun h' dd' hs=>?_;refine⟨.ref s.heap.objs.size,_,I.laid (t':=s.toks) (fun b o e=>?_) (ξ _) (aAd z (beq_eq_false_iff_ne.mpr (lm (ji I.big))) rel dd'),rfl,q _ (I.hok.fresh (ξ _))⟩;exact(hs.2 b (ji (ik e))).trans (Θ _ e)
end
def kvD (ks:List Str) (ds:List θ):List (θ×θ):=ig (fun k d=>(jg k,d)) ks ds
def Tre:Nat->θ->Prop
 |_,.int _=>True
 |0,_=>False
 |r+1,.list ds=>ds≠[]/\ds.length<=6/\∀d∈ds,Tre r d
 |r+1,.tuple [.int _,e]=>Tre r e/\∀v,e≠.int v
 |r+1,.dict kvs=>∃ks ds,kvs=kvD ks ds/\ks.length=ds.length/\ks.Nodup/\ks.length<=6/\∀d∈ds,Tre r d
 |_,_=>False
theorem aAe : Tre r (.int v):=by cases r <;> trivial
def xC (c:Kd->θ->θ->Prop):List (Str×Kd)->List θ->List θ->Prop
 |[],[],[]=>True
 |f::fs,d::ds,e::es=>c f.2 d e/\xC c fs ds es
 |_,_,_=>False
def Rec (S:List Shp):Nat->Kd->θ->θ->Prop
 |_,.num w,d,e=>∃v:Nat,d=.int v/\e=.int v/\v<256 ^ w
 |0,_,_,_=>False
 |n+1,.pick is,d,e=>∃(j i:Nat) (a b:θ),is[j]?=some i/\d=.tuple [.int j,a]/\e=.tuple [.int j,b]/\Rec S n (.nest i) a b
 |n+1,.many m k,d,e=>∃ds es,d=.list ds/\e=.list es/\xC (Rec S n) ((Kd.many m k).parts S) ds es
 |n+1,.nest i,d,e=>∃ds es ks es',d=.dict (nA ((Kd.nest i).parts S) ds)/\e=.dict (kvD ks es')/\ks.length=es'.length/\(kvD ks es').Perm (nA ((Kd.nest i).parts S) es)/\xC (Rec S n) ((Kd.nest i).parts S) ds es
theorem xC.len : ∀{fs:List (Str×Kd)}{ds es:List θ},xC c fs ds es->fs.length=ds.length/\fs.length=es.length
 |[],[],[],_=>⟨rfl,rfl⟩
 |_::_,_::_,_::_,h=>⟨congrArg (·+1) (xC.len h.2).1,congrArg (·+1) (xC.len h.2).2⟩
theorem xC.get{c:Kd->θ->θ->Prop}: ∀{fs:List (Str×Kd)}{ds es:List θ}{i:Nat}{f:Str×Kd},xC c fs ds es->fs[i]?=some f->∃d e,ds[i]?=some d/\es[i]?=some e/\c f.2 d e
 |_::_,d::_,e::_,0,_,h,z=>by cases z;exact⟨d,e,rfl,rfl,h.1⟩
 |_::_,_::_,_::_,i+1,f,h,z=>xC.get (i:=i) (f:=f) h.2 z
theorem xC.imp{c:Kd->θ->θ->Prop}{c':Kd->θ->Prop}(hc:∀k d e,c k d e->c' k d):∀{fs:List (Str×Kd)}{ds es:List θ},xC c fs ds es->aS c' fs ds
 |[],[],[],_=>ju
 |_::_,_::_,_::_,h=>⟨hc _ _ _ h.1,xC.imp hc h.2⟩
theorem xC.app : ∀{fs gs:List (Str×Kd)}{ds es ds' es':List θ},xC c fs ds es->xC c gs ds' es'->xC c (fs++gs) (ds++ds') (es++es')
 |[],_,[],[],_,_,_,h=>h
 |_::_,_,_::_,_::_,_,_,h,g=>⟨h.1,xC.app h.2 g⟩
theorem nU : ∀{n:Nat}{k:Kd}{d e:θ},Rec S n k d e->Can S n k d
 |0,.num w,d,e,h=>by obtain⟨v,h1,_,h2⟩:=h;exact⟨v,h1,h2⟩
 |0,.nest _,_,_,h=>h.elim
 |0,.many _ _,_,_,h=>h.elim
 |0,.pick _,_,_,h=>h.elim
 |n+1,.num w,d,e,h=>by obtain⟨v,h1,_,h2⟩:=h;exact⟨v,h1,h2⟩
 |n+1,.pick is,d,e,h=>by
  obtain⟨j,i,a,b,h1,h2,_,h3⟩:=h;exact⟨j,i,a,h1,h2,nU h3⟩
 |n+1,.many m k,d,e,h=>by
  obtain⟨ds,es,rfl,_,h⟩:=h;exact⟨ds,rfl,h.imp fun _ _ _ z=>nU z⟩
 |n+1,.nest i,d,e,h=>by
  obtain⟨ds,es,ks,es',rfl,_,_,_,h⟩:=h;exact⟨ds,rfl,h.imp fun _ _ _ z=>nU z⟩
def lkD:List (θ×θ)->Str->Option θ
 |[],_=>none
 | (.str k,d)::r,x=>if k=x then some d else lkD r x
 |_::r,x=>lkD r x
theorem fK:∀{ks:List Str}{ds:List θ}{x:Str}{d:θ},ks.Nodup->(jg x,d)∈kvD ks ds->lkD (kvD ks ds) x=some d
 |[],_,_,_,_,h=>by cases h
 |_::_,[],_,_,_,h=>by cases h
 |k::ks,e::ds,x,d,hn,h=>by
  show(if k=x then some e else lkD (kvD ks ds) x)=some d;rcases Ξ.mp (show(jg x,d)∈(jg k,e)::kvD ks ds from h) with h|h
  ·injection h with h1 h2;injection h1 with h1;rw[if_pos h1.symm,h2]
  ·have hx:x∈ks:=by
    obtain⟨i,hi⟩:=jd.mp h;unfold kvD at hi;rw[vm]at hi;cases h1:ks[i]? with
    |none=>rw[h1]at hi;cases hi
    |some y =>
     cases h2:ds[i]? with
     |none=>rw[h1,h2]at hi;cases hi
     |some z =>
      rw[h1,h2]at hi;injection hi with hi;injection hi with hi _;injection hi with hi;rw[←hi];exact ι h1
   rw[if_neg (fun z:k=x=>(md.mp hn).1 (z ▸ hx)),fK (md.mp hn).2 h]
theorem aY:∀(fs:List (Str×Kd)) (ds:List θ),nA fs ds=kvD (fs.map (·.1)) ds
 |[],_=>rfl
 |_::_,[]=>rfl
 |f::fs,d::ds=>by show(jg f.1,d)::nA fs ds=(jg f.1,d)::kvD (fs.map (·.1)) ds;rw[aY fs ds]
theorem wR:∀{ks:List Str}{ds:List θ},ks.length=ds.length->(kvD ks ds).map (·.1)=ks.map jg
 |[],[],_=>rfl
 |k::ks,d::ds,h=>by show jg k::(kvD ks ds).map (·.1)=_;rw[wR (lc h)];rfl
theorem uX:∀{ks:List Str}{ds:List θ},ks.length=ds.length->(kvD ks ds).map (·.2)=ds
 |[],[],_=>rfl
 |k::ks,d::ds,h=>by show d::(kvD ks ds).map (·.2)=_;rw[uX (lc h)]
theorem aLh{a b:List Str}(h:(a.map jg).Perm (b.map jg)):a.Perm b:=by
 have e:∀l:List Str,(l.map jg).map (fun d=>match d with | .str x=>x|_=>Str.empty)=l:=fun l=>by
  rw[jp];exact List.map_id' l
 have:=h.map (fun d=>match d with|jg x=>x|_=>Str.empty)
 rwa [e,e]at this
theorem tF{ks:List Str}{ds:List θ}{i:Nat}(h1:ks[i]?=some x)(h2:ds[i]?=some d):(jg x,d)∈kvD ks ds:=by
 refine ι (i:=i) ?_;unfold kvD;rw[vm,h1,h2]
structure DRec (c:Kd->θ->θ->Prop) (fs:List (Str×Kd)) (ds:List θ) (ks:List Str) (es':List θ):Prop where
 l:ks.length=es'.length
 p:ks.Perm (fs.map (·.1))
 g:∀(i:Nat) (f:Str×Kd),fs[i]?=some f->∃d e,ds[i]?=some d/\lkD (kvD ks es') f.1=some e/\c f.2 d e
theorem aHt{fs:List (Str×Kd)}{es':List θ}{ks:List Str}(hn:(fs.map (·.1)).Nodup)(l:ks.length=es'.length)(p:(kvD ks es').Perm (nA fs es))(h:xC c fs ds es):DRec c fs ds ks es':=by
 have l2:=h.len.2;have pk:ks.Perm (fs.map (·.1)):=by
  have:=p.map (·.1);rw[aY,wR l,wR (by rw[δ];exact l2)]at this;exact aLh this
 refine⟨l,pk,fun i f hf=>?_⟩;obtain⟨d,e,h1,h2,h3⟩:=h.get hf;refine⟨d,e,h1,fK (pk.symm.nodup hn) (p.mem_iff.mpr ?_),h3⟩;rw[aY];exact tF (by rw[υ,hf];rfl) h2
def F2 (c:θ->θ->Prop):List θ->List θ->Prop
 |[],[]=>True
 |d::ds,e::es=>c d e/\F2 c ds es
 |_,_=>False
def FNd (S:List Shp):Prop:=∀s∈S,(s.2.map (·.1)).Nodup
theorem xJ(h:FNd S)(i:Nat):(((Kd.nest i).parts S).map (·.1)).Nodup:=by
 show((S.getD i _).2.map (·.1)).Nodup;rw[Ω];cases e:S[i]? with
 |none=>exact List.nodup_nil
 |some s=>exact h s (ι e)
theorem eR(hG:Good S){k:Kd}(hp:k.Pd)(hk:k.Fit S.length):k.parts S≠[]/\(k.parts S).length<=6:=by
 rcases hp with⟨i,rfl⟩|⟨n,q,rfl⟩
 ·have hs:S[i]?=some S[i]:=ζ (show i<S.length from hk);rw[vG hs];exact⟨hG.ne i _ hs,hG.few i _ hs⟩
 ·have h1:=hk.1;have h2:=hk.2.1;show(ir n).map _≠[]/\((ir n).map _).length<=6;rw[δ,jx];exact⟨(fun z=>by have:=congrArg List.length z;rw[δ,jx]at this;simp at this;omega),h2⟩
theorem nO : ∀{n:Nat}{k:Kd}{d:θ},Can S n k d->Rec S n k d d
 |0,.num w,d,h=>by obtain⟨v,h1,h2⟩:=h;exact⟨v,h1,h1,h2⟩
 |0,.nest _,_,h=>h.elim
 |0,.many _ _,_,h=>h.elim
 |0,.pick _,_,h=>h.elim
 |n+1,.num w,d,h=>by obtain⟨v,h1,h2⟩:=h;exact⟨v,h1,h1,h2⟩
 |n+1,.pick is,d,h=>by
  obtain⟨j,i,a,h1,h2,h3⟩:=h;exact⟨j,i,a,a,h1,h2,h2,nO h3⟩
 |n+1,.many m k,d,h=>by
  obtain⟨ds,rfl,h⟩:=h;have:∀(fs:List (Str×Kd)) (ds:List θ),aS (Can S n) fs ds->xC (Rec S n) fs ds ds:=by
   intro fs
   induction fs with
   |nil=>intro ds h;cases ds with
    |nil=>exact ju
    |cons _ _=>exact h.elim
   |cons f fs ih=>intro ds h;cases ds with
    |nil=>exact h.elim
    |cons d ds=>exact⟨nO h.1,ih ds h.2⟩
  exact⟨ds,ds,rfl,rfl,this _ _ h⟩
 |n+1,.nest i,d,h=>by
  obtain⟨ds,rfl,h⟩:=h;have:∀(fs:List (Str×Kd)) (ds:List θ),aS (Can S n) fs ds->xC (Rec S n) fs ds ds:=by
   intro fs
   induction fs with
   |nil=>intro ds h;cases ds with
    |nil=>exact ju
    |cons _ _=>exact h.elim
   |cons f fs ih=>intro ds h;cases ds with
    |nil=>exact h.elim
    |cons d ds=>exact⟨nO h.1,ih ds h.2⟩
  refine⟨ds,ds,((Kd.nest i).parts S).map (·.1),ds,rfl,?_,by rw[δ];exact h.len,?_,this _ _ h⟩
  ·show se _=_;rw[aY]
  ·rw[aY]
theorem aA(hG:Good S)(hS:FNd S):∀{n:Nat}{k:Kd}{d e:θ},k.Fit S.length->k.Rk n->Rec S n k d e->Tre n e
 |0,.num w,d,e,_,_,h=>by obtain⟨v,_,rfl,_⟩:=h;exact aAe
 |0,.nest _,_,_,_,_,h=>h.elim
 |0,.many _ _,_,_,_,_,h=>h.elim
 |0,.pick _,_,_,_,_,h=>h.elim
 |n+1,.num w,d,e,_,_,h=>by obtain⟨v,_,rfl,_⟩:=h;exact aAe
 |n+1,.pick is,d,e,hf,hr,h=>by
  obtain⟨j,i,a,b,h1,_,rfl,h2⟩:=h;have hm:=ι h1;show Tre n b/\∀v,b≠.int v;refine⟨aA (n:=n) hG hS (k:=.nest i) (hf.2.2.2 i hm) (show 2*i+2<=n by have:=hr i hm;omega) h2,fun v z=>?_⟩;cases n with
  |zero=>exact h2.elim
  |succ n =>
   obtain⟨_,_,_,_,_,e,_⟩:=h2;rw[z]at e;cases e
 |n+1,.many m k,d,e,hf,hr,h=>by
  obtain⟨ds,es,_,rfl,h⟩:=h;obtain⟨p1,p2⟩:=eR hG (.inr ⟨m,k,rfl⟩) hf;have hl:=h.len.2;refine⟨fun z=>p1 (List.eq_nil_of_length_eq_zero (by rw[hl,z];rfl)),by omega,fun e he=>?_⟩;obtain⟨j,hj⟩:=jd.mp he;obtain⟨f,hf'⟩ : ∃f,((Kd.many m k).parts S)[j]?=some f:=⟨_,ζ (by rw[hl];exact(ε.mp hj).1)⟩;obtain⟨d1,e1,_,g2,g3⟩:=h.get hf';rw[hj]at g2;cases g2;obtain⟨z1,z2,_⟩:=Kd.parts_ok hG hf hr (ι hf');exact aA hG hS z2 z1 g3
 |n+1,.nest i,d,e,hf,hr,h=>by
  obtain⟨ds,es,ks,es',_,rfl,l,p,h⟩:=h;obtain⟨p1,p2⟩:=eR hG (.inl ⟨i,rfl⟩) hf;have D:=aHt (xJ hS i) l p h;have hl:=h.len.2;have hk:=D.p.length_eq;rw[δ]at hk;refine⟨ks,es',rfl,l,D.p.symm.nodup (xJ hS i),by omega,fun e he=>?_⟩;have hp2:=p.map (·.2);rw[uX l,aY,uX (by rw[δ];exact hl)]at hp2;obtain⟨j,hj⟩:=jd.mp (hp2.mem_iff.mp he);obtain⟨f,hf'⟩ : ∃f,((Kd.nest i).parts S)[j]?=some f:=⟨_,ζ (by rw[hl];exact(ε.mp hj).1)⟩;obtain⟨d1,e1,_,g2,g3⟩:=h.get hf';rw[hj]at g2;cases g2;obtain⟨z1,z2,_⟩:=Kd.parts_ok hG hf hr (ι hf');exact aA hG hS z2 z1 g3
def cnL (c:θ->Nat):List θ->Nat
 |[]=>0
 |d::ds=>c d+cnL c ds
def cn:Nat->θ->Nat
 |_,.int _=>1
 |0,_=>0
 |r+1,.list ds=>cnL (cn r) ds
 |r+1,.tuple [.int _,e]=>cn r e
 |r+1,.dict kvs=>cnL (cn r) (kvs.map (·.2))
 |_,_=>0
def nbL (c:θ->Nat) (f:θ->Nat->θ):List θ->Nat->List θ
 |[],_=>[]
 |d::ds,i=>f d i::nbL c f ds (i+c d)
def nb:Nat->θ->Nat->θ
 |_,.int _,i=>.int i
 |0,d,_=>d
 |r+1,.list ds,i=>.list (nbL (cn r) (nb r) ds i)
 |r+1,.tuple [.int j,e],i=>.tuple [.int j,nb r e i]
 |r+1,.dict kvs,i=>.dict (ig (fun (p:θ×θ) d=>(p.1,d)) kvs (nbL (cn r) (nb r) (kvs.map (·.2)) i))
 |_,d,_=>d
def twn:Nat->θ->θ
 |r+1,.list ds=>.list (kc ds.length (twn r (ds.headD .none)))
 |r+1,.tuple [.int j,e]=>.tuple [.int j,twn r e]
 |r+1,.dict kvs=>.dict (kvs.map fun p=>(p.1,twn r p.2))
 |_,d=>d
theorem lR(f:θ->θ):∀(ks:List Str) (ds:List θ),(kvD ks ds).map (fun p=>(p.1,f p.2))=kvD ks (ds.map f)
 |[],_=>rfl
 |_::_,[]=>rfl
 |k::ks,d::ds=>by show(jg k,f d)::(kvD ks ds).map _=(jg k,f d)::kvD ks (ds.map f);rw[lR f ks ds]
section
variable {X:Cx}{pins:List (Addr×Obj)}{σ:St}{H:Hp}{s:χ}
theorem Inv.thaw(I:Inv X pins σ H s)(e:H a=some (.frz o u))(h0:∀o' u',X.H₀ a≠some (.frz o' u')):Inv X pins σ (upd H a u) s:=by
 have ne:∀{b:Addr},H b=none->b≠a:=fun {b} n z=>by rw[z,e]at n;cases n
 have nt:∀{b:Addr}{w:HO},H b=some w->(∀o' u',w≠.frz o' u')->b≠a:=fun {b w} q n z=>by rw[z,e]at q;exact n _ _ (jv q).symm
 have hb:=I.base;have n0:∀{b:Addr}{w:HO},X.H₀ b=some w->H b=some w->(∀o' u',w=.frz o' u'->b≠a)->upd H a u b=some w:=fun {b w} _ q2 n=>by
  by_cases z:b=a
  ·subst z;rw[e]at q2;exact absurd rfl (n _ _ (jv q2).symm)
  ·rw[kF z];exact q2
 refine⟨I.ok,I.os,I.bare,⟨hb.keep,hb.slot,fun b ob q n hx=>?_,hb.there,fun b xs q=>?_,fun b o' u' q=>?_,fun b ps q=>?_⟩,I.loc,I.cell,?_,fun x c q=>?_,fun p hp=>?_,?_,I.len⟩
 ·have:=hb.free b ob q n hx;rw[kF (ne this)];exact this
 ·have:=hb.tups b xs q;rw[kF (nt this fun _ _ z=>by cases z)];exact this
 ·have:=hb.frzs b o' u' q;rw[kF (fun z=>by rw[z]at q;exact h0 _ _ q)];exact this
 ·obtain⟨more,h⟩:=hb.tbls b ps q;exact⟨more,by rw[kF (nt h fun _ _ z=>by cases z)];exact h⟩
 ·have:=I.free;rw[kF (ne this)];exact this
 ·have:=I.freeC x c q;rw[kF (ne this)];exact this
 ·obtain⟨p1,p2,p3⟩:=I.pin p hp;exact⟨p1,by rw[kF (ne p2)];exact p2,p3⟩
 ·intro b w q;have own:∀c z,H c=some (.own z)->upd H a u c=some (.own z):=fun c z r=>by rw[kF (nt r fun _ _ z=>by cases z)];exact r
  have tup:∀c xs,H c=some (.tup xs)->upd H a u c=some (.tup xs):=fun c xs r=>by rw[kF (nt r fun _ _ z=>by cases z)];exact r
  by_cases z:b=a
  ·subst z;rw[jT]at q;cases q;have:=I.hok b _ e;exact(show vE X.prog X.w H s.heap b u from this.2).stay (fun _ _ _ r=>r) (fun c r=>own c b r) fun c xs r=>tup c xs r
  ·rw[kF z]at q;exact(I.hok b w q).stay (fun _ _ _ r=>r) (fun c r=>own c b r) fun c xs r=>tup c xs r
theorem aGv{t:TE}(h:PE X e t):PE X e (fun σ H Q=>t σ H fun v H1=>Q v H1\/∃a o u,H1 a=some (.frz o u)/\(∀o' u',X.H₀ a≠some (.frz o' u'))/\Q v (upd H1 a u)):=by
 intro pins s σ H Q I q;refine thn (h pins s σ H _ I q) fun v s1 zq=>?_;obtain⟨x,H1,I1,r1,q1⟩:=zq;rcases q1 with q1|⟨a,o,u,e1,h0,q1⟩
 ·exact⟨x,H1,I1,r1,q1⟩
 ·exact⟨x,_,I1.thaw e1 h0,r1,q1⟩
end
section
variable {X:Cx}
theorem sV : ∀{kvs:List (Key×V)}{vs:List (Key×Value)},KV kvs vs->∀{us:List Value},us.length=vs.length->(∀(j:Nat) (v:Value),us[j]?=some v->∃k x,vs[j]?=some (k,x)/\(qN P w).is k v=true)->kJ (kvs.map fun kv=>kV kv.1) us
 |_,_,.nil,us,hl,_=>by cases us with|nil=>exact .nil|cons _ _=>cases hl
 |_,_,.cons (a:=p) (b:=q) r t,us,hl,h=>by
  cases us with
  |nil=>cases hl
  |cons u us =>
   obtain⟨k,x,h1,h2⟩:=h 0 u rfl;have e1:q=(k,x):=jv h1;refine .cons ?_ (sV t (lc hl) fun j v hv=>h (j+1) v hv);show RelV (kV p.1) u;rw[r.1,e1];exact oB h2
theorem pC(hc:X.calm=true):vR X (.type "list") (fun xs H Q=>∃(a:Addr) (kvs:List (Key×V)),xs=[.ref a]/\H a=some (.dK kvs)/\kvs.length<=1000/\∀l,H l=none->Q (.ref l) (upd H l (.lst (kvs.map fun kv=>kV kv.1)))):=by
 intro pins s σ H xs us Q I r h;obtain⟨a,kvs,rfl,ha,hz,q⟩:=h;obtain⟨u,rfl,ru⟩:=r.one;cases ru;obtain⟨z,hd,vs,rel,dd⟩:=mL I.hok ha;obtain⟨ep,hat⟩:=dd.dictAt;have hl:kvs.length=vs.length:=om rel;refine PySem.W.kdl_call (PySem.W.kdl_dict (knd:=qN X.prog X.w) (kvs:=vs) (ep:=ep) hd) (I.ok.hd hc) hat (by rw[il];omega) fun h' tk acc c' hk hD hacc=>?_;refine⟨.ref s.heap.objs.size,_,I.laid hk (ξ _) (show vE X.prog X.w _ h' _ (.lst (kvs.map fun kv=>kV kv.1)) from⟨?_,acc.toList,c',?_,by simpa using hD⟩),rfl,q _ (I.hok.fresh (ξ _))⟩
 ·rw[δ,il];omega
 ·exact sV rel (by rw[lj];exact hacc.1) fun j v e=>hacc.2 j v (by rw[←sx];exact e)
theorem aQb{st:Stmt}{t t':TS}(h:PS X st t)(h':PS X st t'):PS X st (fun D σ H=>t D σ H\/t' D σ H):=by
 intro pins s σ H D I q;rcases q with q|q
 ·exact h pins s σ H D I q
 ·exact h' pins s σ H D I q
end
theorem aFz{kvs:List (Key×V)}{k:Nat}{tc:TT}{tk tv:TE}{Q:VK}{H1:Hp}(P:Addr->Nat->List (Key×V)->Hp->Prop)(h0:∀D,H1 D=none->P D 0 [] (upd H1 D (.dK [])))(hl:∀D i ys H,i<=kvs.length->P D i ys H->H a=some (.frz o (.dK kvs)))
  (hs:∀D i kv ys H,kvs[i]?=some kv->P D i ys H->tc (some (kV kv.1)::vK js σ) H fun b H2=>if b=true then tk (some (kV kv.1)::vK js σ) H2 fun y H3=>tv (some (kV kv.1)::vK js σ) H3 fun v H4=>∃key,y=kV key/\H4 D=some (.dK ys)/\ys.length<τ/\lN (P D) i js σ (some (kV kv.1)::vK js σ) (putK ys key v) (upd H4 D (.dK (putK ys key v))) else lN (P D) i js σ (some (kV kv.1)::vK js σ) ys H2)
  (hd:∀D ys H,P D kvs.length ys H->Q (.ref D) H)(hk:k=1:=by rfl):
  aFs (Itd a o kvs) k js (yC 0) tc tk tv σ Q H1:=by
 subst hk;intro D hD;refine⟨fun i m σ' ys H=>m=kvs.length-i/\i<=kvs.length/\P D i ys H/\∃o,σ'=o::vK js σ,⟨kvs.length,by simp,ij _,h0 D hD,none,rfl⟩,?_⟩;rintro i m σ' ys H ⟨rfl,hi,p,o',rfl⟩;have q:=hl D i ys H hi p
 by_cases hlt:i<kvs.length
 ·refine .inr ⟨⟨q,hlt⟩,lN (P D) i js σ,fun σ3 zs H3 z=>⟨kvs.length-(i+1),by omega,rfl,hlt,z.1,z.2⟩,fun x H' y=>?_⟩;obtain⟨rfl,kv,e,rfl⟩:=y;exact hs D i kv ys _ e p
 ·have e:i=kvs.length:=by omega
  subst e;exact .inl ⟨⟨q,ξ _⟩,hd D ys H p⟩
def Itp (a:Addr) (o:Obj) (kvs:List (Key×V)):It :=
 ⟨fun i H=>H a=some (.frz o (.dK kvs))/\i<kvs.length,fun i H x H'=>∃p kv,x=.ref p/\H p=none/\H'=upd H p (.tup [kV kv.1,kv.2])/\kvs[i]?=some kv,fun i H=>H a=some (.frz o (.dK kvs))/\kvs.length<=i⟩
theorem KV.get2:∀{kvs:List (Key×V)}{vs:List (Key×Value)},KV kvs vs->∀{i:Nat}{kv:Key×V},kvs[i]?=some kv->∃u,vs[i]?=some (kv.1,u)/\RelV kv.2 u
 |_,_,.nil,_,_,e=>by simp at e
 |_,_,.cons (a:=p) (b:=q) r _,0,kv,e=>by
  simp at e;subst e;exact⟨q.2,by simp[r.1],r.2⟩
 |_,_,.cons _ t,i+1,kv,e=>by
  obtain⟨u,h⟩:=KV.get2 t (i:=i) (kv:=kv) (by simpa using e);exact⟨u,by simpa using h⟩
theorem oX:entryFor table "dict_itemiterator.__iter__" = some si.«dict_keyiterator.__iter__»:=entryFor_alias (id':="dict_keyiterator.__iter__") (by kernel_rfl) rfl (by ac_rfl) (by kernel_rfl)
theorem aIg{s:χ}{Q:Value->χ->Prop}(h:IsItemIter s.heap it d i n ep ok ov)(q:Q (.ref it) s):iz (jj P w) A (pyIter (.ref it)) Q E s:=by
 refine wpAny_pyIter_slot ⟨_,h,rfl⟩ uk (vw uk ⟨_,h,rfl⟩ oX ?_ (PySem.F.args_dict_itemiterator_iter_1 _));show iz _ _ (ret (.ref it)) _ _ s;exact io ⟨_,rfl,"dict_itemiterator",_,⟨_,h,rfl⟩,PySem.F.slot_dict_itemiterator_next.lookup,q⟩
theorem aEy{K:ς}(a it:Addr)(o:Obj)(kvs:List (Key×V)):Turn P w K (.Tuple elts x1 pos) (Itp a o kvs) [it] it (fun i h=>∃ok ov,IsItemIter h it a i kvs.length (epOf o) ok ov) where
 mem:=by simp
 obj:=fun i h st b hb=>by
  have e:b=it:=by simpa using hb
  subst e;obtain⟨ok,ov,e⟩:=st;exact⟨_,e,fun v z=>by cases z⟩
 keep:=fun i h h' st k=>by
  obtain⟨ok,ov,e⟩:=st;exact⟨ok,ov,k it (by simp) _ e⟩
 item:=by
  intro X hP hw hK hc i pins s σ H E I hf st hg;subst hP hw hK;obtain⟨hq,hi⟩:=hg;obtain⟨_,vs,rel,dd⟩:=lJ I.hok hq;obtain⟨u,hu,ru⟩:=KV.get2 rel (i:=i) (kv:=kvs[i]) (by simp[hi]);have fi:=hf it (by simp);have hl:kvs.length=vs.length:=om rel;obtain⟨ok,ov,hit⟩:=st;rw[hl]at hit;refine wpAny_pyNext_items_item hit dd hu fun key h1 hk heo ht1 hz1 hk1=>⟨_,rfl,?_⟩;refine wpAny_letOwnedTupleGo_items heo fun h2 he2 hs2=>?_;replace hs2:sf it h1 h2:=hs2;have ne:s.heap.objs.size≠it:=Nat.ne_of_gt (ik hit);have ht2:h2.get? s.heap.objs.size=some { cls:=.type "tuple",data:=.seq #[key,u] }:=(hs2.2 _ ne).trans ht1;have k2:∀b v,b≠it->b≠it->s.heap.get? b=some v->h2.get? b=some v:=fun b v n1 _ q=>(hs2.2 b n1).trans (hk1 b v n1 q);refine⟨.ref s.heap.objs.size,upd H s.heap.objs.size (.tup [kV kvs[i].1,kvs[i].2]),I.turned2 (t':=s.toks) k2 fi fi (ξ _) ⟨(by show 2<=τ;decide),[key,u],.cons (oB hk) (.cons ru .nil),_,ht2,rfl,_,rfl⟩,rfl,⟨_,kvs[i],rfl,I.hok.fresh (ξ _),rfl,by simp[hi]⟩,⟨key,u,by rw[hl];exact he2⟩,fun b hb=>?_⟩;have e:b=it:=by simpa using hb
  subst e;rw[kF (lm ne)];exact fi.1
 done:=by
  intro X hP hw hK hc i pins s σ H E I hf st hg;subst hP hw hK;obtain⟨hq,hi⟩:=hg;obtain⟨_,vs,rel,dd⟩:=lJ I.hok hq;have hl:kvs.length=vs.length:=om rel;obtain⟨f0,f1,f2,f3,f4,f5⟩:=hf it (by simp);obtain⟨ok,ov,hit⟩:=st;rw[hl]at hit hi;exact wpAny_pyNext_items_end (I.ok.hd hc) hit dd (by simp;omega) fun h' eb=>⟨rfl,I.turned (t':=s.toks) (fun b o hb e=>eb b o hb e) f0 f1 f3 f4 f5⟩
 self:=fun _ _ _ _ _ st h=>by
  obtain⟨ok,ov,e⟩:=st;exact aIg e h
def aRc (tl:TE):TI:=fun σ H R=>tl σ H fun x H1=>∃a kvs,x=.ref a/\H1 a=some (.dK kvs)/\∀o,R (Itp a o kvs) (upd H1 a (.frz o (.dK kvs)))
theorem aLv{apos cpos:Pos}(hl:PE X o tl)(hbase:ug o "items" X.env (eval o X.env)=eval o X.env:=by rfl)(hline:(apos.endLine == cpos.line)=true:=by rfl):PI X (.Tuple elts x1 tpos) (.Call (.Attribute o "items" apos) [] [] cpos) (aRc tl):=by
 intro pins s σ H R I h;refine wpAny_Call_method0_late hbase hline (thn (hl pins s σ H _ I h) fun v s1 zq=>?_);obtain⟨x,H1,I1,r1,q1⟩:=zq;obtain⟨a,kvs,e,hq,q⟩:=q1;subst e;cases r1;obtain⟨t1,t2,hsm⟩:=aRr I1 (.inl ⟨kvs,.inl hq⟩);refine⟨"dict","dict.items",PySem.F.plainAttrs_dict,PySem.F.slot_dict_items,PySem.F.type_dict_items,t1,t2,ve rfl (PySem.evalArgs_none ?_)⟩;obtain⟨z0,hd0,vs0,rel0,dd0⟩:=mL I1.hok hq;refine call_meetsIn PySem.F.slot_dict_items dd0.typeIs PySem.F.entry_dict_items (PySem.F.args_dict_items_1 _) (meets_dict_items (qN X.prog X.w) a hsm) ⟨⟨_,dd0⟩,?_⟩;have I2:=I1.kept (t':=s1.toks) (h':=s1.heap.push { cls:=.type "dict_items",data:=.fields #[.ref a] }) fun b ob e=>Θ _ e;obtain⟨ob,ho,I3⟩:=I2.frozen hq;obtain⟨hd,vs,rel,dd⟩:=lJ I3.hok jT;have hl2:kvs.length=vs.length:=om rel;refine wpAny_pyIter_items (v:=s1.heap.objs.size) ⟨_,jb _ rfl,rfl,rfl⟩ dd ?_;refine⟨_,[_],_,_,_,rfl,I3.kept (t':=s1.toks) fun b ob e=>Θ _ e,aEy a _ ob kvs,⟨.none,.none,?_⟩,fun b hb=>?_,q ob⟩
 ·rw[hl2];exact jb _ rfl
 have e:b=(s1.heap.push { cls:=.type "dict_items",data:=.fields #[.ref a] }).objs.size:=by simpa using hb
 subst e;exact I3.fpOk (ξ _) (I3.hok.fresh (ξ _))
theorem aJb{kvs:List (Key×V)}{g:TG}{tb:TS}{D:Ends}{σ:St}{H:Hp}(Pv:Nat->St->Hp->Prop)(h0:Pv 0 σ H)(hl:∀i σ H,i<=kvs.length->Pv i σ H->H a=some (.frz o (.dK kvs)))
  (hs:∀i kv σ H p,kvs[i]?=some kv->Pv i σ H->H p=none->LpL (let D2:Ends:={ D with nx:=Pv (i+1),ct:=Pv (i+1),bk:=D.nx };g (.ref p) σ (upd H p (.tup [kV kv.1,kv.2])) fun σ2 H2=>tb D2 σ2 H2))(hd:∀σ H,Pv kvs.length σ H->D.nx σ H):
  ∃W:Nat->Nat->St->Hp->Prop,(∃m,W 0 m σ H)/\∀i m σ H,W i m σ H →
   ((Itp a o kvs).stop i H/\D.nx σ H)\/((Itp a o kvs).go i H/\∃N:St->Hp->Prop,(∀σ' H',N σ' H'->∃m',m'<m/\W (i+1) m' σ' H')/\∀x H',(Itp a o kvs).yld i H x H'->g x σ H' fun σ2 H2=>tb { D with nx:=N,ct:=N,bk:=D.nx } σ2 H2):=by
 refine⟨fun i m σ H=>m=kvs.length-i/\i<=kvs.length/\Pv i σ H,⟨kvs.length,by simp,ij _,h0⟩,?_⟩;rintro i m σ H ⟨rfl,hi,p⟩;have q:=hl i σ H hi p
 by_cases hlt:i<kvs.length
 ·refine .inr ⟨⟨q,hlt⟩,Pv (i+1),fun σ' H' p'=>⟨kvs.length-(i+1),by omega,rfl,hlt,p'⟩,fun x H' y=>?_⟩;obtain⟨pa,kv,rfl,hn,rfl,hy⟩:=y;exact hs i kv σ H pa hy p hn
 ·have e:i=kvs.length:=by omega
  subst e;exact .inl ⟨⟨q,ξ _⟩,hd σ H p⟩
end L2
namespace L2
open PySem PySem.Spec PyProof.Rows PySem.SeqAt
mutual
inductive Tr (z:Bool) (K:ς) (H:Hp):V->θ->List Addr->Prop
 |int (i:Int):Tr z K H (.int i) (.int i) []
 |lst {a:Addr}{xs:List V}{ds:List θ}{fs:List Addr} : H a=some (.lst xs)->Trs z K H xs ds fs->a∉fs->Tr z K H (.ref a) (.list ds) (a::fs)
 |tup {a:Addr}{i:Int}{x:V}{d:θ}{fs:List Addr} : SqT K H a [.int i,x]->Tr z K H x d fs->Tr z K H (.ref a) (.tuple [.int i,d]) fs
 |dct {a:Addr}{ks:List Str}{xs:List V}{ds:List θ}{fs:List Addr} : H a=some (.dK (ig (fun k v=>((.inr k:Key),v)) ks xs))->ks.length=xs.length->Trs z K H xs ds fs->a∉fs->Tr z K H (.ref a) (.dict (kvD ks ds)) (a::fs)
inductive Trs (z:Bool) (K:ς) (H:Hp):List V->List θ->List Addr->Prop
 |nil:Trs z K H [] [] []
 |cons {x:V}{xs:List V}{d:θ}{ds:List θ}{fs gs:List Addr} : Tr z K H x d fs->Trs z K H xs ds gs->(z=true->∀a∈fs,a∉gs)->Trs z K H (x::xs) (d::ds) (fs++gs)
end
mutual
theorem Tr.dt{K:ς}: ∀{x:V}{d:θ}{fs:List Addr},Tr z K H x d fs->Dt false K H x d
 |_,_,_,.int i=>.int i
 |_,_,_,.lst h t _=>.lst (SqL.of h) (fun z=>by cases z) (Trs.dts t)
 |_,_,_,.tup h t=>.tup h (.cons (.int _) (.cons (Tr.dt t) .nil))
 |_,_,_,.dct h l t _=>.dct h l (Trs.dts t)
theorem Trs.dts{K:ς}: ∀{xs:List V}{ds:List θ}{fs:List Addr},Trs z K H xs ds fs->Dts false K H xs ds
 |_,_,_,.nil=>.nil
 |_,_,_,.cons h t _=>.cons (Tr.dt h) (Trs.dts t)
end
theorem Trs.len{K:ς}(h:Trs z K H xs ds fs):xs.length=ds.length:=h.dts.length
def Fr (ms:List Addr) (H H':Hp):Prop:=∀b o,b∉ms->H b=some o->H' b=some o
def Mu (H:Hp) (ms:List Addr):Prop:=∀b∈ms,(∃xs,H b=some (.lst xs))\/∃kvs,H b=some (.dK kvs)
theorem Fr.trans(a:Fr ms H H1)(b:Fr ms H1 H2):Fr ms H H2:=fun c o n e=>b c o n (a c o n e)
theorem Fr.refl : Fr ms H H:=fun _ _ _ e=>e
theorem Fr.mono{ns:List Addr}(a:Fr ms H H1)(h:∀x∈ms,x∈ns):Fr ns H H1:=fun c o n e=>a c o (fun z=>n (h c z)) e
theorem Fr.of(g:jJ H H1):Fr ms H H1:=fun c o _ e=>g c o e
theorem Fr.upd{ms:List Addr}{a:Addr}(h:a∈ms):Fr ms H (L2.upd H a o):=fun c u n e=>by rw[kF (fun z:c=a=>n (by rw[z];exact h))];exact e
theorem Fr.same{H0:Hp}(g:jJ H0 H)(f:Fr ms H H')(h:∀a∈ms,H0 a=none):jJ H0 H':=fun c o e=>f c o (fun z=>by rw[h c z]at e;cases e) (g c o e)
theorem Mu.ne{H:Hp}(h:Mu H ms)(e:H a=some o)(h1:∀xs,o≠.lst xs)(h2:∀kvs,o≠.dK kvs):a∉ms:=fun z=>by
 rcases h a z with⟨xs,q⟩|⟨kvs,q⟩
 ·rw[e]at q;exact h1 _ (jv q)
 ·rw[e]at q;exact h2 _ (jv q)
theorem Mu.app(h:Mu H ms)(h':Mu H ns):Mu H (ms++ns):=fun b hb=>(je.mp hb).elim (h b) (h' b)
theorem Mu.cons{H:Hp}{a:Addr}{ns:List Addr}(h:(∃xs,H a=some (.lst xs))\/∃kvs,H a=some (.dK kvs))(h':Mu H ns):Mu H (a::ns):=fun b hb=>by
 rcases Ξ.mp hb with rfl|hb
 ·exact h
 ·exact h' b hb
theorem Mu.same(h:Mu H ms)(g:jJ H H'):Mu H' ms:=fun b hb=>(h b hb).imp (fun ⟨x,e⟩=>⟨x,g _ _ e⟩) fun ⟨x,e⟩=>⟨x,g _ _ e⟩
def Nt (H:Hp) (ms:List Addr):Prop:=∀b∈ms,(∀xs,H b≠some (.tup xs))/\∀o xs,H b≠some (.frz o (.tup xs))
theorem Mu.nt(h:Mu H ms):Nt H ms:=fun b hb=>by
 rcases h b hb with⟨xs,q⟩|⟨kvs,q⟩ <;> refine⟨fun _ z=>?_,fun _ _ z=>?_⟩ <;> rw[q]at z <;> cases z
theorem Fr.tp{K:ς}(f:Fr ms H H')(m:Nt H ms)(h:SqT K H a xs):SqT K H' a xs:=by
 rcases h with (h|⟨o,h⟩)|h
 ·exact .inl (.inl (f _ _ (fun z=>(m _ z).1 _ h) h))
 ·exact .inl (.inr ⟨o,f _ _ (fun z=>(m _ z).2 _ _ h) h⟩)
 ·exact .inr h
theorem But.none{H H1:Hp}(g:But a H H1)(k:H1 a=some o)(h:H1 b=none):H b=none:=by
 cases e:H b with
 |none=>rfl
 |some u =>
  have n:b≠a:=fun z=>by rw[z,k]at h;cases h
  have:=g b u n e;rw[h]at this;cases this
mutual
theorem Tr.mu{K:ς}: ∀{x:V}{d:θ}{fs:List Addr},Tr z K H x d fs->Mu H fs
 |_,_,_,.int i=>fun b hb=>by cases hb
 |_,_,_,.lst h t _=>Mu.cons (.inl ⟨_,h⟩) (Trs.mu t)
 |_,_,_,.tup h t=>Tr.mu t
 |_,_,_,.dct h l t _=>Mu.cons (.inr ⟨_,h⟩) (Trs.mu t)
theorem Trs.mu{K:ς}: ∀{xs:List V}{ds:List θ}{fs:List Addr},Trs z K H xs ds fs->Mu H fs
 |_,_,_,.nil=>fun b hb=>by cases hb
 |_,_,_,.cons h t _=>(Tr.mu h).app (Trs.mu t)
end
mutual
theorem Tr.frN{K:ς}(f:Fr ms H H')(m:Nt H ms):∀{x:V}{d:θ}{fs:List Addr},Tr z K H x d fs->(∀b∈fs,b∉ms)->Tr z K H' x d fs
 |_,_,_,.int i,_=>.int i
 |_,_,_,.lst h t n,g=>.lst (f _ _ (g _ (Δ ..)) h) (Trs.frN f m t fun b hb=>g b (Ψ _ hb)) n
 |_,_,_,.tup h t,g=>.tup (f.tp m h) (Tr.frN f m t g)
 |_,_,_,.dct h l t n,g=>.dct (f _ _ (g _ (Δ ..)) h) l (Trs.frN f m t fun b hb=>g b (Ψ _ hb)) n
theorem Trs.frN{K:ς}(f:Fr ms H H')(m:Nt H ms):∀{xs:List V}{ds:List θ}{fs:List Addr},Trs z K H xs ds fs->(∀b∈fs,b∉ms)->Trs z K H' xs ds fs
 |_,_,_,.nil,_=>.nil
 |_,_,_,.cons h t n,g=>.cons (Tr.frN f m h fun b hb=>g b (iu _ hb)) (Trs.frN f m t fun b hb=>g b (ia _ hb)) n
end
theorem Tr.fr{K:ς}(f:Fr ms H H')(m:Mu H ms)(h:Tr z K H x d fs)(n:∀b∈fs,b∉ms):Tr z K H' x d fs:=h.frN f m.nt n
theorem Trs.fr{K:ς}(f:Fr ms H H')(m:Mu H ms)(h:Trs z K H xs ds fs)(n:∀b∈fs,b∉ms):Trs z K H' xs ds fs:=h.frN f m.nt n
theorem Tr.same{K:ς}(g:jJ H H')(h:Tr z K H x d fs):Tr z K H' x d fs:=h.fr (ms:=[]) (.of g) (fun b hb=>by cases hb) fun b _ z=>by cases z
theorem Trs.same{K:ς}(g:jJ H H')(h:Trs z K H xs ds fs):Trs z K H' xs ds fs:=h.fr (ms:=[]) (.of g) (fun b hb=>by cases hb) fun b _ z=>by cases z
theorem Trs.snoc{K:ς}(h:Tr true K H x d gs):∀{xs:List V}{ds:List θ}{fs:List Addr},Trs true K H xs ds fs->(∀a∈fs,a∉gs)->Trs true K H (xs++[x]) (ds++[d]) (fs++gs)
 |_,_,_,.nil,_=>by
  have:=Trs.cons (z:=true) h .nil (fun _ a _ z=>by cases z)
  rwa [ly]at this
 |_,_,_,.cons (fs:=f1) (gs:=f2) h1 t1 n1,g=>by
  have:=Trs.cons h1 (Trs.snoc h t1 fun a ha=>g a (ia _ ha)) (fun _ a ha hb=>(je.mp hb).elim (n1 rfl a ha) (g a (iu _ ha)))
  rwa [←jr]at this
theorem Trs.cut{K:ς}: ∀{j:Nat}{xs:List V}{ds:List θ}{fs:List Addr}{x:V},Trs true K H xs ds fs->xs[j]?=some x->∃d f1 f2 f3,ds[j]?=some d/\fs=f1++(f2++f3)/\Trs true K H (xs.take j) (ds.take j) f1/\Tr true K H x d f2/\Trs true K H (xs.drop (j+1)) (ds.drop (j+1)) f3/\(∀a∈f1,a∉f2/\a∉f3)/\∀a∈f2,a∉f3
 |0,_,_,_,_,.cons (d:=d) (fs:=f2) (gs:=f3) h t n,e=>by
  cases e;exact⟨d,[],f2,f3,rfl,rfl,.nil,h,t,fun a z=>(by cases z),n rfl⟩
 |j+1,_,_,_,_,.cons (d:=d) (fs:=f0) (gs:=f9) h t n,e=>by
  obtain⟨d',f1,f2,f3,h1,rfl,h3,h4,h5,h6,h7⟩:=Trs.cut (j:=j) t e;refine⟨d',f0++f1,f2,f3,h1,by rw[jr],.cons h h3 fun _ a ha hb=>n rfl a ha (iu _ hb),h4,h5,fun a ha=>?_,h7⟩;rcases je.mp ha with ha|ha
  ·exact⟨fun z=>n rfl a ha (ia _ (iu _ z)),fun z=>n rfl a ha (ia _ (ia _ z))⟩
  ·exact h6 a ha
 |_,_,_,_,_,.nil,e=>by cases e
theorem Trs.glue{K:ς}(hx:Tr true K H x d f2)(ht:Trs true K H ys es f3)(h7:∀a∈f2,a∉f3):∀{xs:List V}{ds:List θ}{f1:List Addr},Trs true K H xs ds f1->(∀a∈f1,a∉f2/\a∉f3)->Trs true K H (xs++x::ys) (ds++d::es) (f1++(f2++f3))
 |_,_,_,.nil,_=>by have:=Trs.cons (z:=true) hx ht (fun _=>h7);exact this
 |_,_,_,.cons (fs:=g1) (gs:=g2) h t n,g=>by
  have:=Trs.cons h (Trs.glue hx ht h7 t fun a ha=>g a (ia _ ha)) (fun _ a ha hb=>by
   rcases je.mp hb with hb|hb
   ·exact n rfl a ha hb
   rcases je.mp hb with hb|hb
   ·exact(g a (iu _ ha)).1 hb
   ·exact(g a (iu _ ha)).2 hb)
  rwa [←jr]at this
theorem aEa : ∀{ks:List Str}{es:List θ},lkD (kvD ks es) x=some e->∃j:Nat,ks[j]?=some x/\es[j]?=some e
 |[],_,h=>by cases h
 |_::_,[],h=>by cases h
 |k::ks,d::es,h=>by
  have h':(if k=x then some d else lkD (kvD ks es) x)=some e:=h
  by_cases z:k=x
  ·rw[if_pos z]at h';exact⟨0,by rw[z];rfl,h'⟩
  ·rw[if_neg z]at h';obtain⟨j,h1,h2⟩:=aEa h';exact⟨j+1,h1,h2⟩
def New (H:Hp) (fs:List Addr):Prop:=∀a∈fs,H a=none
theorem New.app(h:New H fs)(h':New H gs):New H (fs++gs):=fun a ha=>(je.mp ha).elim (h a) (h' a)
theorem New.cons{H:Hp}{a:Addr}{gs:List Addr}(h:H a=none)(h':New H gs):New H (a::gs):=fun b hb=>by
 rcases Ξ.mp hb with rfl|hb
 ·exact h
 ·exact h' b hb
theorem New.back(h:New H' fs)(g:jJ H H'):New H fs:=fun a ha=>g.free (h a ha)
theorem Mu.not{H:Hp}(h:Mu H ms)(n:H a=none):a∉ms:=fun z=>by
 rcases h a z with⟨_,e⟩|⟨_,e⟩ <;> rw[n]at e <;> cases e
theorem New.dis(h:New H gs)(m:Mu H fs):∀a∈fs,a∉gs:=fun a ha hb=>m.not (h a hb) ha
theorem Tr.put{K:ς}{H:Hp}{a:Addr}(h:Tr z K H x d fs)(n:a∉fs)(m:(∃xs,H a=some (.lst xs))\/∃kvs,H a=some (.dK kvs)):Tr z K (upd H a o) x d fs:=h.fr (ms:=[a]) (Fr.upd (ο.mpr rfl)) (fun b hb=>by rw[ο.mp hb];exact m) fun b hb z=>n (by rw[←ο.mp z];exact hb)
theorem Trs.put{K:ς}{H:Hp}{a:Addr}(h:Trs z K H xs ds fs)(n:a∉fs)(m:(∃xs,H a=some (.lst xs))\/∃kvs,H a=some (.dK kvs)):Trs z K (upd H a o) xs ds fs:=h.fr (ms:=[a]) (Fr.upd (ο.mpr rfl)) (fun b hb=>by rw[ο.mp hb];exact m) fun b hb z=>n (by rw[←ο.mp z];exact hb)
section
variable {X:Cx}{pins:List (Addr×Obj)}{σ:St}{H:Hp}{s:χ}
mutual
theorem Tr.any{K:ς}: ∀{x:V}{d:θ}{fs:List Addr},Tr true K H x d fs->Tr false K H x d fs
 |_,_,_,.int i=>.int i
 |_,_,_,.lst h t n=>.lst h (Trs.any t) n
 |_,_,_,.tup h t=>.tup h (Tr.any t)
 |_,_,_,.dct h l t n=>.dct h l (Trs.any t) n
theorem Trs.any{K:ς}: ∀{xs:List V}{ds:List θ}{fs:List Addr},Trs true K H xs ds fs->Trs false K H xs ds fs
 |_,_,_,.nil=>.nil
 |_,_,_,.cons h t _=>.cons (Tr.any h) (Trs.any t) fun z=>by cases z
end
theorem Trs.at{K:ς}: ∀{xs:List V}{ds:List θ}{fs:List Addr}{j:Nat}{x:V},Trs z K H xs ds fs->xs[j]?=some x->∃d gs,ds[j]?=some d/\Tr z K H x d gs/\∀a∈gs,a∈fs
 |_,_,_,0,_,.cons (d:=d) (fs:=f) h _ _,e=>by cases e;exact⟨d,f,rfl,h,fun a ha=>iu _ ha⟩
 |_,_,_,j+1,_,.cons _ t _,e=>by
  obtain⟨d,gs,h1,h2,h3⟩:=Trs.at (j:=j) t e;exact⟨d,gs,h1,h2,fun a ha=>ia _ (h3 a ha)⟩
 |_,_,_,_,_,.nil,e=>by cases e
end
end L2
namespace L2
open PySem PySem.Spec PyProof.Rows
inductive Stp
 |ix (j:Nat)
 |nm (w:Str)
def Stp.v:Stp->V
 |.ix j=>.int (j:Int)
 |.nm w=>.str w
inductive At:θ->List Stp->θ->Prop
 |nil {e:θ} : At e [] e
 |row {j:Nat}{es:List θ}{e1 e':θ}{ws:List Stp} : es[j]?=some e1->At e1 ws e'->At (.list es) (.ix j::ws) e'
 |fld {m:Nat}{ks:List Str}{es:List θ}{w:Str}{e1 e':θ}{ws:List Stp} : ks[m]?=some w->es[m]?=some e1->ks.Nodup->ks.length=es.length->At e1 ws e'->At (.dict (kvD ks es)) (.nm w::ws) e'
 |pick {m:Int}{w:Str}{e1 e':θ}{ws:List Stp} : At e1 ws e'->At (.tuple [.int m,e1]) (.nm w::ws) e'
inductive Put (v:θ):θ->List Stp->θ->Prop
 |nil {e:θ} : Put v e [] v
 |row {j:Nat}{es:List θ}{e1 e2:θ}{ws:List Stp} : es[j]?=some e1->Put v e1 ws e2->Put v (.list es) (.ix j::ws) (.list (es.set j e2))
 |fld {m:Nat}{ks:List Str}{es:List θ}{w:Str}{e1 e2:θ}{ws:List Stp} : ks[m]?=some w->es[m]?=some e1->ks.Nodup->ks.length=es.length->Put v e1 ws e2->Put v (.dict (kvD ks es)) (.nm w::ws) (.dict (kvD ks (es.set m e2)))
 |pick {m:Int}{w:Str}{e1 e2:θ}{ws:List Stp} : Put v e1 ws e2->Put v (.tuple [.int m,e1]) (.nm w::ws) (.tuple [.int m,e2])
theorem Put.fldI{ws:List Stp}{m:Nat}(h:Put v (.dict (kvD ks es)) (.nm w::ws) c)(hk:ks[m]?=some w)(he:es[m]?=some e1)(hn:ks.Nodup)(hl:ks.length=es.length):∃e2,Put v e1 ws e2/\c=.dict (kvD ks (es.set m e2)):=by
 generalize hd:se (kvD ks es)=d at h;cases h with
 | @fld m' ks' es' _ e1' e2 _ h1 h2 h3 h4 h5 =>
  injection hd with hd;obtain⟨rfl,rfl⟩:=xW hl h4 hd;have:m'=m:=(tu (ε.mp h1).1 h3).mp (h1.trans hk.symm);subst this;rw[he]at h2;cases h2;exact⟨e2,h5,rfl⟩
 |pick=>cases hd
theorem Put.det(h:Put v e ws a):∀{b:θ},Put v e ws b->a=b:=by
 induction h with
 |nil=>intro b g;cases g;rfl
 |row h1 _ ih =>
  intro b g;cases g with
  |row g1 g2=>rw[h1]at g1;cases g1;rw[ih g2]
 |fld h1 h2 h3 h4 _ ih =>
  intro b g;obtain⟨e2,g1,rfl⟩:=g.fldI h1 h2 h3 h4;rw[ih g1]
 |pick _ ih =>
  intro b g;generalize hw:Stp.nm _=w at g;cases g with
  |pick g1=>rw[ih g1]
theorem Put.ex(h:At e ws e'):∃e2,Put v e ws e2:=by
 induction h with
 |nil=>exact⟨_,.nil⟩
 |row a _ ih=>obtain⟨e2,p⟩:=ih;exact⟨_,.row a p⟩
 |fld a b c d _ ih=>obtain⟨e2,p⟩:=ih;exact⟨_,.fld a b c d p⟩
 |pick _ ih=>obtain⟨e2,p⟩:=ih;exact⟨_,.pick p⟩
theorem Put.comp(h:At e ws e1)(p:Put a e1 us b):∀{c:θ},Put b e ws c->Put a e (ws++us) c:=by
 induction h with
 |nil=>intro c g;cases g;exact p
 |row h1 _ ih =>
  intro c g;cases g with
  |row g1 g2=>rw[h1]at g1;cases g1;exact .row h1 (ih p g2)
 |fld h1 h2 h3 h4 _ ih =>
  intro c g;obtain⟨e2,g1,rfl⟩:=g.fldI h1 h2 h3 h4;exact .fld h1 h2 h3 h4 (ih p g1)
 |pick _ ih =>
  intro c g;cases g with
  |pick g1=>exact .pick (ih p g1)
theorem At.app(h:At e ws e1)(g:At e1 us e2):At e (ws++us) e2:=by
 induction h with
 |nil=>exact g
 |row a _ ih=>exact .row a (ih g)
 |fld a b c d _ ih=>exact .fld a b c d (ih g)
 |pick _ ih=>exact .pick (ih g)
inductive Pth (S:List Shp):Kd->θ->List Stp->Kd->θ->Prop
 |nil {k:Kd}{e:θ} : Pth S k e [] k e
 |row {c j:Nat}{q k':Kd}{es:List θ}{e1 e':θ}{ws:List Stp} : j<c->es[j]?=some e1->Pth S q e1 ws k' e'->Pth S (.many c q) (.list es) (.ix j::ws) k' e'
 |fld {i j m:Nat}{q k':Kd}{ks:List Str}{es:List θ}{w:Str}{e1 e':θ}{ws:List Stp} : ((Kd.nest i).parts S)[j]?=some (w,q)->ks[m]?=some w->es[m]?=some e1->ks.Nodup->ks.length=es.length->Pth S q e1 ws k' e'->Pth S (.nest i) (.dict (kvD ks es)) (.nm w::ws) k' e'
 |pick {is:List Nat}{m i:Nat}{s:Shp}{k':Kd}{e1 e':θ}{ws:List Stp} : is[m]?=some i->S[i]?=some s->Pth S (.nest i) e1 ws k' e'->Pth S (.pick is) (.tuple [.int (m:Int),e1]) (.nm s.1::ws) k' e'
theorem Pth.at(h:Pth S k e ws k' e'):At e ws e':=by
 induction h with
 |nil=>exact .nil
 |row _ a _ ih=>exact .row a ih
 |fld _ a b c d _ ih=>exact .fld a b c d ih
 |pick _ _ _ ih=>exact .pick ih
theorem Pth.app(h:Pth S k e ws k1 e1)(g:Pth S k1 e1 us k2 e2):Pth S k e (ws++us) k2 e2:=by
 induction h with
 |nil=>exact g
 |row a b _ ih=>exact .row a b (ih g)
 |fld a b c d f _ ih=>exact .fld a b c d f (ih g)
 |pick a b _ ih=>exact .pick a b (ih g)
def stE (w:Str) (v:θ):θ×θ->θ×θ
 | (.str k,d)=>if k=w then (.str k,v) else (.str k,d)
 |p=>p
theorem aHg : ∀{ks:List Str}{es:List θ}{m:Nat},ks.Nodup->ks.length=es.length->ks[m]?=some w->kvD ks (es.set m v)=(kvD ks es).map (stE w v):=by
 have out:∀{ks:List Str}{es:List θ},w∉ks->(kvD ks es).map (stE w v)=kvD ks es:=by
  intro ks
  induction ks with
  |nil=>intro es _;rfl
  |cons k ks ih =>
   intro es hn;cases es with
   |nil=>rfl
   |cons e es =>
    show(if k=w then (jg k,v) else (jg k,e))::(kvD ks es).map _=(jg k,e)::kvD ks es;rw[if_neg (fun z:k=w=>hn (z ▸ Δ ..)),ih (fun z=>hn (Ψ _ z))]
 intro ks
 induction ks with
 |nil=>intro es m _ _ h;simp at h
 |cons k ks ih =>
  intro es m hn hl h;cases es with
  |nil=>cases hl
  |cons e es =>
   obtain⟨n1,n2⟩:=md.mp hn;cases m with
   |zero =>
    have ek:k=w:=by simpa using h
    show(jg k,v)::kvD ks es=(if k=w then (jg k,v) else (jg k,e))::(kvD ks es).map _;rw[if_pos ek,out (fun z=>n1 (ek ▸ z))]
   |succ m =>
    have hm:ks[m]?=some w:=h;show(jg k,e)::kvD ks (es.set m v)=(if k=w then (jg k,v) else (jg k,e))::(kvD ks es).map _;rw[if_neg (fun z:k=w=>n1 (z ▸ ι hm)),ih n2 (lc hl) hm]
theorem xC.set{c:Kd->θ->θ->Prop}: ∀{fs:List (Str×Kd)}{ds es:List θ}{j:Nat}{f:Str×Kd}{d e:θ},xC c fs ds es->fs[j]?=some f->c f.2 d e->xC c fs (ds.set j d) (es.set j e):=by
 intro fs
 induction fs with
 |nil=>intro ds es j f d e _ h _;simp at h
 |cons g fs ih =>
  intro ds es j f d e h hf hc;cases ds with
  |nil=>exact h.elim
  |cons d0 ds =>
   cases es with
   |nil=>exact h.elim
   |cons e0 es =>
    cases j with
    |zero=>cases hf;exact⟨hc,h.2⟩
    |succ j=>exact⟨h.1,ih h.2 hf hc⟩
theorem Pth.rec'(hG:Good S)(hS:FNd S)(h:Pth S k e ws k' e'):∀{n:Nat}{d:θ},k.Fit S.length->k.Rk n->Rec S n k d e->∃n' d',n=n'+ws.length/\k'.Fit S.length/\k'.Rk n'/\Rec S n' k' d' e':=by
 induction h with
 |nil=>intro n d f r h;exact⟨n,d,rfl,f,r,h⟩
 | @row c j q k' es e1 e' ws hj he _ ih =>
  intro n d f r h;cases n with
  |zero=>exact h.elim
  |succ n =>
   obtain⟨ds,es',rfl,e2,h⟩:=h;cases e2;have hp:((Kd.many c q).parts S)[j]?=some (η (toString j),q):=by
    show((ir c).map _)[j]?=_;rw[υ,nr hj];rfl
   obtain⟨d1,e2,z1,z2,z3⟩:=h.get hp;rw[he]at z2;cases z2;obtain⟨p1,p2,_⟩:=Kd.parts_ok hG f r (ι hp);obtain⟨n',d',q1,q2⟩:=ih p2 p1 z3;exact⟨n',d',by rw[Γ];omega,q2⟩
 | @fld i j m q k' ks es w e1 e' ws hp hk he hn hl _ ih =>
  intro n d f r h;cases n with
  |zero=>exact h.elim
  |succ n =>
   obtain⟨ds,es',ks',es2,rfl,e2,l,p,h⟩:=h;injection e2 with e2;obtain⟨rfl,rfl⟩:=xW hl l e2;have D:=aHt (xJ hS i) hl p h;obtain⟨d1,e2,z1,z2,z3⟩:=D.g j _ hp;have:e2=e1:=by
    have:=fK hn (tF hk he);rw[this]at z2;cases z2;rfl
   subst this;obtain⟨p1,p2,_⟩:=Kd.parts_ok hG f r (ι hp);obtain⟨n',d',q1,q2⟩:=ih p2 p1 z3;exact⟨n',d',by rw[Γ];omega,q2⟩
 | @pick is m i s k' e1 e' ws hi hs _ ih =>
  intro n d f r h;cases n with
  |zero=>exact h.elim
  |succ n =>
   obtain⟨j,i',a,b,h1,rfl,h2,h3⟩:=h;injection h2 with h2;injection h2 with h2 h4;injection h4 with h4 _;injection h2 with h2;have:j=m:=by omega
   subst this;subst h4;rw[hi]at h1;cases h1;have hm:=ι hi;obtain⟨n',d',q1,q2⟩:=ih (show i<S.length from(ε.mp hs).1) (show 2*i+2<=n by have:=r i hm;omega) h3;exact⟨n',d',by rw[Γ];omega,q2⟩
theorem Pth.put(hS:FNd S)(h:Pth S k e ws k' e')(hv:∀n,∃d,Rec S n k' d v):∀{n:Nat}{d e2:θ},Rec S n k d e->Put v e ws e2->∃d2,Rec S n k d2 e2:=by
 induction h with
 |nil=>intro n d e2 _ g;cases g;exact hv n
 | @row c j q k' es e1 e' ws hj he _ ih =>
  intro n d e2 h g;cases n with
  |zero=>exact h.elim
  |succ n =>
   obtain⟨ds,es',rfl,e3,h⟩:=h;cases e3;have hp:((Kd.many c q).parts S)[j]?=some (η (toString j),q):=by
    show((ir c).map _)[j]?=_;rw[υ,nr hj];rfl
   obtain⟨d1,e3,z1,z2,z3⟩:=h.get hp;rw[he]at z2;cases z2;cases g with
   |row g1 g2 =>
    rw[he]at g1;cases g1;obtain⟨d2,q⟩:=ih hv z3 g2;exact⟨_,_,_,rfl,rfl,h.set hp q⟩
 | @fld i j m q k' ks es w e1 e' ws hp hk he hn hl _ ih =>
  intro n d e2 h g;cases n with
  |zero=>exact h.elim
  |succ n =>
   obtain⟨ds,es',ks',es2,rfl,e3,l,p,h⟩:=h;injection e3 with e3;obtain⟨rfl,rfl⟩:=xW hl l e3;have D:=aHt (xJ hS i) hl p h;obtain⟨d1,e3,z1,z2,z3⟩:=D.g j _ hp;have:e3=e1:=by
    have:=fK hn (tF hk he);rw[this]at z2;cases z2;rfl
   subst this;obtain⟨e4,g1,rfl⟩:=g.fldI hk he hn hl;obtain⟨d2,q⟩:=ih hv z3 g1;refine⟨_,ds.set j d2,es'.set j e4,ks,es.set m e4,rfl,rfl,by rw[uo];exact hl,?_,h.set hp q⟩;have lf:=h.len;rw[aY]at p ⊢;rw[aHg hn hl hk,aHg (xJ hS i) (by rw[δ];exact lf.2) (show(((Kd.nest i).parts S).map (·.1))[j]?=some w by rw[υ,hp];rfl)];exact p.map _
 | @pick is m i s k' e1 e' ws hi hs _ ih =>
  intro n d e2 h g;cases n with
  |zero=>exact h.elim
  |succ n =>
   obtain⟨j,i',a,b,h1,rfl,h2,h3⟩:=h;injection h2 with h2;injection h2 with h2 h4;injection h4 with h4 _;injection h2 with h2;have:j=m:=by omega
   subst this;subst h4;rw[hi]at h1;cases h1;cases g with
   |pick g1 =>
    obtain⟨d2,q⟩:=ih hv h3 g1;exact⟨_,_,_,_,_,hi,rfl,rfl,q⟩
theorem Pth.of_put(h:Pth S k e ws k' e'):∀{e2:θ},Put v e ws e2->Pth S k e2 ws k' v:=by
 induction h with
 |nil=>intro e2 g;cases g;exact .nil
 |row a b _ ih =>
  intro e2 g;cases g with
  |row g1 g2 =>
   rw[b]at g1;cases g1;exact .row a (sg (ε.mp b).1) (ih g2)
 |fld hp hk he hn hl _ ih =>
  intro e2 g;obtain⟨e4,g1,rfl⟩:=g.fldI hk he hn hl;exact .fld hp hk (sg (ε.mp he).1) hn (by rw[uo];exact hl) (ih g1)
 |pick a b _ ih =>
  intro e2 g;cases g with
  |pick g1=>exact .pick a b (ih g1)
variable {K:ς}{H:Hp}
theorem eL{α : Type}{l:List α}{j:Nat}{x y : α}(h:l[j]?=some x):l.set j y=l.take j++y::l.drop (j+1):=by
 rw[List.set_eq_take_append_cons_drop,if_pos (ε.mp h).1]
theorem iE{α : Type}{l:List α}{j:Nat}{x : α}(h:l[j]?=some x):l.take j++x::l.drop (j+1)=l:=by
 obtain⟨h1,h2⟩:=ε.mp h;rw[←h2,←jl h1,ky]
theorem Tr.rowI(h:Tr z K H (.ref a) (.list es) f):∃xs fs,f=a::fs/\H a=some (.lst xs)/\Trs z K H xs es fs/\a∉fs:=by
 cases h with
 |lst h t n=>exact⟨_,_,rfl,h,t,n⟩
theorem Tr.fldI{ks:List Str}{es:List θ}(hl:ks.length=es.length)(h:Tr z K H (.ref a) (.dict (kvD ks es)) f):∃xs fs,f=a::fs/\H a=some (.dK (ig (fun k v=>((.inr k:Key),v)) ks xs))/\ks.length=xs.length/\Trs z K H xs es fs/\a∉fs:=by
 generalize hd:se (kvD ks es)=d at h;cases h with
 |lst=>cases hd
 |tup=>cases hd
 |dct h l t n =>
  injection hd with hd;obtain⟨rfl,rfl⟩:=xW hl (l.trans t.len) hd;exact⟨_,_,rfl,h,l,t,n⟩
theorem Tr.tupI{e:θ}(h:Tr z K H (.ref a) (.tuple [.int m,e]) f):∃y,SqT K H a [.int m,y]/\Tr z K H y e f:=by
 cases h with
 |tup h t=>exact⟨_,h,t⟩
theorem Tr.intF(h:Tr z K H x (.int c) f):f=[]:=by
 cases h;rfl
theorem Trs.chg{j:Nat}(t:Trs true K H xs es fs)(hy:xs[j]?=some y):∃e f,es[j]?=some e/\Tr true K H y e f/\(∀b∈f,b∈fs)/\∀H' y' e2,Fr f H H'->Tr true K H' y' e2 f->Trs true K H' (xs.set j y') (es.set j e2) fs:=by
 obtain⟨e,f1,f2,f3,he,rfl,t1,t2,t3,h6,h7⟩:=t.cut hy;refine⟨e,f2,he,t2,fun b hb=>ia _ (iu _ hb),fun H' y' e2 f g=>?_⟩;rw[eL hy,eL he];exact Trs.glue g (t3.fr f t2.mu fun b hb z=>h7 b z hb) h7 (t1.fr f t2.mu fun b hb=>(h6 b hb).1) h6
structure Hol (K:ς) (H:Hp) (x:V) (e:θ) (gs:List Addr) (ws:List Stp) (y:V) (e1:θ) (f1:List Addr):Prop where
 at':At e ws e1
 tr:Tr true K H y e1 f1
 sub:∀b∈f1,b∈gs
 put:∀H' e2,Fr f1 H H'->Tr true K H' y e2 f1->∃e3,Put e2 e ws e3/\Tr true K H' x e3 gs
theorem Hol.refl(h:Tr true K H x e gs):Hol K H x e gs [] x e gs:=⟨.nil,h,fun _ z=>z,fun _ e2 _ t=>⟨e2,.nil,t⟩⟩
theorem Hol.go{st:Stp}(h:Hol K H x e gs ws y e1 f1)(a1:At e1 [st] e')(tr:Tr true K H y' e' f2)(sub:∀b∈f2,b∈f1)(put:∀H' e2,Fr f2 H H'->Tr true K H' y' e2 f2->∃e3,Put e2 e1 [st] e3/\Tr true K H' y e3 f1):Hol K H x e gs (ws++[st]) y' e' f2 :=
 ⟨h.at'.app a1,tr,fun b hb=>h.sub b (sub b hb),fun H' e2 f t=>by
  obtain⟨e3,p,t2⟩:=put H' e2 f t;obtain⟨e4,p2,t3⟩:=h.put H' e3 (f.mono sub) t2;exact⟨e4,Put.comp h.at' p p2,t3⟩⟩
theorem Hol.row{x:V}{e:θ}{gs:List Addr}{ws:List Stp}{a:Addr}{es:List θ}{f1:List Addr}{xs:List V}{j:Nat}{y':V}(h:Hol K H x e gs ws (.ref a) (.list es) f1)(ha:H a=some (.lst xs))(hy:xs[j]?=some y'):∃e' f2,es[j]?=some e'/\Hol K H x e gs (ws++[.ix j]) y' e' f2:=by
 obtain⟨xs',fs,rfl,h1,t,n⟩:=h.tr.rowI;rw[ha]at h1;cases h1;obtain⟨e',f2,he,t2,sub,p⟩:=t.chg hy;refine⟨e',f2,he,h.go (.row he .nil) t2 (fun b hb=>Ψ _ (sub b hb)) fun H' e2 f t3=>⟨_,.row he .nil,?_⟩⟩;have t4:=p H' y' e2 f t3;rw[eL hy,iE hy]at t4;exact .lst (f _ _ (fun z=>n (sub _ z)) ha) t4 n
theorem Hol.fld{x:V}{e:θ}{gs:List Addr}{ws:List Stp}{a:Addr}{ks:List Str}{es:List θ}{f1:List Addr}{xs:List V}{m:Nat}{w:Str}{y':V}(hl:ks.length=es.length)(hn:ks.Nodup)(h:Hol K H x e gs ws (.ref a) (.dict (kvD ks es)) f1)(ha:H a=some (.dK (ig (fun k v=>((.inr k:Key),v)) ks xs)))(hlx:ks.length=xs.length)(hk:ks[m]?=some w)(hy:xs[m]?=some y'):∃e' f2,es[m]?=some e'/\Hol K H x e gs (ws++[.nm w]) y' e' f2:=by
 obtain⟨xs',fs,rfl,h1,l2,t,n⟩:=h.tr.fldI hl;have:xs'=xs:=by
  rw[ha]at h1;injection h1 with h1;injection h1 with h1;have ex:∀(ks:List Str) (us vs:List V),ks.length=us.length->ks.length=vs.length->ig (fun k v=>((.inr k:Key),v)) ks us=ig (fun k v=>((.inr k:Key),v)) ks vs->us=vs:=by
   intro ks
   induction ks with
   |nil=>intro us vs h h' _;cases us with
    |nil=>cases vs with
     |nil=>rfl
     |cons=>cases h'
    |cons=>cases h
   |cons k ks ih=>intro us vs h h' q;cases us with
    |nil=>cases h
    |cons u us=>cases vs with
     |nil=>cases h'
     |cons v vs =>
      injection q with q1 q2;injection q1 with _ q1;rw[q1,ih us vs (lc h) (lc h') q2]
  exact(ex _ _ _ hlx l2 h1).symm
 subst this;obtain⟨e',f2,he,t2,sub,p⟩:=t.chg hy;refine⟨e',f2,he,h.go (.fld hk he hn hl .nil) t2 (fun b hb=>Ψ _ (sub b hb)) fun H' e2 f t3=>⟨_,.fld hk he hn hl .nil,?_⟩⟩;have t4:=p H' y' e2 f t3;rw[eL hy,iE hy]at t4;exact .dct (f _ _ (fun z=>n (sub _ z)) ha) l2 t4 n
theorem Hol.pick{x:V}{e:θ}{gs:List Addr}{ws:List Stp}{a:Addr}{m:Int}{e1:θ}{f1:List Addr}{w:Str}(h:Hol K H x e gs ws (.ref a) (.tuple [.int m,e1]) f1):∃y',SqT K H a [.int m,y']/\Hol K H x e gs (ws++[.nm w]) y' e1 f1:=by
 obtain⟨y',h1,t⟩:=h.tr.tupI;exact⟨y',h1,h.go (.pick .nil) t (fun _ z=>z) fun H' e2 f t3=>⟨_,.pick .nil,.tup (f.tp t.mu.nt h1) t3⟩⟩
theorem Hol.setR{j:Nat}(h:Hol K H x e gs ws (.ref a) (.list es) f1)(ha:H a=some (.lst xs))(hc:es[j]?=some (.int c)):∃e3,Put (.int v) e (ws++[.ix j]) e3/\Tr true K (upd H a (.lst (xs.set j (.int v)))) x e3 gs:=by
 obtain⟨xs',fs,rfl,h1,t,n⟩:=h.tr.rowI;rw[ha]at h1;cases h1;have hj:j<xs.length:=by rw[t.len];exact(ε.mp hc).1
 have hy:xs[j]?=some xs[j]:=ζ hj;obtain⟨e',f2,he,t2,sub,p⟩:=t.chg hy;rw[hc]at he;cases he;have hf:=t2.intF;subst hf;obtain⟨e3,q1,q2⟩:=h.put (upd H a (.lst (xs.set j (.int v)))) (.list (es.set j (.int v))) (Fr.upd (Δ ..)) (.lst jT ((p H (.int v) (.int v) .refl (.int v)).put n (.inl ⟨_,ha⟩)) n);exact⟨e3,Put.comp h.at' (.row hc .nil) q1,q2⟩
theorem Hol.setF{ks:List Str}{es:List θ}{m:Nat}(hl:ks.length=es.length)(hn:ks.Nodup)(h:Hol K H x e gs ws (.ref a) (.dict (kvD ks es)) f1)(hk:ks[m]?=some w)(hc:es[m]?=some (.int c)):∃xs,H a=some (.dK (ig (fun k v=>((.inr k:Key),v)) ks xs))/\ks.length=xs.length/\∃e3,Put (.int v) e (ws++[.nm w]) e3/\Tr true K (upd H a (.dK (ig (fun k v=>((.inr k:Key),v)) ks (xs.set m (.int v))))) x e3 gs:=by
 obtain⟨xs,fs,rfl,h1,l2,t,n⟩:=h.tr.fldI hl;refine⟨xs,h1,l2,?_⟩;have hj:m<xs.length:=by rw[t.len];exact(ε.mp hc).1
 have hy:xs[m]?=some xs[m]:=ζ hj;obtain⟨e',f2,he,t2,sub,p⟩:=t.chg hy;rw[hc]at he;cases he;have hf:=t2.intF;subst hf;obtain⟨e3,q1,q2⟩:=h.put (upd H a (.dK (ig (fun k v=>((.inr k:Key),v)) ks (xs.set m (.int v))))) (.dict (kvD ks (es.set m (.int v)))) (Fr.upd (Δ ..)) (.dct jT (by rw[uo];exact l2) ((p H (.int v) (.int v) .refl (.int v)).put n (.inr ⟨_,h1⟩)) n);exact⟨e3,Put.comp h.at' (.fld hk hc hn hl .nil) q1,q2⟩
end L2
namespace L2
open PySem PySem.Spec PyProof.Rows
inductive StK (S:List Shp):Kd->Stp->Kd->Prop
 |row {c j:Nat}{q:Kd} : j<c->StK S (.many c q) (.ix j) q
 |fld {i j:Nat}{w:Str}{q:Kd} : ((Kd.nest i).parts S)[j]?=some (w,q)->StK S (.nest i) (.nm w) q
 |pick {is:List Nat}{m i:Nat}{s:Shp} : is[m]?=some i->S[i]?=some s->StK S (.pick is) (.nm s.1) (.nest i)
def KP (S:List Shp):Kd->List Stp->Kd->Prop
 |k,[],k'=>k'=k
 |k,st::ws,k'=>∃q,StK S k st q/\KP S q ws k'
theorem KP.snoc{st:Stp}(h2:StK S k' st k2):∀{ws:List Stp}{k:Kd},KP S k ws k'->KP S k (ws++[st]) k2:=by
 intro ws
 induction ws with
 |nil=>intro k h;cases h;exact⟨_,h2,rfl⟩
 |cons w ws ih=>intro k h;obtain⟨q,a,b⟩:=h;exact⟨q,a,ih b⟩
theorem KP.cut{us:List Stp}: ∀{ws:List Stp}{k:Kd},KP S k (ws++us) k2->∃k1,KP S k ws k1/\KP S k1 us k2:=by
 intro ws
 induction ws with
 |nil=>intro k h;exact⟨k,rfl,h⟩
 |cons w ws ih=>intro k h;obtain⟨q,a,b⟩:=h;obtain⟨k1,c,d⟩:=ih b;exact⟨k1,⟨q,a,c⟩,d⟩
theorem Pth.kp(h:Pth S k e ws k' e'):KP S k ws k':=by
 induction h with
 |nil=>rfl
 |row a _ _ ih=>exact⟨_,.row a,ih⟩
 |fld a _ _ _ _ _ ih=>exact⟨_,.fld a,ih⟩
 |pick a b _ ih=>exact⟨_,.pick a b,ih⟩
theorem StK.ok(hG:Good S){st:Stp}{r:Nat}(h:StK S k st q)(hf:k.Fit S.length)(hr:k.Rk (r+1)):q.Fit S.length/\q.Rk r:=by
 cases h with
 | @row c j q hj =>
  have hp:((Kd.many c q).parts S)[j]?=some (η (toString j),q):=by
   show((ir c).map _)[j]?=_;rw[υ,nr hj];rfl
  obtain⟨p1,p2,_⟩:=Kd.parts_ok hG hf hr (ι hp);exact⟨p2,p1⟩
 |fld hp =>
  obtain⟨p1,p2,_⟩:=Kd.parts_ok hG hf hr (ι hp);exact⟨p2,p1⟩
 | @pick is m i s hi hs =>
  exact⟨(ε.mp hs).1,show 2*i+2<=r by have:=hr i (ι hi);omega⟩
theorem cA(hG:Good S){st:Stp}(h:StK S k st q)(hf:k.Fit S.length):q.Fit S.length:=(h.ok hG hf (r:=2*S.length) hf.rk).1
theorem Dt.intI{K:ς}(h:Dt z K H x (.int i)):x=.int i:=by
 cases h;rfl
theorem Dt.lstI{K:ς}(h:Dt z K H x (.list ds)):∃a xs,x=.ref a/\SqL K H a xs/\(z=true->a≠jw)/\Dts z K H xs ds:=by
 cases h with
 |lst a b c=>exact⟨_,_,rfl,a,b,c⟩
theorem Dt.tupI{K:ς}(h:Dt z K H x (.tuple ds)):∃a xs,x=.ref a/\SqT K H a xs/\Dts z K H xs ds:=by
 cases h with
 |tup a c=>exact⟨_,_,rfl,a,c⟩
theorem Dt.pickI{K:ς}{e:θ}(h:Dt z K H x (.tuple [.int j,e])):∃a x1,x=.ref a/\SqT K H a [.int j,x1]/\Dt z K H x1 e:=by
 obtain⟨a,xs,rfl,h1,h2⟩:=h.tupI;cases h2 with
 |cons h3 h4 =>
  cases h4 with
  |cons h5 h6 =>
   cases h6;cases h3;exact⟨a,_,rfl,h1,h5⟩
inductive Chd (S:List Shp) (K:ς) (H:Hp):Kd->V->Stp->V->Prop
 |row {c j:Nat}{q:Kd}{a:Addr}{xs:List V}{v:V} : SqL K H a xs->xs[j]?=some v->j<c->Chd S K H (.many c q) (.ref a) (.ix j) v
 |fld {i j m:Nat}{q:Kd}{a:Addr}{ks:List Str}{xs:List V}{w:Str}{v:V} : ((Kd.nest i).parts S)[j]?=some (w,q)->H a=some (.dK (ig (fun k v=>((.inr k:Key),v)) ks xs))->ks.length=xs.length->ks.Nodup->ks[m]?=some w->xs[m]?=some v->Chd S K H (.nest i) (.ref a) (.nm w) v
 |pick {is:List Nat}{m i:Nat}{s:Shp}{a:Addr}{v:V} : SqT K H a [.int (m:Int),v]->is[m]?=some i->S[i]?=some s->Chd S K H (.pick is) (.ref a) (.nm s.1) v
theorem Chd.same{K:ς}(g:jJ H H'){st:Stp}(h:Chd S K H k y st v):Chd S K H' k y st v:=by
 cases h with
 |row a b c=>exact .row (g.seq a) b c
 |fld a b c d e f=>exact .fld a (g _ _ b) c d e f
 |pick a b c=>exact .pick (g.tp a) b c
structure Lk (K:ς) (I:Hp->List Stp->V->θ->Prop):Prop where
 same:∀{H H':Hp}{ws:List Stp}{y:V}{e:θ},jJ H H'->I H ws y e->I H' ws y e
 row:∀{H:Hp}{ws:List Stp}{y:V}{es:List θ}{j:Nat}{e1:θ},I H ws y (.list es)->es[j]?=some e1->∃a xs v,y=.ref a/\SqL K H a xs/\xs[j]?=some v/\I H (ws++[.ix j]) v e1
 fld:∀{H:Hp}{ws:List Stp}{y:V}{ks:List Str}{es:List θ}{m:Nat}{w:Str}{e1:θ},I H ws y (.dict (kvD ks es))->ks[m]?=some w->es[m]?=some e1->ks.Nodup->ks.length=es.length->∃a xs v,y=.ref a/\H a=some (.dK (ig (fun k v=>((.inr k:Key),v)) ks xs))/\ks.length=xs.length/\xs[m]?=some v/\I H (ws++[.nm w]) v e1
 pick:∀{H:Hp}{ws:List Stp}{y:V}{m:Int}{e1:θ}{w:Str},I H ws y (.tuple [.int m,e1])->∃a v,y=.ref a/\SqT K H a [.int m,v]/\I H (ws++[.nm w]) v e1
theorem Lk.go{K:ς}{I:Hp->List Stp->V->θ->Prop}(L:Lk K I){ws:List Stp}{st:Stp}(p:Pth S k e (st::ws) k' e')(h:I H us y e):∃q v e1,StK S k st q/\Chd S K H k y st v/\Pth S q e1 ws k' e'/\I H (us++[st]) v e1:=by
 cases p with
 |row a b c =>
  obtain⟨x,xs,v,rfl,h1,h2,h3⟩:=L.row h b;exact⟨_,v,_,.row a,.row h1 h2 a,c,h3⟩
 |fld a b c d f g =>
  obtain⟨x,xs,v,rfl,h1,h2,h3,h4⟩:=L.fld h b c d f;exact⟨_,v,_,.fld a,.fld a h1 h2 d b h3,g,h4⟩
 |pick a b c =>
  obtain⟨x,v,rfl,h1,h2⟩:=L.pick h;exact⟨_,v,_,.pick a b,.pick h1 a b,c,h2⟩
theorem aJw{K:ς}: Lk K (fun H _ y e=>Dt false K H y e) where
 same g h:=h.same g
 row h he:=by
  cases h with
  |lst h1 _ t =>
   obtain⟨v,hv,hd⟩:=t.get he;exact⟨_,_,v,rfl,h1,hv,hd⟩
 fld {H ws y ks es m w e1} h hk he hn hl:=by
  generalize hd:se (kvD ks es)=d at h;cases h with
  |non=>cases hd
  |bl=>cases hd
  |int=>cases hd
  |str=>cases hd
  |lst=>cases hd
  |tup=>cases hd
  |dct h1 h2 t =>
   injection hd with hd;obtain⟨rfl,rfl⟩:=xW hl (h2.trans t.length) hd;obtain⟨v,hv,hd'⟩:=t.get he;exact⟨_,_,v,rfl,h1,h2,hv,hd'⟩
 pick h:=by
  cases h with
  |tup h1 t =>
   cases t with
   |cons a t =>
    cases t with
    |cons b t =>
     cases t;cases a;exact⟨_,_,rfl,h1,b⟩
theorem Hol.same{K:ς}(g:jJ H H')(m:Mu H gs)(h:Hol K H x e gs ws y e1 f1):Hol K H' x e gs ws y e1 f1 :=
 ⟨h.at',h.tr.same g,h.sub,fun H2 e2 f t=>h.put H2 e2 (fun b o n q=>f b o n (g b o q)) t⟩
theorem Tr.lstX{K:ς}{H:Hp}(h:Tr z K H y (.list es) f):∃a xs,y=.ref a/\H a=some (.lst xs)/\xs.length=es.length:=by
 cases h with
 |lst h t _=>exact⟨_,_,rfl,h,t.len⟩
theorem Tr.dctX{K:ς}{ks:List Str}{es:List θ}(hl:ks.length=es.length)(h:Tr z K H y (.dict (kvD ks es)) f):∃a,y=.ref a:=by
 generalize hd:se (kvD ks es)=d at h;cases h with
 |int=>cases hd
 |lst=>exact⟨_,rfl⟩
 |tup=>exact⟨_,rfl⟩
 |dct=>exact⟨_,rfl⟩
theorem Tr.tupX{K:ς}{e:θ}(h:Tr z K H y (.tuple [.int m,e]) f):∃a,y=.ref a:=by
 cases h with
 |tup=>exact⟨_,rfl⟩
theorem aRn{K:ς}: Lk K (fun H ws y e1=>∃f,Hol K H x e gs ws y e1 f) where
 same g h:=by
  obtain⟨f,h⟩:=h;exact⟨f,⟨h.at',h.tr.same g,h.sub,fun H2 e2 f t=>h.put H2 e2 (fun b o n q=>f b o n (g b o q)) t⟩⟩
 row h he:=by
  obtain⟨f,h⟩:=h;obtain⟨a,xs,rfl,ha,hl⟩:=h.tr.lstX;have hj:=(ε.mp he).1;have hy:=ζ (show _<xs.length by rw[hl];exact hj);obtain⟨e',f2,he',h2⟩:=h.row ha hy;rw[he]at he';cases he';exact⟨a,xs,_,rfl,SqL.of ha,hy,f2,h2⟩
 fld h hk he hn hl:=by
  obtain⟨f,h⟩:=h;obtain⟨a,rfl⟩:=h.tr.dctX hl;obtain⟨xs,fs,rfl,ha,l2,t,_⟩:=h.tr.fldI hl;have hj:=(ε.mp he).1;have hy:=ζ (show _<xs.length by rw[t.len];exact hj);obtain⟨e',f2,he',h2⟩:=h.fld hl hn ha l2 hk hy;rw[he]at he';cases he';exact⟨a,xs,_,rfl,ha,l2,hy,f2,h2⟩
 pick h:=by
  obtain⟨f,h⟩:=h;obtain⟨a,rfl⟩:=h.tr.tupX;obtain⟨y',h1,h2⟩:=h.pick;exact⟨a,y',rfl,h1,f,h2⟩
end L2
namespace K15
open PySem L2
theorem lZ : 0<=τ:=by decide
theorem lP : 1<=τ:=by decide
theorem xT : 2<=τ:=by decide
theorem aAc : 3<=τ:=by decide
theorem szL4 : 4<=τ:=by decide
theorem szL5 : 5<=τ:=by decide
def top (i : Nat) : Stmt := PySem.Challenge.pw_roomslaid_k15_looked_and_stored.main.body.getD i (.Pass ⟨0,0,0,0⟩)
def inClass:Stmt->Nat->Stmt
 |.ClassDef _ _ _ body _ _ _ _ _ _ _,j=>body.getD j (.Pass ⟨0,0,0,0⟩)
 |s,_=>s
theorem vZ{c A B:Prop}[Decidable c](hc:c)(h:A):if c then A else B:=by rw[if_pos hc];exact h
theorem qO{c A B:Prop}[Decidable c](hc:¬ c)(h:B):if c then A else B:=by rw[if_neg hc];exact h
structure Blt (mg:Str->Option Value):Prop where
 range:mg "range" = none
 len:mg "len" = none
 isinstance:mg "isinstance" = none
 int:mg "int" = none
 bool:mg "bool" = none
 list:mg "list" = none
 all:mg "all" = none
 max:mg "max" = none
 min:mg "min" = none
 reversed:mg "reversed" = none
 tuple:mg "tuple" = none
 divmod:mg "divmod" = none
 str:mg "str" = none
 sum:mg "sum" = none
 zip:mg "zip" = none
 enumerate:mg "enumerate" = none
 dict:mg "dict" = none
 repr:mg "repr" = none
 sorted:mg "sorted" = none
structure Df (K:ς) (mg:Str->Option Value) (x:Str) (f:Addr) (fd:rj) (ps:List Str):Prop where
 m:mg x=some (.ref f)
 k:keepIn K (.ref f)=true
 b:Binds K fd ps []
def St3 (H:Hp) (p:Addr):Prop:=∃a b c:Int,H p=some (.lst [.int a,.int b,.int c])
def Drawn (p:Addr) (H H':Hp):Prop:=St3 H' p/\∀b o,b≠p->H b=some o->H' b=some o
theorem Drawn.trans(a:Drawn p H H1)(b:Drawn p H1 H2):Drawn p H H2:=⟨b.1,fun c o n h=>b.2 c o n (a.2 c o n h)⟩
theorem Drawn.refl(h:St3 H p):Drawn p H H:=⟨h,fun _ _ _ q=>q⟩
theorem Drawn.new{H1:Hp}(a:Drawn p H H1)(hl:H1 l=none):Drawn p H (upd H1 l o):=by
 obtain⟨⟨x,y,z,e⟩,h⟩:=a;refine⟨⟨x,y,z,by rw[kF (jS e hl)];exact e⟩,fun b u n q=>?_⟩;have:=h b u n q;rw[kF (jS this hl)];exact this
theorem Drawn.same{H:Hp}(a:Drawn p H H')(hp:H p=none):jJ H H':=fun b o h=>a.2 b o (jS h hp) h
theorem vP{H:Hp}(h:H p=none)(o:HO):jJ H (upd H p o):=fun b u q=>by rw[kF (jS q h)];exact q
theorem aKo(ns:List Int){i:Int}(h0 : 0<=i)(h1:i<ns.length):∃v:Int,atI (ns.map V.int) i=some (.int v):=by
 have hk:i.toNat<ns.length:=by omega
 have e:i=((i.toNat:Nat):Int):=by omega
 have q:atI (ns.map V.int) ((i.toNat:Nat):Int)=some (.int ns[i.toNat]):=vT (by rw[υ,ζ hk] <;> rfl);rw[←e]at q;exact⟨_,q⟩
theorem small{n:Nat}(h:n<=1000):n<=τ:=kq (kL h)
def aLl (K:ς):Sp:=fun vs H Q _=>∃(a:Addr) (ns:List Int) (k:Int),vs=[.ref a,.int k]/\SqL K H a (ns.map V.int)/\0<=k/\k<64/\∀v:Int,Q (.int v) H
def aHq (K:ς):Sp:=fun vs H Q _=>∃(a:Addr) (ns:List Int),vs=[.ref a]/\SqL K H a (ns.map V.int)/\ns.length<=63/\∀H',Q (.bl true) H'
theorem jJ.tup{K:ς}{H H':Hp}{a:Addr}{xs:List V}(e:jJ H H')(h:SqT K H a xs):SqT K H' a xs:=by
 rcases h with (h|⟨o,h⟩)|h
 ·exact .inl (.inl (e _ _ h))
 ·exact .inl (.inr ⟨o,e _ _ h⟩)
 ·exact .inr h
theorem Drawn.tup{K:ς}{p:Addr}{H H':Hp}{a:Addr}{xs:List V}(hs:St3 H p)(e:Drawn p H H')(h:SqT K H a xs):SqT K H' a xs:=by
 obtain⟨x,y,z,hp⟩:=hs;rcases h with (h|⟨o,h⟩)|h
 ·exact .inl (.inl (e.2 _ _ (hV h hp (by intro z;cases z)) h))
 ·exact .inl (.inr ⟨o,e.2 _ _ (hV h hp (by intro z;cases z)) h⟩)
 ·exact .inr h
structure rO (K:ς) (mg:Str->Option Value) (x:Str) (C fI:Addr) (as:List Str):Prop where
 m:mg x=some (.ref C)
 cl:Cls K C
 ma:Mk K C fI
 na:∀a∈as,yT K C a
structure DfM (K:ς) (C:Addr) (m:Str) (f:Addr) (fd:rj) (ps:List Str):Prop where
 me:Meth K C m f
 b:Binds K fd ps []
structure DfI (K:ς) (fd:rj) (ps:List Str):Prop where
 b:Binds K fd ps []
structure TX (K:ς) (mg:Str->Option Value) (x:Str) (C R fI:Addr) (as:List Str):Prop where
 m:mg x=some (.ref C)
 c:ExCl K C R fI
 x:XCls K C (.ref R::VB)
 n:∀a∈as,ql K (.ref C) a=some none
def Cal (P:lu) (w:my) (K:ς) (mg:Str->Option Value) (base:nc) (CX:CXT) (k:Nat) (x:Str) (sp:Sp):Prop:=∃f fd ps,Df K mg x f fd ps/\jY P w K mg base CX k f fd ps sp
def zE (P:lu) (w:my) (K:ς) (mg:Str->Option Value) (base:nc) (CX:CXT) (k:Nat) (C:Addr) (x:Str) (sp:Sp):Prop:=∃f fd ps,DfM K C x f fd ps/\jY P w K mg base CX k f fd ps sp
def zC (P:lu) (w:my) (K:ς) (mg:Str->Option Value) (base:nc) (CX:CXT) (k:Nat) (f:Addr) (sp:Sp):Prop:=∃fd ps,DfI K fd ps/\jY P w K mg base CX k f fd ps sp
section
variable {P:lu}{w:my}{K:ς}{mg:Str->Option Value}{base:nc}{CX:CXT}{j k:Nat}{x:Str}{sp:Sp}{f C:Addr}{fd:rj}{ps:List Str}
variable {f:Addr}{fd:rj}
theorem Cal.of(D:Df K mg x f fd ps)(F:jY P w K mg base CX k f fd ps sp):Cal P w K mg base CX k x sp:=⟨_,_,_,D,F⟩
theorem zE.of(D:DfM K C x f fd ps)(F:jY P w K mg base CX k f fd ps sp):zE P w K mg base CX k C x sp:=⟨_,_,_,D,F⟩
theorem zC.of(D:DfI K fd ps)(F:jY P w K mg base CX k f fd ps sp):zC P w K mg base CX k f sp:=⟨_,_,D,F⟩
theorem Cal.o(F:Cal P w K mg base CX j x sp)(h:j<=k:=by omega):Cal P w K mg base CX k x sp:=let ⟨_,_,_,D,G⟩:=F; ⟨_,_,_,D,G.mono h⟩
theorem zE.o(F:zE P w K mg base CX j C x sp)(h:j<=k:=by omega):zE P w K mg base CX k C x sp:=let ⟨_,_,_,D,G⟩:=F; ⟨_,_,_,D,G.mono h⟩
theorem zC.o(F:zC P w K mg base CX j f sp)(h:j<=k:=by omega):zC P w K mg base CX k f sp:=let ⟨_,_,D,G⟩:=F; ⟨_,_,D,G.mono h⟩
end
section
variable {X:Cx}{CX:CXT}{E:XK}{k:Nat}{x:Str}{sp:Sp}{C fI R:Addr}{as:List Str}{S:St->Prop}{e o:Expr}{es:List Expr}{t:TA}{ta:TE}{p pos:Pos}
theorem aQy(F:Cal X.prog X.w X.K X.mg X.base CX k x sp)(hr:xA k X.A)(hg:Gl X x)(hx:zR CX X E)(ha:PA X (e::es) t)(hdb:(x == ("__debug__" : Str))=false:=by decide)(he:jk (e::es) X.env=(false,eval e X.env)::jk es X.env:=by rfl)(hpl:(uf pos (jk es X.env)).any (·.1)=false:=by rfl):
  PE X (.Call (.Name x p) (e::es) [] pos) (aMd sp [] E t):=let ⟨_,_,_,D,G⟩:=F;aOh G hr hg D.m D.k D.b .nil hx ha hdb he hpl
theorem xZ(he:PE X o ta)(c:Cls X.K C)(F:zE X.prog X.w X.K X.mg X.base CX k C m sp)(hr:xA k X.A)(hx:zR CX X E)
  (ht:eval (.Call (.Attribute o m apos) [] [] pos) X.env=(do
   let ov ←eval o X.env
   standAt apos.atName
   let (f,first) ←holding [ov] (getMethod ov m pl)
   callWith pos f first (uf pos (jk [] X.env)) (backToKw pos (keywordEach [] X.env))):=by rfl):
  PE X (.Call (.Attribute o m apos) [] [] pos) (aPm C m sp [] E ta aMl):=let ⟨_,_,_,D,G⟩:=F;aLd he c D.me G hr D.b .nil hx ht
theorem yW(T:rO X.K X.mg x C fI as)(F:zC X.prog X.w X.K X.mg X.base CX k fI sp)(hr:xA (k+1) X.A)(hg:Gl X x)(hx:zR CX X E)
  (ha:PA X (e::es) t)(hdb:(x == ("__debug__" : Str))=false:=by decide)(he:jk (e::es) X.env=(false,eval e X.env)::jk es X.env:=by rfl)(hpl:(uf pos (jk es X.env)).any (·.1)=false:=by rfl):
  PE X (.Call (.Name x p) (e::es) [] pos) (aPp C sp [] E t):=let ⟨_,_,D,G⟩:=F;aOe T.ma G hr hg T.m D.b .nil hx ha hdb he hpl
end
section
variable {X:Cx}{k:Nat}{x:Str}{sp:Sp}{C fI:Addr}{as:List Str}{e o a b:Expr}{es:List Expr}{t:TA}{te ta tb:TE}{p p' pos:Pos}{r:R2}{op:CmpOp}{i:Nat}
theorem jF(F:Cal X.prog X.w X.K X.mg X.base CX0 k x sp)(hr:xA k X.A)(ha:PA X (e::es) t)(hg:Gl X x:=by rfl)(hdb:(x == ("__debug__" : Str))=false:=by decide)(he:jk (e::es) X.env=(false,eval e X.env)::jk es X.env:=by rfl)(hpl:(uf pos (jk es X.env)).any (·.1)=false:=by rfl):
  PE X (.Call (.Name x p) (e::es) [] pos) (aMd sp [] E0 t):=aQy F hr hg qR ha hdb he hpl
theorem jG(hr:IxR X r)(ha:PE X a ta)(hb:PE X b tb)(hs:wD b:=by exact fun _ _=>rfl):PE X (.Subscript a b pos) (tOp r ta tb):=aPx hr ha hb hs
theorem jP(ho:OpR X (lh op) r)(ha:PE X a ta)(hb:PE X b tb)(h:op≠.In:=by decide)(h2:op≠.NotIn:=by decide):PT X (.Compare a [op] [b] pos) (aKm (tOp r ta tb)):=nT ho ha hb (vX _ h h2)
theorem jR(i:Nat)(hN:X.N.Nodup)(he:PE X e te)(hi:X.N[i]?=some x:=by rfl)(hx:Loc X.env.scope x:=by first|exact Or.inl rfl|exact Or.inr rfl)(hs:swapsWith e (some (.Name x p')) pos.line X.env=pure false:=by rfl)(hf:X.fn x=true\/X.env.scope.names.lookup x=some .local:=by first|exact .inl rfl|exact .inr rfl|assumption):
  PS X (.Assign [.Name x p'] e pos) (aJk te (yC i)):=aEt hN hi hx he hs hf
theorem kN(i:Nat)(hN:X.N.Nodup)(hi:X.N[i]?=some x:=by rfl)(hx:Loc X.env.scope x:=by exact Or.inl rfl)(hf:X.fn x=true\/X.env.scope.names.lookup x=some .local:=by first|exact .inl rfl|exact .inr rfl|assumption):PG X (.Name x pos) (yC i):=uR hN hi hx hf
theorem qD{ys:List Str}(hN:X.N=x::ys)(hx:Loc X.env.scope x:=by exact Or.inl rfl)(hd:(x::ys).Nodup:=by ac_rfl)(hf:X.fn x=true\/X.env.scope.names.lookup x=some .local:=by first|exact .inl rfl|exact .inr rfl|assumption):PG X (.Name x pos) (yC 0):=uR (i:=0) (hN ▸ hd) (by rw[hN];rfl) hx hf
theorem dP{y:Str}{ys:List Str}(hN:X.N=y::x::ys)(hx:Loc X.env.scope x:=by exact Or.inl rfl)(hd:(y::x::ys).Nodup:=by ac_rfl)(hf:X.fn x=true\/X.env.scope.names.lookup x=some .local:=by first|exact .inl rfl|exact .inr rfl|assumption):PG X (.Name x pos) (yC 1):=uR (i:=1) (hN ▸ hd) (by rw[hN];rfl) hx hf
theorem jU{c A B:Prop}[Decidable c](h:B)(hc:¬ c:=by decide):if c then A else B:=qO hc h
theorem kO{c A B:Prop}[Decidable c](h:A)(hc:c:=by decide):if c then A else B:=vZ hc h
theorem rO.nd{K:ς}{m:Str}(T:rO K mg x C fI as)(h:m∈as:=by decide):yT K C m:=T.na _ h
end
def aMh:List Str:=["shape","num","row","pick","tag","room","things","part","tags","put","take","many","look","which","store","choose","copy","each","span","if","else","end","out"]
abbrev zU:Str:="abcdefghijklmnopqrstuvwxyz"
abbrev bD:Str:="0123456789"
structure Cst (K:ς) (mg:Str->Option Value) (t1 t2 t3 t4 t5 t6 t7 t8 t9 t10 t11 t12 t13:Tok) (ts:Addr):Prop where
 SMALL_LETTERS:mg "SMALL_LETTERS" = some (.str "abcdefghijklmnopqrstuvwxyz" t1)
 FIGURES:mg "FIGURES" = some (.str "0123456789" t2)
 MOST_LETTERS:mg "MOST_LETTERS" = some (.int 6 t3)
 MOST_FIGURES:mg "MOST_FIGURES" = some (.int 10 t4)
 MOST_SHAPES:mg "MOST_SHAPES" = some (.int 8 t5)
 MOST_FIELDS:mg "MOST_FIELDS" = some (.int 6 t6)
 MOST_CELLS:mg "MOST_CELLS" = some (.int 64 t7)
 MOST_UNITS:mg "MOST_UNITS" = some (.int 40 t8)
 MOST_DEPTH:mg "MOST_DEPTH" = some (.int 4 t9)
 MOST_WIDTH:mg "MOST_WIDTH" = some (.int 4 t10)
 MOST_COUNT:mg "MOST_COUNT" = some (.int 6 t11)
 LEAST_PICKED:mg "LEAST_PICKED" = some (.int 2 t12)
 MOST_PICKED:mg "MOST_PICKED" = some (.int 4 t13)
 OWN_WORDS:mg "OWN_WORDS" = some (.ref ts)
 words:∀H,SqT K H ts (aMh.map V.str)
def tyA (K:ς) (x:V) (H:Hp) (t:String):Prop:=tyN K x H t\/(t = "dict"/\∃p kvs,x=.ref p/\H p=some (.dK kvs))
theorem jJ.tyA{K:ς}(g:jJ H H')(h:tyA K x H t):tyA K x H' t:=by
 rcases h with h|⟨e,p,kvs,ex,h⟩
 ·left;cases x with
  |ref p =>
   rcases h with⟨e,xs,h⟩|⟨e,xs,h⟩
   ·exact .inl ⟨e,xs,g.seq h⟩
   ·exact .inr ⟨e,xs,jJ.tup g h⟩
  |_=>exact h
 ·exact .inr ⟨e,p,kvs,ex,g _ _ h⟩
def within (x:Str) (most:Int):Bool:=decide (1<=(x.length:Int))&&decide ((x.length:Int)<=most)
def aDj (x signs:Str):Bool:=x.cps.toList.all fun c=>decide (c∈signs.cps.toList)
def qA (x:Str):Bool:=within x 6&&aDj x zU&&!decide (x∈aMh)
def aDx (x:Str):Bool:=decide (x.cps.toList[0]?=some 48)&&decide (1<(x.length:Int))
def uT (x:Str):Option Int:=if (within x 10&&aDj x bD&&!aDx x)=true then some ((PySem.NumText.digitsVal x.cps.toList:Nat):Int) else none
def optV:Option Int->V
 |none=>.non
 |some n=>.int n
def cL (o:Option Int) (lo hi:Int):Option Int:=match o with
 |none=>none
 |some n=>if lo<=n/\n<=hi then some n else none
def nX (K:ς):Sp:=fun vs H Q _=>∃(x:V) (signs:Str) (most:Int),vs=[x,.str signs,.int most] ∧
 ((∃z:Str,x=.str z/\z.length<=1000/\∀H',jJ H H'->Q (.bl (within z most&&aDj z signs)) H')\/(∃t,tyA K x H t/\t ≠ "str"/\Q (.bl false) H))
inductive pP (K:ς) (vs:List V) (H:Hp) (Q:VK):Prop|mk:∀x:V,vs=[x]->(((∃z:Str,x=.str z/\z.length<=1000/\∀H',jJ H H'->Q (.bl (qA z)) H')\/(∃t,tyA K x H t/\t ≠ "str"/\∀H',jJ H H'->Q (.bl false) H')))->pP K vs H Q
def aX (K:ς):Sp:=fun vs H Q _=>pP K vs H Q
inductive iO (K:ς) (vs:List V) (H:Hp) (Q:VK):Prop|mk:∀(x:V) (lo hi:Int),vs=[x,.int lo,.int hi]->(((∃z:Str,x=.str z/\z.length<=1000/\∀H',jJ H H'->Q (optV (cL (uT z) lo hi)) H')\/(∃t,tyA K x H t/\t ≠ "str"/\∀H',jJ H H'->Q .non H')))->iO K vs H Q
def fT (K:ς):Sp:=fun vs H Q _=>iO K vs H Q
theorem iT(x:Str)(ys:List Str):inV (.str x) (ys.map V.str)=decide (x∈ys):=by
 rw[px];simp only[inV,List.any_map,vy,Function.comp,decide_eq_true_eq,eqV,beq_iff_eq];constructor
 ·rintro ⟨y,hy,rfl⟩;exact hy
 ·intro h;exact⟨x,h,rfl⟩
theorem eO(ys:List Str):(ys.map V.str).all hE=true:=by
 rw[jm];intro x hx;obtain⟨n,_,rfl⟩:=iw.mp hx;rfl
theorem tR:zU.cps.toList=List.range' 97 26:=by ac_rfl
theorem aAf:bD.cps.toList=List.range' 48 10:=by ac_rfl
theorem eC(c:Nat):c∈zU.cps.toList ↔ 97<=c/\c<=122:=by
 rw[tR,List.mem_range'_1];omega
theorem aCb(c:Nat):c∈bD.cps.toList ↔ 48<=c/\c<=57:=by
 rw[aAf,List.mem_range'_1];omega
theorem aJz(f:Nat->Bool)(l:List Nat)(i:Nat)(h:l[i]?=some c):((l.take (i+1)).map f)=(l.take i).map f++[f c]:=by
 rw[jq,h,ρ] <;> rfl
theorem all_map(f:Nat->Bool)(l:List Nat):(l.map f).all id=l.all f:=by
 rw[List.all_map];rfl
theorem isa3{t:String}(h:t ≠ "str"):isa t "str" = false:=by
 unfold isa;simp[h]
theorem is_0{c:Nat}: decide (V.str ⟨#[c]⟩=V.str (η "0"))=decide (c=48):=by
 have e:(η "0")=⟨#[48]⟩:=by ac_rfl
 rw[e,px,decide_eq_true_eq,decide_eq_true_eq];constructor
 ·intro h;injection h with h;injection h with h;simpa using h
 ·rintro rfl;rfl
theorem jJ.st3(g:jJ H H')(h:St3 H p):St3 H' p:=by
 obtain⟨x,y,z,e⟩:=h;exact⟨x,y,z,g _ _ e⟩
theorem Drawn.keep(d:Drawn p H H1)(g:jJ H1 H2):Drawn p H H2:=⟨jJ.st3 g d.1,fun b o n e=>g _ _ (d.2 b o n e)⟩
theorem len_list(z:Str):z.cps.toList.length=z.length:=lj
theorem cE(p:Str):Str.empty++p=p:=Str.ext' (by rw[qj];simp[Str.empty])
theorem aKv{a:Nat}(h:a<=5000):a<=τ:=by rw[il];omega
def nY:Sp:=fun vs H Q _=>∃(p:Str) (x:V) (y:Str),vs=[.str p,x]/\aDc x=some y/\p.length<=1000/\y.length<=1000/\Q (.str (pj p y)) H
inductive aDs (vs:List V) (H:Hp) (Q:VK):Prop|mk:∀(p:Addr) (m:Int),vs=[.ref p,.int m]->0<m->m<1099511627776->St3 H p->(∀(v:Nat) (H':Hp),(v:Int)<m->Drawn p H H'->Q (.int v) H')->aDs vs H Q
def aQ:Sp:=fun vs H Q _=>aDs vs H Q
def aPh:Sp:=fun vs H Q _=>∃c:Int,vs=[.int c]/\∀(p:Addr) (H':Hp),H p=none->Drawn p H H'->Q (.ref p) H'
structure Wds (K:ς) (H:Hp) (a:Addr) (ws:List Str):Prop where
 l:SqL K H a (ws.map V.str)
 s:∀w∈ws,w.length<=1000
 n:ws.length<=1000
theorem Wds.same{K:ς}(h:Wds K H a ws)(g:jJ H H'):Wds K H' a ws:=⟨g.seq h.l,h.s,h.n⟩
def aDe:List Str->Bool
 |[x,y]=>decide (x=η "shape")&&qA y
 |_=>false
def aPo (K:ς):Sp:=fun vs H Q _=>∃(a:Addr) (ws:List Str),vs=[.ref a]/\Wds K H a ws/\∀H',jJ H H'->Q (.bl (aDe ws)) H'
inductive aJt (C:Addr) (n:Str) (vs:List V) (H:Hp) (Q:VK):Prop|mk:∀(a dx:Addr) (v:V) (H1:Hp),vs=[.ref a,v]->H a=some (.ins C dx [])->jJ H1 H->H1 a=none->(∀H',jJ H1 H'->H' a=some (.ins C dx [(n,v)])->Q .non H')->aJt C n vs H Q
def tP (C:Addr) (n:Str):Sp:=fun vs H Q _=>aJt C n vs H Q
def spI2 (C:Addr) (n m:Str):Sp:=fun vs H Q _=>∃(a dx:Addr) (v u:V) (H1:Hp),vs=[.ref a,v,u]/\H a=some (.ins C dx [])/\jJ H1 H/\H1 a=none/\∀H',jJ H1 H'->H' a=some (.ins C dx [(n,v),(m,u)])->Q .non H'
def spIT (K:ς) (C:Addr) (n:Str):Sp:=fun vs H Q _=>∃(a dx l:Addr) (ys:List V) (H1:Hp),vs=[.ref a,.ref l]/\H a=some (.ins C dx [])/\jJ H1 H/\H1 a=none/\SqL K H1 l ys/\∀t H',jJ H1 H'->H' a=some (.ins C dx [(n,.ref t)])->SqT K H' t ys->Q .non H'
def aKr (c:Cl5) (K:ς):Sp:=fun vs H Q _=>∃(a dx fl:Addr) (nm:Str) (ps:List Addr) (fs:List (Str×Kd)) (sa:List Addr) (H1:Hp),vs=[.ref a,.str nm,.ref fl]/\H a=some (.ins c.shape dx [])/\jJ H1 H/\H1 a=none/\(SqL K H1 fl (ps.map V.ref)\/SqT K H1 fl (ps.map V.ref))/\FO c K H1 sa ps fs/\fs.length<=100 ∧
 ∀t ps' H',jJ H1 H'->H' a=some (.ins c.shape dx [("name",.str nm),("fields",.ref t)])->SqT K H' t (ps'.map V.ref)->FO c K H' sa ps' fs->Q .non H'
def spGr (c:Cl5) (K:ς) (r:Nat):Sp:=fun vs H Q _=>∃(a:Addr) (is:List Nat) (sa:List Addr) (S:List Shp),vs=[.ref a]/\(Kd.pick is).Rk r/\(Kd.pick is).Fit S.length/\KO c K H sa a (.pick is)/\SW c K H sa S/\Good S/\∀H',jJ H H'->Q (.int ((vW (is.map fun i=>(tabs S).sz.getD i 0):Nat):Int)) H'
def aPv (c:Cl5) (K:ς) (r:Nat):Sp:=fun vs H Q _=>∃(a:Addr) (i:Nat) (sa:List Addr) (S:List Shp),vs=[.ref a]/\sa[i]?=some a/\2*i+2<=r/\8*r<=200/\SW c K H sa S/\Good S/\∀l H',jJ H H'->H l=none->UL K H' l (un (.nest i) S Str.empty)->Q (.ref l) H'
theorem FO.insD{K:ς}{H:Hp}{x:V}(h:FO c K H sa ps fs)(ha:H a=some (.ins C dx [("name",x)])):FO c K (upd H a o) sa ps fs:=by
 have n:∀{b C' dx' fs'},H b=some (.ins C' dx' fs')->fs'.head?.map (·.1)≠some ("name" : Str)->upd H a o b=some (.ins C' dx' fs'):=fun hb z=>by
  rw[kF (fun e=>z (by rw[e,ha]at hb;cases hb;rfl))];exact hb
 have t:∀{b xs},SqT K H b xs->SqT K (upd H a o) b xs:=fun h=>by
  rcases h with (h|⟨o',h⟩)|h
  ·exact .inl (.inl (by rw[kF (hV h ha (by intro z;cases z))];exact h))
  ·exact .inl (.inr ⟨o',by rw[kF (hV h ha (by intro z;cases z))];exact h⟩)
  ·exact .inr h
 have kk:∀{b kd},KO c K H sa b kd->KO c K (upd H a o) sa b kd:=fun h=>by
  induction h with
  |num h=>exact .num (n h (by show some (η "width")≠some (η "name");decide))
  |nest e h=>exact .nest e (n h (by show some (η "shape")≠some (η "name");decide))
  |many h _ ih=>exact .many (n h (by show some (η "count")≠some (η "name");decide)) ih
  |pick h h2 l e=>exact .pick (n h (by show some (η "shapes")≠some (η "name");decide)) (t h2) l e
 induction h with
 |nil=>exact .nil
 |cons h1 h2 _ ih=>exact .cons (t h1) (kk h2) ih
def NOk (nm:Nat->Str) (n:Nat):Prop:=∀i,i<n->qA (nm i)=true
theorem vQ(h:qA x=true): 1<=x.length/\x.length<=6:=by
 unfold qA within at h;simp only[kf,decide_eq_true_eq]at h;omega
theorem bZ{y:Str}(h:qA x=true)(hy:y∈aMh):x≠y:=by
 rintro rfl;unfold qA at h;simp only[kf,Bool.not_eq_true',decide_eq_false_iff_not]at h;exact h.2 hy
theorem dig{w:Nat}(h:w<=9):uT (η (toString (w:Int)))=some (w:Int)/\(η (toString (w:Int))).length=1/\qA (η (toString (w:Int)))=false/\PySem.intText? (η (toString (w:Int)))=some (w:Int):=by
 have:∀m:Fin 10,uT (η (toString ((m.val:Nat):Int)))=some ((m.val:Nat):Int)/\(η (toString ((m.val:Nat):Int))).length=1/\qA (η (toString ((m.val:Nat):Int)))=false/\PySem.intText? (η (toString ((m.val:Nat):Int)))=some ((m.val:Nat):Int):=by ac_rfl
 exact this ⟨w,by omega⟩
theorem oF:qA (η "num")=false/\qA (η "row")=false/\qA (η "pick")=false:=by ac_rfl
def Kd.named (nm:Nat->Str):Kd->List Str
 |.num _=>[]
 |.nest i=>[nm i]
 |.many _ k=>Kd.named nm k
 |.pick is=>is.map nm
theorem tT(hn:NOk nm n):∀{k:Kd},k.Fit n->(k.words nm).filter qA=Kd.named nm k:=by
 have hnum:∀w,w<=9->((Kd.num w).words nm).filter qA=[]:=fun w hw=>by
  show[η "num",η (toString (w:Int))].filter qA=[];rw[oh (by rw[oF.1];decide),oh (by rw[(dig hw).2.2.1];decide)];rfl
 have hnest:∀i,i<n->((Kd.nest i).words nm).filter qA=[nm i]:=fun i hi=>by
  show[nm i].filter qA=_;rw[List.filter_cons_of_pos (hn i hi)];rfl
 intro k hk;cases k with
 |num w=>exact hnum w (by have:=hk.2;omega)
 |nest i=>exact hnest i hk
 |many m k =>
  show(η "row" :: η (toString (m:Int))::k.words nm).filter qA=Kd.named nm k;rw[oh (by rw[oF.2.1];decide),oh (by rw[(dig (by have:=hk.2.1;omega)).2.2.1];decide)];rcases hk.2.2 with⟨w,rfl,hw⟩|⟨i,rfl,hi⟩
  ·exact hnum w (by omega)
  ·exact hnest i hi
 |pick is =>
  show(η "pick" :: is.map nm).filter qA=is.map nm;rw[oh (by rw[oF.2.2];decide),List.filter_eq_self.mpr];intro x hx;obtain⟨i,hi,rfl⟩:=iw.mp hx;exact hn i (hk.2.2.2 i hi)
theorem aW{nm:Nat->Str}{n:Nat}(hn:NOk nm n):∀{k:Kd},k.Fit n->(∀w∈k.words nm,w.length<=6)/\(k.words nm).length<=5:=by
 have hnum:∀w,w<=9->∀x∈(Kd.num w).words nm,x.length<=6:=fun w hw x hx=>by
  simp only[Kd.words,Ξ,kg,or_false]at hx;rcases hx with rfl|rfl
  ·decide
  ·rw[(dig hw).2.1];decide
 have hnest:∀i,i<n->∀x∈(Kd.nest i).words nm,x.length<=6:=fun i hi x hx=>by
  rw[ο.mp (show x∈[nm i] from hx)];exact(vQ (hn i hi)).2
 intro k hk;cases k with
 |num w=>exact⟨hnum w (by have:=hk.2;omega),by show 2<=5;decide⟩
 |nest i=>exact⟨hnest i hk,by show 1<=5;decide⟩
 |many m k =>
  have:(∀x∈k.words nm,x.length<=6)/\(k.words nm).length<=2:=by
   rcases hk.2.2 with⟨w,rfl,hw⟩|⟨i,rfl,hi⟩
   ·exact⟨hnum w (by omega),by show 2<=2;decide⟩
   ·exact⟨hnest i hi,by show 1<=2;decide⟩
  refine⟨fun x hx=>?_,by show(k.words nm).length+1+1<=5;omega⟩;simp only[Kd.words,Ξ]at hx;rcases hx with rfl|rfl|hx
  ·decide
  ·rw[(dig (by have:=hk.2.1;omega)).2.1];decide
  ·exact this.1 x hx
 |pick is =>
  refine⟨fun x hx=>?_,by show(is.map nm).length+1<=5;rw[δ];have:=hk.2.1;omega⟩;simp only[Kd.words,Ξ,iw]at hx;rcases hx with rfl|⟨i,hi,rfl⟩
  ·decide
  ·exact(vQ (hn i (hk.2.2.2 i hi))).2
def spSg (K:ς):Sp:=fun vs H Q _=>∃(a:Addr) (ws:List Str),vs=[.ref a]/\SqL K H a (ws.map V.str)/\((∃w:Nat,1<=w/\w<=4/\ws=[η "num",η (toString (w:Int))])\/∃x,qA x=true/\ws=[x])/\∀H',jJ H H'->Q (.bl true) H'
def spKd (K:ς):Sp:=fun vs H Q _=>∃(a:Addr) (nm:Nat->Str) (n:Nat) (kd:Kd),vs=[.ref a]/\SqL K H a ((kd.words nm).map V.str)/\kd.Fit n/\NOk nm n/\∀H',jJ H H'->Q (.bl true) H'
def spFl (K:ς):Sp:=fun vs H Q _=>∃(a:Addr) (nm:Nat->Str) (n:Nat) (kd:Kd) (f:Str),vs=[.ref a]/\SqL K H a ((f::kd.words nm).map V.str)/\qA f=true/\kd.Fit n/\NOk nm n/\∀H',jJ H H'->Q (.bl true) H'
def aHo (K:ς):Sp:=fun vs H Q _=>∃(a:Addr) (nm:Nat->Str) (n:Nat) (kd:Kd) (f:Str),vs=[.ref a]/\SqL K H a ((f::kd.words nm).map V.str)/\kd.Fit n/\NOk nm n/\∀l H',jJ H H'->H l=none->H' l=some (.lst ((Kd.named nm kd).map V.str))->Q (.ref l) H'
theorem sZ{f:Str->Bool}{l:List Str}{i:Nat}(h:l[i]?=some a):(l.take (i+1)).filter f=(l.take i).filter f++(if f a=true then [a] else []):=by
 rw[jq,h,List.filter_append]
 congr 1
 show[a].filter f=_
 by_cases z:f a=true
 ·rw[if_pos z,List.filter_cons_of_pos z];rfl
 ·rw[if_neg z,oh z];rfl
theorem zK{ns:List Str}{i:Nat}(h:(ns.map V.str)[i]?=some x):∃c,ns[i]?=some c/\x=.str c:=by
 rw[υ]at h;cases e:ns[i]? with
 |none=>rw[e]at h;cases h
 |some c=>rw[e]at h;cases h;exact⟨c,rfl,rfl⟩
def spLJ:Sp:=fun vs H Q _=>∃(p y:Str),vs=[.str p,.str y]/\p.length<=1000/\y.length<=1000/\1<=y.length/\Q (.str (pj p y)) H
structure Wel (S:List Shp):Prop where
 good:Good S
 nm:∀s∈S,qA s.1=true
 fnm:∀s∈S,∀f∈s.2,qA f.1=true
 nd:(S.map (·.1)).Nodup
 fnd:∀s∈S,(s.2.map (·.1)).Nodup
 len:S.length<=4
 bd:∀(i:Nat) (s:Shp),S[i]?=some s->(tabs S).sz.getD i 0<=64/\(un (.nest i) S Str.empty).length<=40/\(tabs S).dp.getD i 0<=4/\s.2.length<=6
theorem bE{α : Type}{S:List α}{x y : α}{i:Nat}(h:(S++[x])[i]?=some y):S[i]?=some y\/(i=S.length/\y=x):=by
 by_cases hi:i<S.length
 ·rw[ii hi]at h;exact .inl h
 ·rw[ic (by omega)]at h;have:i-S.length<1:=(ε.mp h).1;have e:i=S.length:=by omega
  subst e;rw[mr]at h;cases h;exact .inr ⟨rfl,rfl⟩
theorem Good.snoc{s:Shp}(h:Good S1)(h1:s.2≠[])(h2:s.2.length<=6)(h3:∀f∈s.2,f.2.Fit S1.length/\1<=f.1.length/\f.1.length<=6)(h4:(s.2.map fun f=>f.2.size (tabs S1).sz).sum<=1000):Good (S1++[s]):=by
 refine⟨fun i t e=>?_,fun i t e=>?_,fun i t e=>?_,fun i=>?_⟩
 ·rcases bE e with e|⟨_,rfl⟩
  ·exact h.ne i t e
  ·exact h1
 ·rcases bE e with e|⟨_,rfl⟩
  ·exact h.few i t e
  ·exact h2
 ·rcases bE e with e|⟨rfl,rfl⟩
  ·exact h.fit i t e
  ·exact h3
 ·by_cases hi:i<S1.length
  ·rw[(nP hi).1];exact h.sz i
  ·by_cases e:i=S1.length
   ·subst e;rw[(cF S1 s []).1];exact h4
   ·have hl:=(bF (S1++[s])).1;rw[ν,jt]at hl;rw[Ω,vn (by omega)];exact ij _
theorem Good.pre{S1 S2:List Shp}(h:Good (S1++S2)):Good S1:=by
 refine⟨fun i t e=>h.ne i t ?_,fun i t e=>h.few i t ?_,fun i t e=>h.fit i t ?_,fun i=>?_⟩
 ·rw[ii (ε.mp e).1];exact e
 ·rw[ii (ε.mp e).1];exact e
 ·rw[ii (ε.mp e).1];exact e
 ·by_cases hi:i<S1.length
  ·rw[←(nP (R:=S2) hi).1];exact h.sz i
  ·have hl:=(bF S1).1;rw[Ω,vn (by omega)];exact ij _
def aAl (S:List Shp) (i:Nat):Prop:=(tabs S).sz.getD i 0<=64/\(un (.nest i) S Str.empty).length<=40/\(tabs S).dp.getD i 0<=4
theorem Wel.pre{S S1 S2:List Shp}{s:Shp}{f1 f2:List (Str×Kd)}(h:Wel S)(e:S=S1++s::S2)(ef:s.2=f1++f2)(hne:f1≠[]):Good (S1++[(s.1,f1)])/\aAl (S1++[(s.1,f1)]) S1.length/\f1.length<=6:=by
 subst e;have hi:(S1++s::S2)[S1.length]?=some s:=by rw[ic (ξ _),mr];rfl
 obtain⟨b1,b2,b3,b4⟩:=h.bd _ _ hi;obtain⟨t1,t2,t3⟩:=cF S1 s S2;obtain⟨u1,u2,u3⟩:=cF S1 (s.1,f1) [];rw[ef,ν]at b4;have z1:(f1.map fun f=>f.2.size (tabs S1).sz).sum<=64:=by
  rw[t1,ef,ρ,List.sum_append]at b1;omega
 have hfit:=h.good.fit _ _ hi;refine⟨Good.snoc (Good.pre h.good) hne (by show f1.length<=6;omega) (fun f hf=>hfit f (by rw[ef];exact iu _ hf)) (by show(f1.map _).sum<=1000;omega),⟨by rw[u1];exact z1,?_,?_⟩,by omega⟩
 ·have e1:un (.nest S1.length) (S1++[(s.1,f1)]) Str.empty=_:=u3 Str.empty;have e2:un (.nest S1.length) (S1++s::S2) Str.empty=_:=t3 Str.empty;rw[e2,ef,ot,ν]at b2;rw[e1];show(f1.flatMap _).length<=40;omega
 ·rw[u2];rw[t2,ef,ρ]at b3;have:vW (f1.map fun f=>f.2.depth (tabs S1).dp)<=vW ((f1.map fun f=>f.2.depth (tabs S1).dp)++(f2.map fun f=>f.2.depth (tabs S1).dp)):=wE fun x hx=>iJ (iu _ hx);show 1+vW (f1.map fun f=>f.2.depth (tabs S1).dp)<=4;omega
theorem vJ{S:List Shp}{i:Nat}(h:S[i]?=some s):kK S i=s.1:=by
 unfold kK;rw[Ω,h];rfl
theorem aKt{S1 S2:List Shp}{i:Nat}(h:i<S1.length):kK (S1++S2) i=kK S1 i:=by
 have e:S1[i]?=some S1[i]:=ζ h;rw[vJ e,vJ (by rw[ii h];exact e)]
theorem mR{nm nm':Nat->Str}{n:Nat}(h:∀i,i<n->nm i=nm' i):∀{k:Kd},k.Below n->k.words nm=k.words nm'
 |.num _,_=>rfl
 |.nest i,hk=>by show[nm i]=[nm' i];rw[h i hk]
 |.many m k,hk=>by show _::_::k.words nm=_::_::k.words nm';rw[mR h (k:=k) hk]
 |.pick is,hk=>by
  show _::is.map nm=_::is.map nm';rw[rh fun i hi=>h i (hk i hi)]
theorem wQ{S:List Shp}(h:∀s∈S,qA s.1=true):NOk (kK S) S.length:=fun i hi=>by
 have e:S[i]?=some S[i]:=ζ hi;rw[vJ e];exact h _ (mw hi)
theorem aJy{S:List Shp}(h:(S.map (·.1)).Nodup){i j:Nat}(hi:i<S.length)(hj:j<S.length)(e:kK S i=kK S j):i=j:=by
 have ei:S[i]?=some S[i]:=ζ hi;have ej:S[j]?=some S[j]:=ζ hj;rw[vJ ei,vJ ej]at e;have hp:=qp.mp h;rcases Nat.lt_trichotomy i j with hl|hl|hl
 ·exact absurd (by rw[vz,vz];exact e) (hp i j (by rw[δ];exact hi) (by rw[δ];exact hj) hl)
 ·exact hl
 ·exact absurd (by rw[vz,vz];exact e.symm) (hp j i (by rw[δ];exact hj) (by rw[δ];exact hi) hl)
theorem aBs{S:List Shp}(h:(S.map (·.1)).Nodup):∀{k:Kd},k.Fit S.length->(Kd.named (kK S) k).Nodup/\(Kd.named (kK S) k).length<=4/\∀x∈Kd.named (kK S) k,∃i,i<S.length/\x=kK S i:=by
 have hs:∀{k:Kd},(∃w,k=.num w/\1<=w/\w<=4)\/(∃i,k=.nest i/\i<S.length)->(Kd.named (kK S) k).Nodup/\(Kd.named (kK S) k).length<=4/\∀x∈Kd.named (kK S) k,∃i,i<S.length/\x=kK S i:=by
  rintro k (⟨w,rfl,_⟩|⟨i,rfl,hi⟩)
  ·exact⟨vg,ij _,fun x hx=>by cases hx⟩
  ·exact⟨sd _ _,(by show 1<=4;decide),fun x hx=>⟨i,hi,ο.mp hx⟩⟩
 intro k hk;cases k with
 |num w=>exact hs (.inl ⟨w,rfl,hk⟩)
 |nest i=>exact hs (.inr ⟨i,rfl,hk⟩)
 |many m k=>exact hs (k:=k) hk.2.2
 |pick is =>
  refine⟨?_,by show(is.map _).length<=4;rw[δ];exact hk.2.1,fun x hx=>?_⟩
  ·show(is.map (kK S)).Pairwise (·≠·);rw[tw];exact hk.2.2.1.imp_of_mem fun ha hb ne e=>ne (aJy h (hk.2.2.2 _ ha) (hk.2.2.2 _ hb) e)
  ·obtain⟨i,hi,rfl⟩:=iw.mp hx;exact⟨i,hk.2.2.2 i hi,rfl⟩
theorem aOp{ws:List Str}(h:qA n=true):aDe (n::ws)=false:=by
 match ws with
 |[]=>rfl
 |[y] =>
  show(decide (n=η "shape")&&qA y)=false;rw[decide_eq_false (bZ h (by decide)),qh]
 |_::_::_=>rfl
def aPw (c:Cl5) (K:ς):Sp:=fun vs H Q _=>∃(tl:Addr) (x:V) (nm:Str) (sa:List Addr) (T:List Shp),vs=[.ref tl,x,.str nm]/\H tl=some (.lst (sa.map V.ref))/\SW c K H sa T/\(∀s∈T,s.2≠[])/\nm∉T.map (·.1)/\T.length<8/\∀H',jJ H H'->Q .non H'
def spWh (c:Cl5) (K:ς):Sp:=fun vs H Q _=>∃(tl z:Addr) (sa:List Addr) (T:List Shp) (s:Shp),vs=[.ref tl]/\H tl=some (.lst ((sa++[z]).map V.ref))/\SW c K H (sa++[z]) (T++[s])/\(T.map (·.1)).Nodup/\T.length<=100/\∀d H',jJ H H'->H d=none->H' d=some (.dK (dk T sa))->Q (.ref d) H'
def spNF (c:Cl5) (K:ς):Sp:=fun vs H Q _=>∃(tl a z:Addr) (x:V) (sa:List Addr) (T:List Shp) (s:Shp) (fn:Str) (kd:Kd),vs=[.ref tl,x,.ref a]/\H tl=some (.lst ((sa++[z]).map V.ref))/\SW c K H (sa++[z]) (T++[s])/\SqL K H a ((fn::kd.words (kK T)).map V.str)/\qA fn=true/\fn∉s.2.map (·.1)/\s.2.length<=100/\kd.Fit T.length/\NOk (kK T) T.length/\(T.map (·.1)).Nodup/\T.length<=100/\∀H',jJ H H'->Q .non H'
inductive aHp (c:Cl5) (K:ς) (n:Nat) (vs:List V) (H:Hp) (Q:VK):Prop|mk:∀(a d:Addr) (kd:Kd) (sa:List Addr) (T:List Shp),vs=[.ref a,.ref d]->kd.lv<n->SqL K H a ((kd.words (kK T)).map V.str)->H d=some (.dK (dk T sa))->kd.Fit T.length->NOk (kK T) T.length->(T.map (·.1)).Nodup->sa.length=T.length->(∀k H',jJ H H'->KO c K H' sa k kd->Q (.ref k) H')->aHp c K n vs H Q
def aGx (c:Cl5) (K:ς) (n:Nat):Sp:=fun vs H Q _=>aHp c K n vs H Q
def spTM (c:Cl5) (K:ς) (r:Nat):Sp:=fun vs H Q _=>∃(a:Addr) (i:Nat) (sa:List Addr) (S:List Shp),vs=[.ref a]/\sa[i]?=some a/\2*i+2<=r/\8*r<=200/\SW c K H sa S/\Good S/\aAl S i/\∀H',jJ H H'->Q (.bl false) H'
def spWF (c:Cl5) (K:ς) (r:Nat):Sp:=fun vs H Q _=>∃(tl a z:Addr) (x:V) (sa:List Addr) (T:List Shp) (s:Shp) (fn:Str) (kd:Kd),vs=[.ref tl,x,.ref a]/\H tl=some (.lst ((sa++[z]).map V.ref))/\SW c K H (sa++[z]) (T++[s])/\SqL K H a ((fn::kd.words (kK T)).map V.str)/\kd.Fit T.length/\NOk (kK T) T.length/\(T.map (·.1)).Nodup/\T.length<=100/\2*T.length+2<=r/\8*r<=200/\s.2.length<=50/\Good (T++[(s.1,s.2++[(fn,kd)])])/\aAl (T++[(s.1,s.2++[(fn,kd)])]) T.length ∧
 ∀y H',jJ H H'->SO c K H' sa y (s.1,s.2++[(fn,kd)])->Q (.ref y) H'
def txt (S:List Shp):Str:=jo nlS ((nQ S).map (jo spS))
def spRd (c:Cl5) (CS:Addr) (K:ς) (r:Nat):Sp:=fun vs H Q _=>∃S:List Shp,vs=[.str (txt S)]/\Wel S/\S≠[]/\12<=r/\8*r<=200/\∀(a dx t:Addr) (sa:List Addr) H',jJ H H'->H' a=some (.ins CS dx [("shapes",.ref t)])->SqT K H' t (sa.map V.ref)->SW c K H' sa S->Q (.ref a) H'
theorem pQ(h:qA x=true):Pln x:=by
 unfold qA at h;simp only[kf]at h;have ha:x.cps.toList.all (fun c=>decide (c∈zU.cps.toList))=true:=h.1.2;have hc:∀c∈x.cps.toList,97<=c/\c<=122:=fun c hc=>(eC c).mp (of_decide_eq_true (jm.mp ha c hc));exact⟨fun z=>by have:=hc _ z;omega,fun z=>by have:=hc _ z;omega⟩
theorem aGe(hW:Wel S):∀it∈vB S,(∀w∈it.line (kK S),Pln w/\w.length<=6)/\(it.line (kK S)).length<=6/\it.line (kK S)≠[]:=by
 intro it hit;obtain⟨s,hs,hit⟩:=List.mem_flatMap.mp hit;have hn:=wQ hW.nm;unfold hZ at hit;rcases Ξ.mp hit with rfl|hit
 ·refine⟨fun w hw=>?_,(by show 2<=6;decide),(by simp[Itm.line])⟩;simp only[Itm.line,Ξ,kg,or_false]at hw;rcases hw with rfl|rfl
  ·exact⟨by unfold Pln;ac_rfl,by decide⟩
  ·exact⟨pQ (hW.nm s hs),(vQ (hW.nm s hs)).2⟩
 ·obtain⟨f,hf,rfl⟩:=iw.mp hit;obtain⟨i,hi⟩:=jd.mp hs;have hfit:f.2.Fit S.length:=(hW.good.fit i s hi f hf).1.mono (kq (ε.mp hi).1);have hnm:=hW.fnm s hs f hf;obtain⟨w6,w5⟩:=aW hn hfit;refine⟨fun w hw=>?_,(by show(f.2.words (kK S)).length+1<=6;omega),(by simp[Itm.line])⟩;rcases Ξ.mp (show w∈f.1::f.2.words (kK S) from hw) with rfl|hw
  ·exact⟨pQ hnm,(vQ hnm).2⟩
  ·exact⟨hfit.plain (fun j hj=>pQ (hn j hj)) w hw,w6 w hw⟩
theorem aKe{S:List Shp}(hW:Wel S)(hne:S≠[]):(vB S).length<=40/\(∀it∈vB S,(jo spS (it.line (kK S))).length<=100/\ox (jo spS (it.line (kK S))) spS=it.line (kK S))/\(txt S).length<=5000/\ox (txt S) nlS=(vB S).map fun it=>jo spS (it.line (kK S)):=by
 have hl:=aGe hW;have h30:(vB S).length<=40:=by
  unfold vB;rw[List.length_flatMap];have h1:(S.map fun s=>(hZ s).length).sum<=S.length*7:=gK fun s hs=>by
   obtain⟨i,hi⟩:=jd.mp hs;have:=(hW.bd i s hi).2.2.2;unfold hZ;rw[Γ,δ];omega
  have:=hW.len;omega
 have hrow:∀it∈vB S,(jo spS (it.line (kK S))).length<=100:=fun it hit=>by
  obtain⟨h1,h2,_⟩:=hl it hit;have h3:(jo spS (it.line (kK S))).length<=_:=pT (c:=32) (m:=6) fun w hw=>(h1 w hw).2;omega
 have e:(nQ S).map (jo spS)=(vB S).map fun it=>jo spS (it.line (kK S)):=by rw[bV,jp];rfl
 refine⟨h30,fun it hit=>⟨hrow it hit,aEg (hl it hit).2.2 fun w hw=>((hl it hit).1 w hw).1⟩,?_,?_⟩
 ·unfold txt;rw[e];have h3:(jo nlS ((vB S).map fun it=>jo spS (it.line (kK S)))).length<=_:=pT (c:=10) (m:=100) (ws:=(vB S).map fun it=>jo spS (it.line (kK S))) fun w hw=>by
   obtain⟨it,hit,rfl⟩:=iw.mp hw;exact hrow it hit
  rw[δ]at h3;omega
 ·unfold txt;rw[aBq,e]
  ·rw[bV];intro z;have h0:=wM hne;rw[List.map_eq_nil_iff]at z;rw[z]at h0;exact absurd h0 (by decide)
  ·intro l hl' w hw;rw[bV]at hl';obtain⟨it,hit,rfl⟩:=iw.mp hl';exact((hl it hit).1 w hw).1
theorem aGp{sa:List Addr}{T:List Shp}{s:Shp}(h:sa.length=(T++[s]).length):∃sa0 z,sa=sa0++[z]:=by
 rcases vo sa with rfl|⟨sa0,z,rfl⟩
 ·rw[ν]at h;exact absurd h (by simp)
 ·exact⟨sa0,z,vp ..⟩
def aLc (K:ς) (r:Nat):Sp:=fun vs H Q _=>∃(sl:Addr) (S:List Shp) (n:Nat),vs=[.ref sl]/\S.length=n+1/\LX K H sl S/\Good S/\2*n+2<=r/\8*r<=200/\∀(b:Bool) H',jJ H H'->(b=true->aAl S n)->Q (.bl b) H'
def aPr (K:ς):Sp:=fun vs H Q _=>∃(p:Addr) (n:Nat) (xs:List Addr),vs=[.ref p,.int n]/\n<=8/\St3 H p/\p∈xs/\Al xs H/\∀a kd H',Drawn p H H'->kd.Fit n->LK K (offs xs H') a kd->Q (.ref a) H'
theorem Al.drawn(h:Al xs H)(d:Drawn p H H'):Al xs H':=fun b hb=>by
 by_cases e:b=p
 ·obtain⟨x,y,z,q⟩:=d.1;exact⟨_,by rw[e];exact q⟩
 ·obtain⟨o,ho⟩:=h b hb;exact⟨o,d.2 b o e ho⟩
theorem Drawn.offs{xs:List Addr}(d:Drawn p H H')(hp:p∈xs):jJ (offs xs H) (offs xs H'):=xV fun b o n q=>d.2 b o (fun z=>n (by rw[z];exact hp)) q
theorem aIw{a n m:Nat}(h:m<=n):((ir m).map fun k=>(a+k) % n).Nodup:=by
 show wc (·≠·) _;rw[tw];refine List.pairwise_lt_range.imp_of_mem fun {i j} hi hj hlt e=>?_;have hj':=ua.mp hj;have h1:=Nat.sub_mod_eq_zero_of_mod_eq e.symm;rw[show a+j-(a+i)=j-i by omega,Nat.mod_eq_of_lt (by omega)]at h1;omega
def aLp (K:ς) (n:Nat):Sp:=fun vs H Q _=>∃(a sl:Addr) (kd:Kd) (S:List Shp),vs=[.ref a,.ref sl]/\kd.lv<n/\kd.Fit S.length/\NOk (kK S) S.length/\LK K H a kd/\LX K H sl S/\∀H',jJ H H'->Q (.str (jo spS (kd.words (kK S)))) H'
def spTx (K:ς):Sp:=fun vs H Q _=>∃(sl:Addr) (S:List Shp),vs=[.ref sl]/\LX K H sl S/\Wel S/\S≠[]/\∀H',jJ H H'->Q (.str (txt S)) H'
def rX (S:List Shp) (it:Itm):Str:=jo spS (it.line (kK S))
theorem aKl(S:List Shp):txt S=jo nlS ((vB S).map (rX S)):=by
 unfold txt;rw[bV,jp];rfl
def w0L:List Str:=["num","row","pick","tag","room","part","tags","put","look","shape","end","out"]
def nm0 (a:Nat):List Str:=(ir 12).map fun k=>(w0L.getD ((a+k) % 12) Str.empty)++η "q"
def NmOk (ns:List Str):Prop:=ns.length=12/\ns.Nodup/\∀x∈ns,qA x=true
theorem aQg{a:Nat}(h:a<12):NmOk (nm0 a):=by
 have:∀a:Fin 12,(nm0 a.val).length=12/\(nm0 a.val).Nodup/\∀x∈nm0 a.val,qA x=true:=by ac_rfl
 exact this ⟨a,h⟩
def c1L:Str:=η "bfgjkqvxyzwh"
def c1 (a k:Nat):Nat:=c1L.cps.toList.getD ((a+k) % 12) 0
def nm1 (tl:Str) (a:Nat):List Str:=(ir 12).map fun k=>(⟨#[c1 a k]⟩ : Str)++tl++η "x"
theorem nR(tl:Str)(c:Nat):((⟨#[c]⟩ : Str)++tl++η "x").cps.toList=c::tl.cps.toList++[120]:=by
 rw[qj,qj,oq,oq];rfl
theorem aRq{tl:Str}{a:Nat}(h:a<12)(h4:tl.length<=4)(hl:∀c∈tl.cps.toList,97<=c/\c<=122):NmOk (nm1 tl a):=by
 have hc:∀a:Fin 12,((ir 12).map fun k=>c1 a.val k).Nodup/\∀k,k<12->97<=c1 a.val k/\c1 a.val k<=122:=by ac_rfl
 obtain⟨h1,h2⟩:=hc ⟨a,h⟩;have ho:∀w∈aMh,w.cps.toList.getLast?≠some 120:=by ac_rfl
 refine⟨by unfold nm1;rw[δ,jx],?_,fun x hx=>?_⟩
 ·unfold nm1;show wc (·≠·) _;rw[tw];have h1':wc (·≠·) ((ir 12).map fun k=>c1 a k):=h1;rw[tw]at h1';refine h1'.imp fun ne e=>ne ?_;have:=congrArg (fun s:Str=>s.cps.toList) e;simp only[nR]at this;exact(uj this).1
 ·obtain⟨k,hk,rfl⟩:=iw.mp hx;have hk':=ua.mp hk;have hlen:((⟨#[c1 a k]⟩ : Str)++tl++η "x").length=tl.length+2:=by
   rw[kj,kj];show 1+tl.length+1=_;omega
  unfold qA within aDj;simp only[kf,decide_eq_true_eq,Bool.not_eq_true',decide_eq_false_iff_not,jm];refine⟨⟨⟨by rw[hlen];omega,by rw[hlen];omega⟩,fun c hc=>?_⟩,fun z=>?_⟩
  ·rw[nR]at hc;rw[eC];simp only[je,Ξ,kg,or_false]at hc;rcases hc with (rfl|hc)|rfl
   ·exact h2 k hk'
   ·exact hl c hc
   ·exact⟨by decide,by decide⟩
  ·refine ho _ z ?_;rw[nR,List.getLast?_append];rfl
def nm2 (a:Nat):List Str:=((ir 6).map fun k=>Txt.slice (η "zyxwvu") none (some (1+(((a+k) % 6:Nat):Int))))++(["yz","yyyyyy","y","yx","numz","tagszz"]:List Str)
theorem aRx{a:Nat}(h:a<12):NmOk (nm2 a):=by
 have:∀a:Fin 12,(nm2 a.val).length=12/\(nm2 a.val).Nodup/\∀x∈nm2 a.val,qA x=true:=by ac_rfl
 exact this ⟨a,h⟩
theorem aBt:∀cs:List Nat,(jo (η "") (cs.map fun c=>(⟨#[c]⟩ : Str))).cps.toList=cs
 |[]=>rfl
 |[c]=>rfl
 |c::d::cs=>by
  have ih:=aBt (d::cs);rw[ki,mB (by simp),qj,qj,oq,oq,ih];rfl
theorem Drawn.free{H H1:Hp}(d:Drawn p H H1)(h:H1 l=none):H l=none:=by
 cases e:H l with
 |none=>rfl
 |some o =>
  by_cases z:l=p
  ·obtain⟨x,y,w,q⟩:=d.1;rw[z,q]at h;cases h
  ·rw[d.2 l o z e]at h;cases h
def bdN:List Str:=[η "a",η "more"]
def NmC (ns:List Str):Prop:=∀x∈ns,x∉bdN
def Cln (S:List Shp):Prop:=∀s∈S,s.1∉bdN/\∀f∈s.2,f.1∉bdN
theorem Cln.snoc{s:Shp}(h:Cln S)(h1:s.1∉bdN)(h2:∀f∈s.2,f.1∉bdN):Cln (S++[s]):=fun t ht=>by
 rcases je.mp ht with ht|ht
 ·exact h t ht
 ·rw[ο.mp ht];exact⟨h1,h2⟩
theorem nm0_c{a:Nat}(h:a<12):NmC (nm0 a):=by
 have:∀a:Fin 12,∀x∈nm0 a.val,x∉bdN:=by ac_rfl
 exact this ⟨a,h⟩
theorem nm2_c{a:Nat}(h:a<12):NmC (nm2 a):=by
 have:∀a:Fin 12,∀x∈nm2 a.val,x∉bdN:=by ac_rfl
 exact this ⟨a,h⟩
theorem nm1_c : NmC (nm1 tl a):=fun x hx hb=>by
 have ho:∀w∈bdN,w.cps.toList.getLast?≠some 120:=by ac_rfl
 obtain⟨k,_,rfl⟩:=iw.mp hx;refine ho _ hb ?_;rw[nR];exact List.getLast?_concat ..
def aPi (K:ς):Sp:=fun vs H Q _=>∃p:Addr,vs=[.ref p]/\St3 H p/\∀l ns H',Drawn p H H'->H l=none->H' l=some (.lst (ns.map V.str))->NmOk ns->NmC ns->Q (.ref l) H'
theorem modc{a j n:Nat}: (((a:Nat):Int)+((0:Int)+(j:Nat))) % ((n:Nat):Int)=(((a+j) % n:Nat):Int):=by
 rw[qu,←su]
 first|exact(Int.natCast_emod _ _).symm|exact(Int.ofNat_emod _ _).symm|rfl
theorem Wel.nil:Wel []:=⟨⟨fun i s h=>by simp at h,fun i s h=>by simp at h,fun i s h=>by simp at h,fun i=>by show(([]:List Nat).getD i 0)<=1000;simp⟩,fun s h=>by simp at h,fun s h=>by simp at h,vg,fun s h=>by simp at h,ij _,fun i s h=>by simp at h⟩
theorem Wel.sz64(h:Wel S)(i:Nat):(tabs S).sz.getD i 0<=64:=by
 by_cases hi:i<S.length
 ·exact(h.bd i _ (ζ hi)).1
 ·rw[Ω,vn (by rw[(bF S).1];omega)];exact ij _
theorem Wel.snoc{S:List Shp}{nm:Str}{fs:List (Str×Kd)}(h:Wel S)(h1:qA nm=true)(h2:nm∉S.map (·.1))(h3:S.length<=3)(h4:fs≠[])(h5:fs.length<=6)(h6:∀f∈fs,f.2.Fit S.length/\qA f.1=true)(h7:(fs.map (·.1)).Nodup)(h8:aAl (S++[(nm,fs)]) S.length):Wel (S++[(nm,fs)]):=by
 have hz:=h8.1;rw[(cF S (nm,fs) []).1]at hz;refine⟨Good.snoc h.good h4 (by show fs.length<=6;omega) (fun f hf=>⟨(h6 f hf).1,vQ (h6 f hf).2⟩) (by show(fs.map _).sum<=1000;exact iq hz (by decide)),fun s hs=>?_,fun s hs=>?_,?_,fun s hs=>?_,by rw[ν,jt];omega,fun i s e=>?_⟩
 ·rcases je.mp hs with hs|hs
  ·exact h.nm s hs
  ·rw[ο.mp hs];exact h1
 ·rcases je.mp hs with hs|hs
  ·exact h.fnm s hs
  ·rw[ο.mp hs];exact fun f hf=>(h6 f hf).2
 ·rw[ρ,tx];refine⟨h.nd,sd _ _,fun a ha b hb e=>h2 ?_⟩;rw[←show b=nm from ο.mp hb,←e];exact ha
 ·rcases je.mp hs with hs|hs
  ·exact h.fnd s hs
  ·rw[ο.mp hs];exact h7
 ·rcases bE e with e|⟨rfl,rfl⟩
  ·have hi:i<S.length:=(ε.mp e).1;obtain⟨t1,t2,t3⟩:=nP (R:=[(nm,fs)]) hi;obtain⟨b1,b2,b3,b4⟩:=h.bd i s e;refine⟨by rw[t1];exact b1,?_,by rw[t2];exact b3,b4⟩;have e1:un (.nest i) (S++[(nm,fs)]) Str.empty=un (.nest i) S Str.empty:=by
    show((tabs (S++[(nm,fs)])).ut.getD i fun _=>[]) Str.empty=((tabs S).ut.getD i fun _=>[]) Str.empty;rw[t3]
   rw[e1];exact b2
  ·exact⟨h8.1,h8.2.1,h8.2.2,h5⟩
theorem aJf{nm:Str}{fs:List (Str×Kd)}{f:Str×Kd}(h:Wel S)(hs:fs≠[]->aAl (S++[(nm,fs)]) S.length)(h5:fs.length<=5)(h6:∀f∈fs,f.2.Fit S.length/\qA f.1=true)(hf:f.2.Fit S.length)(hn:qA f.1=true):Good (S++[(nm,fs++[f])]):=by
 refine Good.snoc h.good (by simp) (by show(fs++[f]).length<=6;rw[ν,jt];omega) (fun g hg=>?_) ?_
 ·rcases je.mp hg with hg|hg
  ·exact⟨(h6 g hg).1,vQ (h6 g hg).2⟩
  ·rw[ο.mp hg];exact⟨hf,vQ hn⟩
 ·show((fs++[f]).map fun f=>f.2.size (tabs S).sz).sum<=1000;rw[ρ,List.sum_append];have h1:(fs.map fun f=>f.2.size (tabs S).sz).sum<=64:=by
   by_cases e:fs=[]
   ·rw[e];exact ij _
   ·have hz:=(hs e).1;rw[(cF S (nm,fs) []).1]at hz;exact hz
  have h2:=Kd.size_bd (h.sz64) (by decide) hf;show _+(f.2.size (tabs S).sz+0)<=1000;omega
theorem aMk{S:List Shp}{nm x:Str}{w:Nat}(hw:w<=4):aAl (S++[(nm,[(x,Kd.num w)])]) S.length:=by
 obtain⟨t1,t2,t3⟩:=cF S (nm,[(x,Kd.num w)]) [];refine⟨?_,?_,?_⟩
 ·rw[t1];show w+0<=64;omega
 ·have e1:un (.nest S.length) (S++[(nm,[(x,Kd.num w)])]) Str.empty=_:=t3 Str.empty;rw[e1];show 1<=40;decide
 ·rw[t2];show 1+max 0 0<=4;decide
def spSh (K:ς) (r:Nat):Sp:=fun vs H Q _=>∃p:Addr,vs=[.ref p,.int 4]/\St3 H p/\12<=r/\8*r<=200/\∀l S H',Drawn p H H'->H l=none->LX K (offs [p] H') l S->Wel S->S≠[]->Cln S->Q (.ref l) H'
theorem aGk{H:Hp}(h:St3 H p)(ha:H a=none):a≠p:=fun z=>by
 obtain⟨x,y,w,q⟩:=h;rw[z,q]at ha;cases ha
theorem dG{H:Hp}(h:St3 H p):∃o,H p=some o:=by
 obtain⟨x,y,w,q⟩:=h;exact⟨_,q⟩
def isK (c:Cl5):Kd->Addr
 |.num _=>c.num
 |.nest _=>c.nest
 |.many _ _=>c.many
 |.pick _=>c.pick
def samK:Kd->Kd->Bool
 |.num _,.num _=>true
 |.nest _,.nest _=>true
 |.many _ _,.many _ _=>true
 |.pick _,.pick _=>true
 |_,_=>false
structure KdS (K:ς) (c:Cl5):Prop where
 ins:∀k:Kd,InsC K (isK c k)
 kit:∀k k':Kd,jz K (.ref (isK c k)) (.ref (isK c k'))=some (samK k k')
theorem KdS.ty{K:ς}(T:KdS K c)(h:KO c K H sa a k):gY K H (.ref a) (.ref (isK c k)):=by
 cases h with
 |num h=>exact(T.ins (.num 0)).ty h
 |nest _ h=>exact(T.ins (.nest 0)).ty h
 |many h _=>exact(T.ins (.many 0 (.num 0))).ty h
 |pick h _ _ _=>exact(T.ins (.pick [])).ty h
def stV:Kd->Nat->Str->V
 |.many _ _,j,_=>.int j
 |_,_,y=>.str y
def PP (c:Cl5) (K:ς) (H:Hp) (sa:List Addr) (l:Addr) (kd:Kd) (S:List Shp):Prop:=∃ts:List Addr,H l=some (.lst (ts.map V.ref))/\ts.length=(kd.parts S).length/\∀(j:Nat) (t:Addr),ts[j]?=some t->∃(y:Str) (kd':Kd) (k:Addr),(kd.parts S)[j]?=some (y,kd')/\SqT K H t [stV kd j y,.ref k]/\KO c K H sa k kd'
def spP2 (c:Cl5) (K:ς) (F:Kd->Bool):Sp:=fun vs H Q _=>∃(a:Addr) (kd:Kd) (sa:List Addr) (S:List Shp),vs=[.ref a]/\F kd=true/\kd.Fit S.length/\KO c K H sa a kd/\SW c K H sa S/\Good S/\∀l H',jJ H H'->H l=none->PP c K H' sa l kd S->Q (.ref l) H'
def TPt2 (c:Cl5) (K:ς):Addr->Sp->Prop:=fun C sp=>(C=c.nest/\sp=spP2 c K Kd.isNest)\/(C=c.many/\sp=spP2 c K Kd.isMany)
theorem aRf{K:ς}{H:Hp}{kd:Kd}{S:List Shp}{Q:VK}{E:XK}(hm:aIp m)(hs:kd.Pd)(hf:kd.Fit S.length)(ho:KO c K H sa a kd)(hw:SW c K H sa S)(hg:Good S)
  (q:∀l H',jJ H H'->H l=none->PP c K H' sa l kd S->Q (.ref l) H'):∃a' C dx fs sp,V.ref a=.ref a'/\H a'=some (.ins C dx fs)/\fs.lookup m=none/\TPt2 c K C sp/\sp [.ref a] H Q E:=by
 cases id ho with
 |num h=>rcases hs with⟨_,z⟩|⟨_,_,z⟩ <;> cases z
 |nest e h=>exact⟨_,_,_,_,_,rfl,h,(hm _ .non).2.1,.inl ⟨rfl,rfl⟩,a,_,sa,S,rfl,rfl,hf,ho,hw,hg,q⟩
 |many h _=>exact⟨_,_,_,_,_,rfl,h,(hm _ _).2.2.1,.inr ⟨rfl,rfl⟩,a,_,sa,S,rfl,rfl,hf,ho,hw,hg,q⟩
 |pick h _ _ _=>rcases hs with⟨_,z⟩|⟨_,_,z⟩ <;> cases z
theorem aSa{S:List Shp}{kd kd':Kd}{j:Nat}{y:Str}(hf:kd.Fit S.length)(h:(kd.parts S)[j]?=some (y,kd')):aDc (stV kd j y)=some y:=by
 cases kd with
 |many n k =>
  have h':((ir n).map fun j=>(η (toString j),k))[j]?=some (y,kd'):=h;rw[υ]at h';cases e:(ir n)[j]? with
  |none=>rw[e]at h';cases h'
  |some i =>
   rw[e]at h';obtain⟨hj,rfl⟩:=ε.mp e;rw[List.getElem_range]at h';cases h';have:=hf.2.1;rw[jx]at hj;exact if_pos (by show(j:Nat)<2 ^ 100;exact ω (ω hj this) (by decide))
 |num _=>rfl
 |nest _=>rfl
 |pick _=>rfl
def spIB:Sp:=fun vs H Q _=>∃v lo hi:Int,vs=[.int v,.int lo,.int hi]/\lo<=v/\v<=hi/\Q (.bl true) H
def spBd:Sp:=fun vs H Q _=>∃w:Nat,vs=[.int w]/\w<=4/\Q (.int ((256 ^ w:Nat):Int)) H
def spWd:Sp:=fun vs H Q _=>∃w v:Nat,vs=[.int v,.int w]/\w<=4/\v<256 ^ w/\Q (.bl true) H
def aPt (c:Cl5) (K:ς):Sp:=fun vs H Q _=>∃(a:Addr) (j:Nat) (is:List Nat) (sa:List Addr),vs=[.ref a,.int j]/\KO c K H sa a (.pick is)/\j<is.length/\Q (.bl true) H
def aNc:Kd->Bool:=fun _=>true
abbrev kz (ks:List Str) (xs:List V):List (Key×V):=ig (fun k v=>((.inr k:Key),v)) ks xs
theorem cD:∀{ks:List Str}{xs:List V},ks.length=xs.length->(kz ks xs).map (·.1)=ks.map ol
 |[],[],_=>rfl
 |k::ks,x::xs,e=>congrArg ((.inr k:Key) :: ·) (cD (ks:=ks) (xs:=xs) (lc e))
theorem yX{ks:List Str}{xs:List V}(e:ks.length=xs.length):(kz ks xs).length=ks.length:=by
 rw[←δ (·.1),cD e,δ]
theorem mJ{ks:List Str}{xs:List V}{j:Nat}(nd:ks.Nodup)(e:ks.length=xs.length)(hk:ks[j]?=some k)(hx:xs[j]?=some v):aO (kz ks xs) (.inr k)=some v:=by
 unfold aO;rw[aFy (by rw[cD e];show wc (·≠·) _;rw[tw];exact wc.imp (fun n z=>n (ol.inj z)) nd) hk hx];rfl
theorem hU{α : Type}{f : α->Bool}{l:List α}(h:∀x∈l,f x=true):((l.map f).all id)=true:=by
 rw[jm];intro b hb;obtain⟨x,hx,rfl⟩:=iw.mp hb;exact h x hx
def rItm (K:ς):R2:=fun x y H Q=>aMt K x y H Q\/∃a v,x=.ref a/\zD H a y (some v)/\Q v H
theorem aFt{K:ς}(h1:PE X e (tOp (aMt K) (aBi i) (aBi j)))(h2:PE X e (aPe (aBi i) (aBi j))):PE X e (tOp (rItm K) (aBi i) (aBi j)):=by
 intro pins s σ H Q I h;obtain⟨v,e1,u,e2,h⟩:=h;rcases h with h|h
 ·exact h1 pins s σ H Q I ⟨v,e1,u,e2,h⟩
 ·exact h2 pins s σ H Q I ⟨v,e1,u,e2,h⟩
theorem Wel.nms(h:Wel S):NmS S:=by
 have nb:∀{x:Str},qA x=true->x.length<=6/\Sml x:=fun {x} hx=>by
  refine⟨(vQ hx).2,?_⟩;unfold qA at hx;simp only[kf]at hx;have ha:x.cps.toList.all (fun c=>decide (c∈zU.cps.toList))=true:=hx.1.2;refine jm.mpr fun c hc=>decide_eq_true ?_;have:=(eC c).mp (of_decide_eq_true (jm.mp ha c hc));have e:(16:Nat) ^ 8=4294967296:=by decide
  omega
 refine⟨fun i hi=>?_,fun s hs f hf=>(nb (h.fnm s hs f hf)).2⟩;have e:S[i]?=some S[i]:=ζ hi;rw[vJ e];exact nb (h.nm _ (mw hi))
theorem Wel.pnd(h:Wel S){k:Kd}(hf:k.Fit S.length):∀i,k=.nest i->((k.parts S).map (·.1)).Nodup:=fun i e=>by
 subst e;have hs:S[i]?=some S[i]:=ζ (show i<S.length from hf);rw[vG hs];exact h.fnd _ (mw _)
theorem Kd.three(k:Kd):k.Pd\/(∃w,k=.num w)\/∃is,k=.pick is:=by
 cases k with
 |num w=>exact .inr (.inl ⟨w,rfl⟩)
 |nest i=>exact .inl (.inl ⟨i,rfl⟩)
 |many n k=>exact .inl (.inr ⟨n,k,rfl⟩)
 |pick is=>exact .inr (.inr ⟨is,rfl⟩)
theorem aNb{k:Kd}(h:k.Pd)(r:k.Rk 0):False:=by
 rcases h with⟨i,rfl⟩|⟨n,q,rfl⟩
 ·exact wf _ r
 ·rcases r with⟨_,_,z⟩|⟨_,_,z⟩ <;> exact wf _ z
theorem DatAll.at'{K:ς}: ∀{xs:List V}{ds:List θ}{i:Nat}{d:θ},DatAll K H xs ds->ds[i]?=some d->∃x,xs[i]?=some x/\Dat K H x d
 |_,_,_,_,.nil,e=>by simp at e
 |_,_,0,_,.cons h _,e=>by simp at e;subst e;exact⟨_,rfl,h⟩
 |_,_,i+1,d,.cons _ t,e=>by
  obtain⟨x,h1,h2⟩:=DatAll.at' (i:=i) (d:=d) t (by simpa using e);exact⟨x,by simpa using h1,h2⟩
def aPq:Sp:=fun vs H Q _=>∃(p:Addr) (w:Nat),vs=[.ref p,.int w]/\1<=w/\w<=4/\St3 H p/\∀(v:Nat) (H':Hp),v<256 ^ w->Drawn p H H'->Q (.int v) H'
theorem LX.at'{K:ς}(h:LX K H sl S){i:Nat}(hi:i<S.length):∃(as:List Addr) (s l:Addr) (ps:List Addr),SqL K H sl (as.map V.ref)/\as[i]?=some s/\SqT K H s [.str S[i].1,.ref l]/\SqL K H l (ps.map V.ref)/\LF K H ps S[i].2:=by
 obtain⟨as,h1,h2⟩:=h;have hl:=h2.len;obtain⟨s,hs⟩ : ∃s,as[i]?=some s:=⟨_,ζ (by omega)⟩;obtain⟨sh,e,l,ps,m1,m2,m3⟩:=h2.get hs;obtain⟨_,rfl⟩:=ε.mp e;exact⟨as,s,l,ps,h1,hs,m1,m2,m3⟩
theorem tO{is:List Nat}{j:Nat}(h:is[j]?=some i):atI (is.map fun (i:Nat)=>V.int i) (j:Int)=some (.int i):=vT (by rw[υ,h];rfl)
theorem nV{f as ks p}{es:List Expr}: jk (.Call f as ks p::es) env=(false,eval (.Call f as ks p) env)::jk es env:=rfl
theorem aEo{ks:List Str}{zs:List V}{j:Nat}(nd:ks.Nodup)(hz:zs.length=j)(hk:ks[j]?=some k):putK (kz (ks.take j) zs) (.inr k) v=kz (ks.take (j+1)) (zs++[v]):=by
 obtain⟨a2,b2⟩:=ε.mp hk;have hl:(ks.take j).length=zs.length:=by rw[ib,hz];omega
 have e:kz (ks.take (j+1)) (zs++[v])=kz (ks.take j) zs++[((.inr k:Key),v)]:=by
  rw[jq,hk];exact List.zipWith_append hl
 rw[e];refine lM fun y hy z=>?_;have h1:y.1∈(kz (ks.take j) zs).map (·.1):=iw.mpr ⟨y,hy,rfl⟩;rw[cD hl,z]at h1;obtain⟨w,hw,ew⟩:=iw.mp h1;cases ew;obtain⟨i,hi⟩:=jd.mp hw;have hij:i<j:=by have:=(ε.mp hi).1;rw[ib]at this;omega
 rw[pe hij]at hi;obtain⟨a1,b1⟩:=ε.mp hi;exact absurd (b1.trans b2.symm) (qp.mp nd i j a1 a2 hij)
theorem aOj{n j:Nat}(h:j<n):ixN n (j:Int)=some j:=by
 unfold ixN;rw[if_pos (by omega),if_pos (by omega)];rfl
theorem aOg{ys:List Addr}{l0:Addr}: jJ (offs (l0::ys) H) (offs ys H):=pS fun b hb=>Ψ _ hb
def aHy (l l0:Addr) (H H':Hp):Prop:=∀b o,b≠l->b≠l0->H b=some o->H' b=some o
theorem aHy.offs{l:Addr}{ys:List Addr}{H:Hp}(g1:jJ H H1)(h0:H l0=none)(hl:l∈ys)(g:aHy l l0 H1 H'):jJ (offs ys H) (offs (l0::ys) H'):=fun b o e=>by
 have hb:b∉ys:=fun z=>by unfold L2.offs at e;rw[if_pos z]at e;cases e
 have e':H b=some o:=jM _ _ e;have n0:b≠l0:=jS e' h0;refine qI (fun z=>?_) (g b o (fun z=>hb (z ▸ hl)) n0 (g1 _ _ e'));rcases Ξ.mp z with z|z
 ·exact n0 z
 ·exact hb z
theorem sY{K:ς}{H:Hp}(h:Dt z K H x (.dict (kvD ks es)))(e:ks.length=es.length):∃a xs,x=.ref a/\H a=some (.dK (kz ks xs))/\ks.length=xs.length/\Dts z K H xs es:=by
 generalize hd:se (kvD ks es)=d at h;cases h with
 |non=>cases hd
 |bl=>cases hd
 |int=>cases hd
 |str=>cases hd
 |lst=>cases hd
 |tup=>cases hd
 | @dct a ks' xs ds' h1 h2 h3 =>
  injection hd with hd;obtain⟨e1,e2⟩:=xW e (h2.trans h3.length) hd;subst e1 e2;exact⟨a,xs,rfl,h1,h2,h3⟩
theorem aNz{c:Kd->θ->θ->Prop}{K:ς}{fs:List (Str×Kd)}{xs:List V}(hn:(fs.map (·.1)).Nodup)(D:DRec c fs ds ks es)(hl:ks.length=xs.length)(t:Dts z K H xs es){i:Nat}(hf:fs[i]?=some f):∃v d e,ds[i]?=some d/\aO (kz ks xs) (.inr f.1)=some v/\Dt z K H v e/\c f.2 d e:=by
 obtain⟨d,e,h1,h2,h3⟩:=D.g i f hf;obtain⟨j,z1,z2⟩:=aEa h2;obtain⟨v,w1,w2⟩:=t.get z2;exact⟨v,d,e,h1,mJ (D.p.symm.nodup hn) hl z1 w1,w2,h3⟩
def aIe:Sp:=fun vs H Q _=>∃v:Int,vs=[.int v]/\Q (.bl true) H
inductive aHe (c:Cl5) (K:ς) (r:Nat) (F:Kd->Bool) (vs:List V) (H:Hp) (Q:VK):Prop|mk:∀(a:Addr) (x:V) (kd:Kd) (sa:List Addr) (S:List Shp) (d e:θ),vs=[.ref a,x]->F kd=true->kd.Rk r->kd.Fit S.length->KO c K H sa a kd->SW c K H sa S->Wel S->Dt false K H x e->Rec S r kd d e->(∀H',jJ H H'->Q (.bl true) H')->aHe c K r F vs H Q
def cP (c:Cl5) (K:ς) (r:Nat) (F:Kd->Bool):Sp:=fun vs H Q _=>aHe c K r F vs H Q
def tY (c:Cl5) (K:ς) (r:Nat):Sp:=fun vs H Q _=>∃(s:Addr) (x:V) (i:Nat) (sa:List Addr) (S:List Shp) (d e:θ),vs=[.ref s,x]/\sa[i]?=some s/\2*i+2<=r/\SW c K H sa S/\Wel S/\Dt false K H x e/\Rec S r (.nest i) d e/\∀H',jJ H H'->Q (.bl true) H'
inductive aGy (K:ς) (n:Nat) (vs:List V) (H:Hp) (Q:VK):Prop|mk:∀(x:V) (e:θ) (fs:List Addr) (r:Nat),n=r+1->vs=[x]->Tre r e->Tr false K H x e fs->(∀v gs H',jJ H H'->New H gs->Tr true K H' v e gs->Q v H')->aGy K n vs H Q
def aGm (K:ς) (n:Nat):Sp:=fun vs H Q _=>aGy K n vs H Q
def uN:Kd->Str
 |.num _=>η "num"
 |.nest _=>η "shape"
 |.many _ _=>η "row"
 |.pick _=>η "pick"
def T4 (c:Cl5) (sp4:(Kd->Bool)->Sp):Addr->Sp->Prop:=fun C sp=>(C=c.num/\sp=sp4 Kd.isNum)\/(C=c.nest/\sp=sp4 Kd.isNest)\/(C=c.many/\sp=sp4 Kd.isMany)\/(C=c.pick/\sp=sp4 Kd.isPick)
theorem aPc{K:ς}{sp4:(Kd->Bool)->Sp}{H:Hp}(hm:aIp m)(ho:KO c K H sa a kd):∃C dx fs sp,H a=some (.ins C dx fs)/\fs.lookup m=none/\T4 c sp4 C sp/\∃F:Kd->Bool,F kd=true/\sp=sp4 F:=by
 cases id ho with
 |num h=>exact⟨_,_,_,_,h,(hm _ .non).1,.inl ⟨rfl,rfl⟩,_,rfl,rfl⟩
 |nest e h=>exact⟨_,_,_,_,h,(hm _ .non).2.1,.inr (.inl ⟨rfl,rfl⟩),_,rfl,rfl⟩
 |many h _=>exact⟨_,_,_,_,h,(hm _ _).2.2.1,.inr (.inr (.inl ⟨rfl,rfl⟩)),_,rfl,rfl⟩
 |pick h _ _ _=>exact⟨_,_,_,_,h,(hm _ .non).2.2.2,.inr (.inr (.inr ⟨rfl,rfl⟩)),_,rfl,rfl⟩
theorem aNv(h:St3 H p)(g:But l H H')(n:p≠l):St3 H' p:=by
 obtain⟨a,b,c,e⟩:=h;exact⟨a,b,c,g p _ n e⟩
theorem aPf{k:Str}{v:V}: ∀{ks:List Str}{xs:List V},k∉ks->(kz ks xs).map (fun kv=>if kv.1=(.inr k:Key) then (kv.1,v) else kv)=kz ks xs
 |[],_,_=>rfl
 |_::_,[],_=>rfl
 |k0::ks,x::xs,h=>by
  show(if (ol k0:Key)=.inr k then ((.inr k0:Key),v) else (.inr k0,x))::(kz ks xs).map _=((.inr k0:Key),x)::kz ks xs;rw[if_neg (fun z=>h (by rw[ol.inj z];exact Δ ..)),aPf fun z=>h (Ψ _ z)]
theorem aKg{x v:V}{zs:List V}: ∀{ks:List Str}{ys:List V},ks.Nodup->ks.length=(ys++x::zs).length->ks[ys.length]?=some k->(kz ks (ys++x::zs)).map (fun kv=>if kv.1=(.inr k:Key) then (kv.1,v) else kv)=kz ks (ys++v::zs)
 |[],ys,_,l,_=>by simp at l
 |k0::ks,[],nd,_,hk=>by
  cases hk;show(if (ol k:Key)=.inr k then ((.inr k:Key),v) else (.inr k,x))::(kz ks zs).map _=((.inr k:Key),v)::kz ks zs;rw[if_pos rfl,aPf (md.mp nd).1]
 |k0::ks,y::ys,nd,l,hk=>by
  have hk':ks[ys.length]?=some k:=hk;have n0:k0≠k:=fun z=>(md.mp nd).1 (by rw[z];exact ι hk');show(if (ol k0:Key)=.inr k then ((.inr k0:Key),v) else (.inr k0,y))::(kz ks (ys++x::zs)).map _=((.inr k0:Key),y)::kz ks (ys++v::zs);rw[if_neg (fun z=>n0 (ol.inj z)),aKg (md.mp nd).2 (lc l) hk']
theorem aKq{ks:List Str}{ys zs:List V}{x:V}(nd:ks.Nodup)(l:ks.length=(ys++x::zs).length)(hk:ks[ys.length]?=some k):putK (kz ks (ys++x::zs)) (.inr k) v=kz ks (ys++v::zs):=by
 unfold putK;rw[if_pos]
 ·exact aKg nd l hk
 ·have h1:k∈ks:=ι hk;have h2:(ol k:Key)∈(kz ks (ys++x::zs)).map (·.1):=by rw[cD l];exact iw.mpr ⟨k,h1,rfl⟩
  obtain⟨kv,h3,h4⟩:=iw.mp h2;exact vy.mpr ⟨kv,h3,decide_eq_true h4⟩
def T3k (c:Cl5) (sp3:(Kd->Bool)->Sp):Addr->Sp->Prop:=fun C sp=>(C=c.num/\sp=sp3 Kd.isNum)\/(C=c.nest/\sp=sp3 Kd.isNest)\/(C=c.pick/\sp=sp3 Kd.isPick)
theorem aEf{K:ς}{sp3:(Kd->Bool)->Sp}{H:Hp}(hm:aIp m)(ho:KO c K H sa a kd)(hk:kd.isMany=false):∃C dx fs sp,H a=some (.ins C dx fs)/\fs.lookup m=none/\T3k c sp3 C sp/\∃F:Kd->Bool,F kd=true/\sp=sp3 F:=by
 cases id ho with
 |num h=>exact⟨_,_,_,_,h,(hm _ .non).1,.inl ⟨rfl,rfl⟩,_,rfl,rfl⟩
 |nest e h=>exact⟨_,_,_,_,h,(hm _ .non).2.1,.inr (.inl ⟨rfl,rfl⟩),_,rfl,rfl⟩
 |many h _=>cases hk
 |pick h _ _ _=>exact⟨_,_,_,_,h,(hm _ .non).2.2.2,.inr (.inr ⟨rfl,rfl⟩),_,rfl,rfl⟩
inductive aAg (c:Cl5) (K:ς) (F:Kd->Bool) (vs:List V) (H:Hp) (Q:VK):Prop|mk:∀(a:Addr) (kd:Kd) (sa:List Addr),vs=[.ref a]->F kd=true->KO c K H sa a kd->Q (.str (uN kd)) H->aAg c K F vs H Q
def dL (c:Cl5) (K:ς) (F:Kd->Bool):Sp:=fun vs H Q _=>aAg c K F vs H Q
inductive aBl (c:Cl5) (K:ς) (F:Kd->Bool) (vs:List V) (H:Hp) (Q:VK):Prop|mk:∀(a:Addr) (kd:Kd) (sa:List Addr) (S:List Shp),vs=[.ref a]->F kd=true->kd.Fit S.length->KO c K H sa a kd->SW c K H sa S->(Good S/\NOk (kK S) S.length)->(∀H',jJ H H'->Q (.str (jo spS (kd.words (kK S)))) H')->aBl c K F vs H Q
def lI (c:Cl5) (K:ς) (F:Kd->Bool):Sp:=fun vs H Q _=>aBl c K F vs H Q
inductive aBk (c:Cl5) (K:ς) (F:Kd->Bool) (vs:List V) (H:Hp) (Q:VK):Prop|mk:∀(a:Addr) (st:Stp) (kd q:Kd) (sa:List Addr) (S:List Shp),vs=[.ref a,st.v]->F kd=true->StK S kd st q->kd.Fit S.length->KO c K H sa a kd->SW c K H sa S->Wel S->(∀b H',jJ H H'->KO c K H' sa b q->Q (.ref b) H')->aBk c K F vs H Q
def bL (c:Cl5) (K:ς) (F:Kd->Bool):Sp:=fun vs H Q _=>aBk c K F vs H Q
def aJh:Sp:=fun vs H Q _=>∃j:Nat,vs=[.int (j:Int)]/\Q (.bl true) H
inductive aBf (c:Cl5) (K:ς) (vs:List V) (H:Hp) (Q:VK):Prop|mk:∀(s t:Addr) (i:Nat) (k':Kd) (ws:List Stp) (sa:List Addr) (S:List Shp),vs=[.ref s,.ref t]->sa[i]?=some s->SqT K H t (ws.map Stp.v)->KP S (.nest i) ws k'->SW c K H sa S->Wel S->(∀b H',jJ H H'->KO c K H' sa b k'->Q (.ref b) H')->aBf c K vs H Q
def tS (c:Cl5) (K:ς):Sp:=fun vs H Q _=>aBf c K vs H Q
def aMz (c:Cl5) (K:ς):Sp:=fun vs H Q _=>∃(s t:Addr) (i:Nat) (k':Kd) (ws:List Stp) (sa:List Addr) (S:List Shp),vs=[.ref s,.ref t,.str (uN k')]/\k'.isMany=false/\sa[i]?=some s/\SqT K H t (ws.map Stp.v)/\KP S (.nest i) ws k'/\SW c K H sa S/\Wel S/\∀b H',jJ H H'->KO c K H' sa b k'->Q (.ref b) H'
def aMq (c:Cl5) (K:ς):Sp:=fun vs H Q _=>∃(a:Addr) (is:List Nat) (m i:Nat) (s:Shp) (sa:List Addr) (S:List Shp),vs=[.ref a,.int (m:Int),.str s.1]/\KO c K H sa a (.pick is)/\is[m]?=some i/\S[i]?=some s/\SW c K H sa S/\Q .non H
def aJj (c:Cl5) (K:ς):Sp:=fun vs H Q _=>∃(a:Addr) (st:Stp) (kd q:Kd) (sa:List Addr) (S:List Shp),vs=[.ref a,st.v]/\StK S kd st q/\KO c K H sa a kd/\Q .non H
inductive aCu (c:Cl5) (K:ς) (vs:List V) (H:Hp) (Q:VK):Prop|mk:∀(a:Addr) (y v:V) (st:Stp) (kd q:Kd) (sa:List Addr) (S:List Shp),vs=[.ref a,y,st.v]->StK S kd st q->Chd S K H kd y st v->KO c K H sa a kd->SW c K H sa S->Q v H->aCu c K vs H Q
def aJq (c:Cl5) (K:ς):Sp:=fun vs H Q _=>aCu c K vs H Q
inductive aDa (c:Cl5) (K:ς) (vs:List V) (H:Hp) (Q:VK):Prop|mk:∀(s t:Addr) (x:V) (i:Nat) (k':Kd) (e e':θ) (ws us:List Stp) (sa:List Addr) (S:List Shp) (I:Hp->List Stp->V->θ->Prop),vs=[.ref s,x,.ref t]->sa[i]?=some s->SqT K H t (ws.map Stp.v)->Pth S (.nest i) e ws k' e'->SW c K H sa S->Wel S->Lk K I->I H us x e->(∀y H',jJ H H'->I H' (us++ws) y e'->Q y H')->aDa c K vs H Q
def aFg (c:Cl5) (K:ς):Sp:=fun vs H Q _=>aDa c K vs H Q
structure Ask (c:Cl5) (K:ς) (H:Hp) (r:Nat) (s:Addr) (x:V) (t:Addr) (i:Nat) (sa:List Addr) (S:List Shp) (d e:θ) (ws:List Stp) (k':Kd) (e':θ):Prop where
 sh:sa[i]?=some s
 rk : 2*i+2<=r
 w:SW c K H sa S
 W:Wel S
 tr:∃fs,Tr false K H x e fs
 rc:Rec S r (.nest i) d e
 st:SqT K H t (ws.map Stp.v)
 p:Pth S (.nest i) e ws k' e'
theorem Ask.dt{K:ς}(A:Ask c K H r s x t i sa S d e ws k' e'):Dt false K H x e:=by
 obtain⟨fs,h⟩:=A.tr;exact h.dt
theorem Ask.tre{K:ς}(A:Ask c K H r s x t i sa S d e ws k' e'):Tre r e :=
 aA (k:=.nest i) A.W.good A.W.fnd (show i<S.length by rw[←A.w.1];exact(ε.mp A.sh).1) A.rk A.rc
theorem aQq : ∀{ws:List Stp}{k:Kd}{e:θ},Pth S k e ws (.num n) (.int v)->(∀w,k≠.num w)->∃us st k1 e1,ws=us++[st]/\Pth S k e us k1 e1/\Pth S k1 e1 [st] (.num n) (.int v):=by
 intro ws
 induction ws with
 |nil=>intro k e h hk;cases h;exact(hk _ rfl).elim
 |cons w ws ih =>
  intro k e h hk
  by_cases hq:ws=[]
  ·subst hq;exact⟨[],w,k,e,rfl,.nil,h⟩
  cases h with
  | @row c j q _ es e1 _ _ a b p =>
   obtain⟨us,st,k1,e2,rfl,p1,p2⟩:=ih p (fun m z=>by subst z;cases p;exact hq rfl);exact⟨_::us,st,k1,e2,rfl,.row a b p1,p2⟩
  |fld a b c d f p =>
   obtain⟨us,st,k1,e2,rfl,p1,p2⟩:=ih p (fun m z=>by subst z;cases p;exact hq rfl);exact⟨_::us,st,k1,e2,rfl,.fld a b c d f p1,p2⟩
  |pick a b p =>
   obtain⟨us,st,k1,e2,rfl,p1,p2⟩:=ih p (fun m z=>by cases z);exact⟨_::us,st,k1,e2,rfl,.pick a b p1,p2⟩
theorem aRs{vs:List V}{v:V}: yN (vs++[v]) none (some (-1))=vs:=by
 unfold yN;rw[HT.sIx_none];have:HT.sIx (vs++[v]).length (vs++[v]).length (some (-1))=vs.length:=by
  show(if (-1:Int)<0 then ((-1:Int)+((vs++[v]).length:Int)).toNat else min (-1:Int).toNat (vs++[v]).length)=_;rw[if_pos (by decide),ν,jt];omega
 rw[this,List.drop_zero,Nat.sub_zero,List.take_left]
inductive aDu (c:Cl5) (K:ς) (r:Nat) (vs:List V) (H:Hp) (Q:VK):Prop|mk:∀(s t:Addr) (x:V) (i:Nat) (sa:List Addr) (S:List Shp) (d e:θ) (ws:List Stp) (k':Kd) (e':θ),vs=[.ref s,x,.ref t,.str (uN k')]->k'.isMany=false->Ask c K H r s x t i sa S d e ws k' e'->(∀p b y H',jJ H H'->SqT K H' p [.ref b,y]->KO c K H' sa b k'->Dt false K H' y e'->Q (.ref p) H')->aDu c K r vs H Q
def wO (c:Cl5) (K:ς) (r:Nat):Sp:=fun vs H Q _=>aDu c K r vs H Q
inductive aCl (c:Cl5) (K:ς) (r:Nat) (vs:List V) (H:Hp) (Q:VK):Prop|mk:∀(s t:Addr) (x:V) (i:Nat) (sa:List Addr) (S:List Shp) (d e:θ) (ws:List Stp) (n:Nat) (v:Int),vs=[.ref s,x,.ref t]->Ask c K H r s x t i sa S d e ws (.num n) (.int v)->(∀H',jJ H H'->Q (.int v) H')->aCl c K r vs H Q
def aMp (c:Cl5) (K:ς) (r:Nat):Sp:=fun vs H Q _=>aCl c K r vs H Q
def aMj (c:Cl5) (K:ς) (r:Nat):Sp:=fun vs H Q _=>∃(s t:Addr) (x:V) (i:Nat) (sa:List Addr) (S:List Shp) (d e:θ) (ws:List Stp) (is:List Nat) (v:Int) (e1:θ),vs=[.ref s,x,.ref t]/\Ask c K H r s x t i sa S d e ws (.pick is) (.tuple [.int v,e1])/\∀H',jJ H H'->Q (.int v) H'
def aJi (c:Cl5) (K:ς) (r:Nat):Sp:=fun vs H Q _=>∃(s t:Addr) (x:V) (i:Nat) (sa:List Addr) (S:List Shp) (d e:θ) (ws:List Stp) (n:Nat) (v u:Int),vs=[.ref s,x,.ref t,.int u]/\Ask c K H r s x t i sa S d e ws (.num n) (.int v)/\∀z e2 gs H',jJ H H'->New H gs->Tr true K H' z e2 gs->Put (.int u) e ws e2->Q z H'
inductive aBg (c:Cl5) (K:ς) (r:Nat) (vs:List V) (H:Hp) (Q:VK):Prop|mk:∀(s t:Addr) (x:V) (i:Nat) (sa:List Addr) (S:List Shp) (d e:θ) (ws:List Stp) (n:Nat) (v u:Int),vs=[.ref s,x,.ref t,.int u]->Ask c K H r s x t i sa S d e ws (.num n) (.int v)->n<=4->(∀z e2 gs H',jJ H H'->New H gs->Tr true K H' z e2 gs->Put (.int (u % ((256 ^ n:Nat):Int))) e ws e2->Q z H')->aBg c K r vs H Q
def aLt (c:Cl5) (K:ς) (r:Nat):Sp:=fun vs H Q _=>aBg c K r vs H Q
theorem aHm{ks:List Str}{xs:List V}{m:Nat}(nd:ks.Nodup)(l:ks.length=xs.length)(hk:ks[m]?=some k)(hx:xs[m]?=some x):putK (kz ks xs) (.inr k) v=kz ks (xs.set m v):=by
 have hm:=(ε.mp hx).1;have ht:(xs.take m).length=m:=by rw[ib];omega
 have:=aKq (ys:=xs.take m) (zs:=xs.drop (m+1)) (x:=x) (v:=v) nd (by rw[iE hx];exact l) (by rw[ht];exact hk)
 rwa [iE hx,←eL hx]at this
theorem Ask.same{K:ς}(g:jJ H H')(A:Ask c K H r s x t i sa S d e ws k' e'):Ask c K H' r s x t i sa S d e ws k' e' :=
 ⟨A.sh,A.rk,A.w.same g,A.W,A.tr.imp fun _ h=>h.same g,A.rc,g.tp A.st,A.p⟩
theorem qH : offs [] H=H:=funext fun b=>by unfold offs;simp
theorem fQ : Al [] H:=fun b hb=>by cases hb
inductive aBe (K:ς) (vs:List V) (H:Hp) (Q:VK):Prop|mk:∀(a sl:Addr) (st:Stp) (kd q:Kd) (S:List Shp) (ys:List Addr),vs=[.ref a,.ref sl,st.v]->Al ys H->StK S kd st q->kd.Fit S.length->LK K (offs ys H) a kd->LX K (offs ys H) sl S->Wel S->(∀b H',jJ H H'->LK K (offs ys H') b q->Q (.ref b) H')->aBe K vs H Q
def pF (K:ς):Sp:=fun vs H Q _=>aBe K vs H Q
inductive aBh (K:ς) (vs:List V) (H:Hp) (Q:VK):Prop|mk:∀(a sl t:Addr) (ws:List Stp) (kd q:Kd) (S:List Shp) (ys:List Addr),vs=[.ref a,.ref sl,.ref t]->Al ys H->SqT K H t (ws.map Stp.v)->KP S kd ws q->kd.Fit S.length->LK K (offs ys H) a kd->LX K (offs ys H) sl S->Wel S->(∀b H',jJ H H'->LK K (offs ys H') b q->Q (.ref b) H')->aBh K vs H Q
def aLa (K:ς):Sp:=fun vs H Q _=>aBh K vs H Q
inductive aDf (K:ς) (vs:List V) (H:Hp) (Q:VK):Prop|mk:∀(a sl t:Addr) (x:V) (ws:List Stp) (kd q:Kd) (e e':θ) (S:List Shp),vs=[.ref a,.ref sl,x,.ref t]->SqT K H t (ws.map Stp.v)->Pth S kd e ws q e'->kd.Fit S.length->LK K H a kd->LX K H sl S->Wel S->Dt false K H x e->(∀p y H',jJ H H'->SqT K H' p [.str (η "there"),y]->Dt false K H' y e'->Q (.ref p) H')->aDf K vs H Q
def aMe (K:ς):Sp:=fun vs H Q _=>aDf K vs H Q
inductive aCt (K:ς) (n:Nat) (vs:List V) (H:Hp) (Q:VK):Prop|mk:∀(a sl t:Addr) (x:V) (ws:List Stp) (kd q:Kd) (e e':θ) (S:List Shp) (u:Int) (r m:Nat) (ys:List Addr),n=r+1->ws.length<=r->vs=[.ref a,.ref sl,x,.ref t,.int u]->Al ys H->SqT K H t (ws.map Stp.v)->Pth S kd e ws q e'->Tre m e->kd.Fit S.length->LK K H a kd->LX K H sl S->Wel S->Dt false K (offs ys H) x e->(∀y e2 H',jJ H H'->Dt false K (offs ys H') y e2->Put (.int u) e ws e2->Q y H')->aCt K n vs H Q
def tL (K:ς) (n:Nat):Sp:=fun vs H Q _=>aCt K n vs H Q
inductive aCn (K:ς) (vs:List V) (H:Hp) (Q:VK):Prop|mk:∀(a sl:Addr) (x v:V) (st:Stp) (kd q:Kd) (S:List Shp),vs=[.ref a,.ref sl,x,st.v]->StK S kd st q->Chd S K H kd x st v->kd.Fit S.length->LK K H a kd->LX K H sl S->Q v H->aCn K vs H Q
def aMb (K:ς):Sp:=fun vs H Q _=>aCn K vs H Q
inductive aBd (c:Cl5) (K:ς) (vs:List V) (H:Hp) (Q:VK):Prop|mk:∀(f a sl:Addr) (kd:Kd) (sa:List Addr) (S:List Shp),vs=[.ref f,.ref a,.ref sl]->kd.isMany=false->kd.Fit S.length->KO c K H sa f kd->LK K H a kd->SW c K H sa S->LX K H sl S->Wel S->(∀H',jJ H H'->Q (.bl true) H')->aBd c K vs H Q
def aEk (c:Cl5) (K:ς):Sp:=fun vs H Q _=>aBd c K vs H Q
theorem aQi{K:ς}(h:LK K H a kd):∃rest,SqT K H a (.str (uN kd)::rest):=by
 cases h with
 |num h=>exact⟨_,h⟩
 |nest h=>exact⟨_,h⟩
 |many h _=>exact⟨_,h⟩
 |pick h _=>exact⟨_,h⟩
def aLz:Sp:=fun vs H Q _=>∃(p:Addr) (w:Nat),vs=[.ref p,.int (w:Int)]/\w<=4/\St3 H p/\∀(u:Int) (H':Hp),Drawn p H H'->Q (.int u) H'
theorem aOo{xs:List V}(h:∀x∈xs,∃u:Int,x=.int u){j:Nat}(hj:j<xs.length):∃u:Int,xs[j]?=some (.int u):=by
 obtain⟨u,e⟩:=h _ (mw hj);exact⟨u,by rw[ζ hj,e]⟩
theorem aLu{v:V}{vs:List V}: yN (v::vs) (some 1) none=vs:=by
 unfold yN;have e1:HT.sIx (v::vs).length 0 (some 1)=1:=(HT.sIx_nat _ _ 1).trans (by rw[Γ];omega);rw[e1,HT.sIx_none,Γ,Nat.add_sub_cancel];exact rn
theorem cut_j{vs:List V}{j:Nat}(h:j<vs.length):yN vs none (some (j:Int))=vs.take j/\yN vs (some ((j:Int)+1)) none=vs.drop (j+1):=by
 unfold yN;rw[HT.sIx_none,HT.sIx_none,HT.sIx_nat,show((j:Int)+1)=((j+1:Nat):Int) from rfl,HT.sIx_nat,Nat.min_eq_left (kq h),Nat.min_eq_left h];exact⟨by simp,mz (by rw[rl];omega)⟩
theorem Dts.setD{K:ς}(hy:Dt z K H y d):∀{xs:List V}{ds:List θ}{j:Nat},Dts z K H xs ds->Dts z K H (xs.set j y) (ds.set j d):=by
 intro xs
 induction xs with
 |nil=>intro ds j h;cases h;exact .nil
 |cons x xs ih =>
  intro ds j h;cases h with
  |cons a b =>
   cases j with
   |zero=>exact .cons hy b
   |succ j=>exact .cons a (ih b)
theorem aLn(h:Tre m (.list es)):es.length<=6/\∃m',∀d∈es,Tre m' d:=by
 cases m with
 |zero=>exact h.elim
 |succ m=>exact⟨h.2.1,m,h.2.2⟩
theorem aLr{ks:List Str}{es:List θ}(l:ks.length=es.length)(h:Tre m (.dict (kvD ks es))):ks.length<=6/\∃m',∀d∈es,Tre m' d:=by
 cases m with
 |zero=>exact h.elim
 |succ m =>
  obtain⟨ks',ds',e,l',n,b,h⟩:=h;obtain⟨rfl,rfl⟩:=xW l l' e;exact⟨b,m,h⟩
theorem aOa{e:θ}(h:Tre m (.tuple [.int i,e])):∃m',Tre m' e:=by
 cases m with
 |zero=>exact h.elim
 |succ m=>exact⟨m,h.1⟩
theorem offsC{H:Hp}(g:jJ H H')(hn:H l0=none):jJ (offs ys H) (offs (l0::ys) H'):=fun b o e=>by
 unfold offs at e ⊢
 by_cases z:b∈ys
 ·rw[if_pos z]at e;cases e
 ·rw[if_neg z]at e;rw[if_neg (fun q=>(Ξ.mp q).elim (fun q=>by rw[q,hn]at e;cases e) z)];exact g _ _ e
theorem offsU{ys:List Addr}{l0:Addr}: jJ (offs (l0::ys) H) (offs ys (upd H l0 o)):=fun b u e=>by
 unfold offs at e ⊢
 by_cases z:b∈l0::ys
 ·rw[if_pos z]at e;cases e
 ·rw[if_neg z]at e;rw[if_neg (fun q=>z (Ψ _ q)),kF (fun q=>z (by rw[q];exact Δ ..))];exact e
inductive aCv (K:ς) (vs:List V) (H:Hp) (Q:VK):Prop|mk:∀(p a sl:Addr) (x:V) (kd:Kd) (S:List Shp) (d e:θ) (n:Nat),vs=[.ref p,.ref a,.ref sl,x,.bl false]->n<=50->St3 H p->LK K (offs [p] H) a kd->LX K (offs [p] H) sl S->Wel S->kd.Fit S.length->kd.Rk n->Rec S n kd d e->Dt false K (offs [p] H) x e->(∀t ws k' e' H',Drawn p H H'->SqT K (offs [p] H') t (ws.map Stp.v)->Pth S kd e ws k' e'->((∃w,k'=.num w)\/∃is,k'=.pick is)->Q (.ref t) H')->aCv K vs H Q
def aLg (K:ς):Sp:=fun vs H Q _=>aCv K vs H Q
theorem iP{K:ς}(h:St3 H p)(t:SqT K H a xs):SqT K (offs [p] H) a xs:=by
 obtain⟨u,v,w',e⟩:=h;have n:∀{o:HO},H a=some o->(∀ys,o≠.lst ys)->a∉[p]:=fun ho hn z=>by
  rw[ο.mp z,e]at ho;exact hn _ (jv ho).symm
 rcases t with (t|⟨o,t⟩)|t
 ·exact .inl (.inl (qI (n t fun _ z=>by cases z) t))
 ·exact .inl (.inr ⟨o,qI (n t fun _ z=>by cases z) t⟩)
 ·exact .inr t
theorem aEh{K:ς}{p:Addr}{st:Stp}(hW:Wel S)(hp:Pth S k e [st] q e1)(hd:Dt false K (offs [p] H) v e)(hr:Rec S n k d e)(hf:k.Fit S.length)(hk:k.Rk n):∃v2 n' d',n=n'+1/\StK S k st q/\Chd S K H k v st v2/\Dt false K (offs [p] H) v2 e1/\q.Fit S.length/\q.Rk n'/\Rec S n' q d' e1:=by
 obtain⟨n',d',en,f2,k2,r2⟩:=hp.rec' hW.good hW.fnd hf hk hr;obtain⟨q1,v2,e2,hs,hc,hp2,hI⟩:=aJw.go (us:=[]) hp hd;cases hp2;exact⟨v2,n',d',en,hs,hc.same jM,hI,f2,k2,r2⟩
inductive aBr (K:ς) (n:Nat) (vs:List V) (H:Hp) (Q:VK):Prop|mk:∀(p:Addr) (x:V) (kd:Kd) (S:List Shp) (d e0:θ) (r:Nat),n=r+1->vs=[.ref p,x]->St3 H p->kd.Rk r->kd.Fit S.length->Wel S->Dt false K (offs [p] H) x e0->Rec S r kd d e0->(∀v e fs H',Drawn p H H'->Tr true K H' v e fs->Rec S r kd d e->New H fs->Q v H')->aBr K n vs H Q
def tZ (K:ς) (n:Nat):Sp:=fun vs H Q _=>aBr K n vs H Q
theorem aAp(h:New H gs):New (offs ys H) gs:=fun b hb=>by
 unfold offs
 split
 ·rfl
 ·exact h b hb
theorem aHw{H:Hp}(h:H b=none):offs ys H b=none:=by
 unfold offs
 split
 ·rfl
 ·exact h
inductive aAh (K:ς) (n:Nat) (vs:List V) (H:Hp) (Q:VK):Prop|mk:∀(p a sl:Addr) (kd:Kd) (S:List Shp) (r:Nat) (ys:List Addr),n=r+1->vs=[.ref p,.ref a,.ref sl]->St3 H p->p∈ys->Al ys H->kd.Rk r->kd.Fit S.length->LK K (offs ys H) a kd->LX K (offs ys H) sl S->Wel S->(∀v d fs H',Drawn p H H'->Tr true K (offs ys H') v d fs->Can S r kd d->New H fs->Q v H')->aAh K n vs H Q
def tN (K:ς) (n:Nat):Sp:=fun vs H Q _=>aAh K n vs H Q
end K15
namespace K15
open PySem L2 PyProof.Rows
inductive aHc (K:ς) (n:Nat) (vs:List V) (H:Hp) (Q:VK):Prop|mk:∀(x:V) (e:θ) (fs:List Addr) (r:Nat),n=r+1->vs=[x]->Tre r e->Tr true K H x e fs->(∀H',Fr fs H H'->Q .non H')->aHc K n vs H Q
def aGq (K:ς) (n:Nat):Sp:=fun vs H Q _=>aHc K n vs H Q
inductive aGb (K:ς) (n:Nat) (vs:List V) (H:Hp) (Q:VK):Prop|mk:∀(x:V) (e:θ) (fs:List Addr) (r:Nat),n=r+1->vs=[x]->Tre r e->Tr true K H x e fs->(∀v gs H',jJ H H'->New H gs->Tr false K H' v (twn r e) gs->Q v H')->aGb K n vs H Q
def aHi (K:ς) (n:Nat):Sp:=fun vs H Q _=>aGb K n vs H Q
theorem aPs{ks:List Str}{ds:List θ}{r:Nat}(l:ks.length=ds.length)(h:Tre (r+1) (.dict (kvD ks ds))):ks.Nodup/\ks.length<=6/\∀d∈ds,Tre r d:=by
 obtain⟨ks',ds',e,l',n,b,h⟩:=h;obtain⟨rfl,rfl⟩:=xW l l' e;exact⟨n,b,h⟩
theorem aQl{α : Type}{xs:List α}{j:Nat}{x : α}(h:xs[j]?=some x):xs=xs.take j++x::xs.drop (j+1):=by
 obtain⟨h1,h2⟩:=ε.mp h;rw[←h2,←jl h1,ky]
theorem aDn{α : Type}: ∀(xs:List α) (x : α) (ys:List α),(xs++x::ys).drop (xs.length+1)=ys
 |[],_,_=>rfl
 |_::xs,x,ys=>aDn xs x ys
theorem F2.snoc{c:θ->θ->Prop}{d e:θ}(h:c d e):∀{ds es:List θ},F2 c ds es->F2 c (ds++[d]) (es++[e])
 |[],[],_=>⟨h,ju⟩
 |_::_,_::_,z=>⟨z.1,F2.snoc h z.2⟩
theorem aNa{ks:List Str}{xs:List V}(l:ks.length=xs.length):(kz ks xs).map (fun kv=>kV kv.1)=ks.map V.str:=by
 rw[show(fun kv:Key×V=>kV kv.1)=kV∘(·.1) from rfl,←jp,cD l,jp];rfl
theorem Trs.rep{K:ς}(h:Tr false K H v d gs):∀n:Nat,∃fs,Trs false K H (kc n v) (kc n d) fs/\∀a∈fs,a∈gs
 |0=>⟨[],.nil,fun a ha=>by cases ha⟩
 |n+1=>by
  obtain⟨fs,h1,h2⟩:=Trs.rep h n;exact⟨gs++fs,.cons h h1 (fun z=>by cases z),fun a ha=>(je.mp ha).elim id (h2 a)⟩
theorem Trs.snocF{K:ς}(h:Tr false K H x d gs):∀{xs:List V}{ds:List θ}{fs:List Addr},Trs false K H xs ds fs->Trs false K H (xs++[x]) (ds++[d]) (fs++gs)
 |_,_,_,.nil=>by
  have:=Trs.cons (z:=false) h .nil (fun z=>by cases z)
  rwa [ly]at this
 |_,_,_,.cons (fs:=f1) (gs:=f2) h1 t1 n1=>by
  have:=Trs.cons (z:=false) h1 (Trs.snocF h t1) (fun z=>by cases z)
  rwa [←jr]at this
theorem aNq{ks:List Str}{es:List θ}(nd:ks.Nodup)(l:ks.length=es.length):kvD ks es=ks.map fun k=>(jg k,(lkD (kvD ks es) k).getD .none):=by
 refine List.ext_getElem? fun j=>?_;rw[υ];unfold kvD;rw[vm];cases h1:ks[j]? with
 |none=>rfl
 |some k =>
  have hj:j<es.length:=by rw[←l];exact(ε.mp h1).1
  have h2:es[j]?=some es[j]:=ζ hj;rw[h2];show some (jg k,es[j])=some (jg k,(lkD (kvD ks es) k).getD .none);rw[fK nd (tF h1 h2)];rfl
theorem xC.of{c:Kd->θ->θ->Prop}: ∀{fs:List (Str×Kd)}{ds es:List θ},fs.length=ds.length->fs.length=es.length->(∀(j:Nat) (f:Str×Kd) (d e:θ),fs[j]?=some f->ds[j]?=some d->es[j]?=some e->c f.2 d e)->xC c fs ds es
 |[],[],[],_,_,_=>ju
 |f::fs,d::ds,e::es,l1,l2,h=>⟨h 0 f d e rfl rfl rfl,xC.of (lc l1) (lc l2) fun j f' d' e' h1 h2 h3=>h (j+1) f' d' e' h1 h2 h3⟩
theorem aQa(hS:FNd S){ds:List θ}{ks:List Str}{es:List θ}(hl:((Kd.nest i).parts S).length=ds.length)(l:ks.length=es.length)(p:ks.Perm (((Kd.nest i).parts S).map (·.1)))(h:∀(q:Nat) (k:Str) (e:θ),ks[q]?=some k->es[q]?=some e->∃(j:Nat) (d:θ) (kd:Kd),((Kd.nest i).parts S)[j]?=some (k,kd)/\ds[j]?=some d/\Rec S r kd d e):Rec S (r+1) (.nest i) (aGz (.nest i) ((Kd.nest i).parts S) ds) (.dict (kvD ks es)):=by
 have hn:=xJ hS i;have nd:=p.symm.nodup hn;obtain⟨g,hg⟩ : ∃g:Str->θ,∀k,g k=(lkD (kvD ks es) k).getD .none:=⟨_,fun _=>rfl⟩;have e1:kvD ks es=ks.map fun k=>(jg k,g k):=(aNq nd l).trans (rh fun k _=>by rw[hg]);refine⟨ds,((Kd.nest i).parts S).map fun f=>g f.1,ks,es,rfl,rfl,l,?_,xC.of hl (by rw[δ]) fun j f d e h1 h2 h3=>?_⟩
 ·have e2:kvD (((Kd.nest i).parts S).map (·.1)) (((Kd.nest i).parts S).map fun f=>g f.1)=(((Kd.nest i).parts S).map (·.1)).map fun k=>(jg k,g k):=by
   rw[jp];unfold kvD;rw[List.zipWith_map,List.zipWith_self];rfl
  rw[e1,aY,e2];exact p.map _
 ·obtain⟨fk,fd⟩:=f;rw[υ,h1]at h3;cases h3;obtain⟨q,hq⟩:=jd.mp (p.mem_iff.mpr (iw.mpr ⟨(fk,fd),ι h1,rfl⟩));have he:es[q]?=some (es[q]'(by rw[←l];exact(ε.mp hq).1)):=ζ _;obtain⟨j',d',kd,z1,z2,z3⟩:=h q _ _ hq he;have ej:j'=j:=by
   have a1:(((Kd.nest i).parts S).map (·.1))[j']?=some fk:=by rw[υ,z1];rfl
   have a2:(((Kd.nest i).parts S).map (·.1))[j]?=some fk:=by rw[υ,h1];rfl
   obtain⟨b1,c1⟩:=ε.mp a1;obtain⟨b2,c2⟩:=ε.mp a2;exact(List.getElem_inj hn).mp (c1.trans c2.symm)
  subst ej;rw[h1]at z1;rw[h2]at z2;cases z1;cases z2;show Rec S r fd d (g fk);rw[hg,fK nd (tF hq he)];exact z3
theorem nZ{α : Type}: ∀{l:List α}{c:Nat}{y : α},l[c]?=some y->(y::l.eraseIdx c).Perm l
 |[],_,_,h=>by cases h
 |x::l,0,y,h=>by cases h;exact List.Perm.refl _
 |x::l,c+1,y,h=>(List.Perm.swap x y (l.eraseIdx c)).trans (List.Perm.cons x (nZ (c:=c) h))
theorem tI{α β : Type}(f : α->β):∀(l:List α) (c:Nat),(l.map f).eraseIdx c=(l.eraseIdx c).map f
 |[],_=>rfl
 |_::_,0=>rfl
 |x::l,c+1=>congrArg (f x :: ·) (tI f l c)
theorem seqIx{c n:Nat}(h:c<n):seqIndex? (c:Int) n=some c:=by
 have h0:¬ ((c:Int)<0):=by omega
 unfold seqIndex?;rw[if_neg h0];show(if (decide ((0:Int)<=(c:Int))&&decide ((c:Int)<(n:Int)))=true then some (c:Int).toNat else none)=some c;rw[decide_eq_true (by omega),decide_eq_true (by omega)];rfl
theorem Tr.tyN{K:ς}(h:Tr z K H x d fs)(hn:∀v,d≠.int v):∃t,tyM K x H t/\isa t "int" = false:=by
 cases h with
 |int i=>exact absurd rfl (hn i)
 |lst h _ _=>exact⟨"list",.inl (.inl ⟨rfl,_,SqL.of h⟩),rfl⟩
 |tup h _=>exact⟨"tuple",.inl (.inr ⟨rfl,_,h⟩),rfl⟩
 |dct h _ _ _=>exact⟨"dict",.inr ⟨rfl,_,_,rfl,h⟩,rfl⟩
theorem F2.of{c:θ->θ->Prop}: ∀{ds es:List θ},ds.length=es.length->(∀(i:Nat) (d e:θ),ds[i]?=some d->es[i]?=some e->c d e)->F2 c ds es
 |[],[],_,_=>ju
 |d::ds,e::es,l,h=>⟨h 0 d e rfl rfl,F2.of (lc l) fun i d' e' h1 h2=>h (i+1) d' e' h1 h2⟩
theorem xC.each{c:Kd->θ->θ->Prop}(h:xC c fs ds es){e:θ}(he:e∈es):∃f∈fs,∃d,c f.2 d e:=by
 obtain⟨j,hj⟩:=jd.mp he;obtain⟨f,hf⟩ : ∃f,fs[j]?=some f:=⟨_,ζ (by rw[h.len.2];exact(ε.mp hj).1)⟩;obtain⟨d,e',_,h2,h3⟩:=h.get hf;rw[hj]at h2;cases h2;exact⟨f,ι hf,d,h3⟩
theorem aOy : ∀{n:Nat}{k:Kd}{d e:θ},Rec S n k d e->Rec S n k (twn n d) (twn n e):=by
 have num:∀{n w:Nat}{d e:θ},Rec S n (.num w) d e->Rec S n (.num w) (twn n d) (twn n e):=by
  intro n w d e h;obtain⟨v,rfl,rfl,hv⟩ : ∃v:Nat,d=.int v/\e=.int v/\v<256 ^ w:=by cases n <;> exact h
  cases n <;> exact⟨v,rfl,rfl,hv⟩
 intro n
 induction n with
 |zero=>intro k d e h;cases k with
  |num w=>exact num h
  |_=>exact h.elim
 |succ n ih =>
  intro k d e h;cases k with
  |num w=>exact num h
  |pick is =>
   obtain⟨j,i,a,b,hi,rfl,rfl,h2⟩:=h;exact⟨j,i,_,_,hi,rfl,rfl,ih h2⟩
  |many m k =>
   obtain⟨ds,es,rfl,rfl,h⟩:=h;refine⟨_,_,rfl,rfl,xC.of (by rw[nu];exact h.len.1) (by rw[nu];exact h.len.2) fun j f d e h1 h2 h3=>?_⟩;have hfk:∀g∈(Kd.many m k).parts S,g.2=k:=fun g hg=>by
    obtain⟨_,_,rfl⟩:=iw.mp hg;rfl
   obtain⟨e1,e2⟩:=ε.mp h2;obtain⟨e3,e4⟩:=ε.mp h3;rw[List.getElem_replicate]at e2 e4;subst e2 e4;rw[hfk f (ι h1)];cases hp:(Kd.many m k).parts S with
   |nil=>rw[hp]at h1;cases h1
   |cons g gs =>
    rw[hp]at h;cases ds with
    |nil=>exact h.elim
    |cons d0 ds=>cases es with
     |nil=>exact h.elim
     |cons e0 es =>
      have:=ih h.1;rw[hfk g (by rw[hp];exact Δ ..)]at this;exact this
  |nest i =>
   obtain⟨ds,es,ks,es',rfl,rfl,l,p,h⟩:=h;have l1:=h.len.1;have l2:=h.len.2;refine⟨ds.map (twn n),es.map (twn n),ks,es'.map (twn n),?_,congrArg se (lR _ _ _),by rw[δ];exact l,?_,xC.of (by rw[δ];exact l1) (by rw[δ];exact l2) fun j f d e h1 h2 h3=>?_⟩
   ·show se ((nA ((Kd.nest i).parts S) ds).map fun p=>(p.1,twn n p.2))=_;rw[aY,aY,lR]
   ·have:=p.map fun p=>(p.1,twn n p.2);rw[aY,lR,lR]at this;rw[aY];exact this
   ·rw[υ]at h2 h3;obtain⟨d0,hd0,rfl⟩:=lr.mp h2;obtain⟨e0,he0,rfl⟩:=lr.mp h3;obtain⟨d1,e1,z1,z2,z3⟩:=h.get h1;rw[hd0]at z1;rw[he0]at z2;cases z1;cases z2;exact ih z3
theorem aHd(h:Rec S n (.nest i) d e):∃ks es,e=.dict (kvD ks es)/\ks.length=es.length:=by
 cases n with
 |zero=>exact h.elim
 |succ n =>
  obtain⟨_,_,ks,es,_,rfl,l,_⟩:=h;exact⟨ks,es,rfl,l⟩
theorem aNo:∀{r:Nat}{e:θ},Tre r e->e.depth<=r:=by
 intro r
 induction r with
 |zero=>intro e h;cases e with
  |int v=>exact ξ _
  |_=>exact h.elim
 |succ r ih =>
  have la:∀ds:List θ,(∀d∈ds,Tre r d)->kh ds<=r:=by
   intro ds
   induction ds with
   |nil=>intro _;exact ij _
   |cons d ds ihl=>intro h;exact Nat.max_le.mpr ⟨ih (h d (Δ ..)),ihl fun x hx=>h x (Ψ _ hx)⟩
  intro e h;cases e with
  |int v=>exact ij _
  |list ds=>exact ow (la ds h.2.2)
  |tuple xs =>
   match xs,h with
   |[.int j,e],h=>exact ow (Nat.max_le.mpr ⟨ij _,Nat.max_le.mpr ⟨ih h.1,ij _⟩⟩)
  |dict kvs =>
   obtain⟨ks,ds,rfl,l,_,_,h⟩:=h;refine ow ?_;rw[show nv (kvD ks ds)=kh ds from aHk l];exact la ds h
  |none=>exact h.elim
  |bool _=>exact h.elim
  |str _=>exact h.elim
theorem ne9{K:ς}{Q:VK}(h:Rec S n (.nest i) d e)(hd:e.depth<=50)(h1:Dt false K H x e)(h2:Dt false K H y e)(q:Q (.bl false) H):rNeT K x y H Q:=by
 obtain⟨ks,es,rfl,l⟩:=aHd h;obtain⟨a,xs,rfl,a1,a2,a3⟩:=sY h1 l;obtain⟨b,ys,rfl,b1,b2,b3⟩:=sY h2 l;exact .inl ⟨a,b,ks,xs,ys,es,rfl,rfl,a1,b1,a2,b2,a3,b3,(by rw[←aHk l];have:nv (kvD ks es)+1<=50:=hd;show nv (kvD ks es)<=60;omega),q⟩
theorem aKu{K:ς}(hs:St3 H p)(h:SqT K H t xs):SqT K (offs [p] H) t xs:=by
 obtain⟨a,b,c,hp⟩:=hs;rcases h with (h|⟨o,h⟩)|h
 ·exact .inl (.inl (qI (fun z=>by rw[ο.mp z,hp]at h;cases h) h))
 ·exact .inl (.inr ⟨o,qI (fun z=>by rw[ο.mp z,hp]at h;cases h) h⟩)
 ·exact .inr h
theorem noM9{K:ς}{F:Kd->Bool}(hF:∀k,F k=true->k.isNum=true->False):∀vs H Q E,cP c K 0 F vs H Q E->False:=fun vs H Q E h=>by obtain⟨a,x,kd,sa,S,d,e,_,h1,h2,h3,_⟩:=h;exact hF kd h1 (h2.zero h3)
def spMn (CS:Addr) (K:ς):Sp:=fun vs H Q _=>∃(o dx t:Addr) (sa:List Addr) (i:Nat) (s:Addr),vs=[.ref o]/\H o=some (.ins CS dx [("shapes",.ref t)])/\SqT K H t (sa.map V.ref)/\sa.length=i+1/\sa[i]?=some s/\Q (.ref s) H
theorem aOm{sa:List Addr}{i:Nat}(hl:sa.length=i+1)(hs:sa[i]?=some s):atI (sa.map V.ref) (-1)=some (.ref s):=by
 have e:ixN (sa.map V.ref).length (-1)=some i:=by
  unfold ixN;rw[δ,hl,if_neg (by decide),if_pos (by omega)]
  congr 1
  omega
 show(ixN (sa.map V.ref).length (-1)).bind _=_;rw[e];show(sa.map V.ref)[i]?=_;rw[υ,hs];rfl
def Q4 (e d:θ):Prop:=e.showable=d.showable/\e.leavesShort 200=d.leavesShort 200/\e.weight=d.weight/\e.depth=d.depth
def Q4A (e d:List θ):Prop:=qk e=qk d/\ou 200 e=ou 200 d/\rq e=rq d/\kh e=kh d
def Q4K (e d:List (θ×θ)):Prop:=qt e=qt d/\ph 200 e=ph 200 d/\qa e=qa d/\nv e=nv d
theorem Q4.cons{e d:θ}{es ds:List θ}(h:Q4 e d)(t:Q4A es ds):Q4A (e::es) (d::ds) :=
 ⟨by show(e.showable&&qk es)=(d.showable&&qk ds);rw[h.1,t.1],
   by show(e.leavesShort 200&&ou 200 es)=(d.leavesShort 200&&ou 200 ds);rw[h.2.1,t.2.1],
   by show e.weight+1+rq es=d.weight+1+rq ds;rw[h.2.2.1,t.2.2.1],
   by show max e.depth (kh es)=max d.depth (kh ds);rw[h.2.2.2,t.2.2.2]⟩
theorem Q4.consK{k:θ}(h:Q4 e d)(t:Q4K es ds):Q4K ((k,e)::es) ((k,d)::ds) :=
 ⟨by show(k.showable&&e.showable&&qt es)=(k.showable&&d.showable&&qt ds);rw[h.1,t.1],
   by show(k.leavesShort 200&&e.leavesShort 200&&ph 200 es)=(k.leavesShort 200&&d.leavesShort 200&&ph 200 ds);rw[h.2.1,t.2.1],
   by show k.weight+e.weight+2+qa es=k.weight+d.weight+2+qa ds;rw[h.2.2.1,t.2.2.1],
   by show max (max k.depth e.depth) (nv es)=max (max k.depth d.depth) (nv ds);rw[h.2.2.2,t.2.2.2]⟩
theorem Q4K.perm{ps:List (θ×θ)}(h:ps.Perm qs):Q4K ps qs:=by
 induction h with
 |nil=>exact⟨rfl,rfl,rfl,rfl⟩
 |cons x _ ih=>exact Q4.consK (k:=x.1) (e:=x.2) (d:=x.2) ⟨rfl,rfl,rfl,rfl⟩ ih
 |swap x y l =>
  refine⟨Bool.and_left_comm _ _ _,Bool.and_left_comm _ _ _,?_,Nat.max_left_comm _ _ _⟩;show y.1.weight+y.2.weight+2+(x.1.weight+x.2.weight+2+qa l)=x.1.weight+x.2.weight+2+(y.1.weight+y.2.weight+2+qa l);omega
 |trans _ _ a b=>exact⟨a.1.trans b.1,a.2.1.trans b.2.1,a.2.2.1.trans b.2.2.1,a.2.2.2.trans b.2.2.2⟩
theorem aRd : ∀{n:Nat}{k:Kd}{d e:θ},Rec S n k d e->Q4 e d:=by
 have num:∀{n w:Nat}{d e:θ},Rec S n (.num w) d e->Q4 e d:=by
  intro n w d e h;obtain⟨v,rfl,rfl,_⟩ : ∃v:Nat,d=.int v/\e=.int v/\v<256 ^ w:=by cases n <;> exact h
  exact⟨rfl,rfl,rfl,rfl⟩
 intro n
 induction n with
 |zero=>intro k d e h;cases k with
  |num w=>exact num h
  |_=>exact h.elim
 |succ n ih =>
  have ls:∀(fs:List (Str×Kd)) (ds es:List θ),xC (Rec S n) fs ds es->Q4A es ds/\Q4K (nA fs es) (nA fs ds):=by
   intro fs
   induction fs with
   |nil=>intro ds es h;cases ds with
    |nil=>cases es with
     |nil=>exact⟨⟨rfl,rfl,rfl,rfl⟩,⟨rfl,rfl,rfl,rfl⟩⟩
     |cons _ _=>exact h.elim
    |cons _ _=>cases es <;> exact h.elim
   |cons f fs ihl=>intro ds es h;cases ds with
    |nil=>exact h.elim
    |cons d ds=>cases es with
     |nil=>exact h.elim
     |cons e es =>
      obtain⟨t1,t2⟩:=ihl ds es h.2;exact⟨(ih h.1).cons t1,(ih h.1).consK t2⟩
  intro k d e h;cases k with
  |num w=>exact num h
  |pick is =>
   obtain⟨j,i,a,b,_,rfl,rfl,h2⟩:=h;have t:=Q4.cons (e:=.int j) (d:=.int j) ⟨rfl,rfl,rfl,rfl⟩ ((ih h2).cons (es:=[]) (ds:=[]) ⟨rfl,rfl,rfl,rfl⟩);exact⟨t.1,t.2.1,t.2.2.1,congrArg Nat.succ t.2.2.2⟩
  |many m k =>
   obtain⟨ds,es,rfl,rfl,h⟩:=h;have t:=(ls _ _ _ h).1;exact⟨t.1,t.2.1,t.2.2.1,congrArg Nat.succ t.2.2.2⟩
  |nest i =>
   obtain⟨ds,es,ks,es',rfl,rfl,l,p,h⟩:=h;have a:=Q4K.perm p;have b:=(ls _ _ _ h).2;exact⟨a.1.trans b.1,a.2.1.trans b.2.1,a.2.2.1.trans b.2.2.1,congrArg Nat.succ (a.2.2.2.trans b.2.2.2)⟩
theorem shw15(hW:Wel S)(hf:(Kd.nest i).Fit S.length)(hr:(Kd.nest i).Rk r)(h9:r<=9)(h64:(Kd.nest i).size (tabs S).sz<=64)(h:Rec S r (.nest i) d e):e.showable=true/\e.depth<=60/\e.shown.length<=τ:=by
 have s:=aJv hW.good hW.nms hf hr (nU h);obtain⟨q1,q2,q3,q4⟩:=aRd h;have w : 60*(Kd.nest i).size (tabs S).sz*(r+1)<=60*64*10:=Nat.mul_le_mul (Nat.mul_le_mul_left _ h64) (by omega);have s2:Sn e (60*64*10) 10:=⟨q1.trans s.sh,q2.trans s.ls,by have:=s.wt;omega,by have:=s.dp;omega⟩;exact⟨s2.sh,iq s2.dp (by decide),s2.len (by decide)⟩
theorem Tr.off1{K:ς}(hs:St3 H p)(h:Tr z K H x d fs)(n:p∉fs):Tr z K (offs [p] H) x d fs :=
 h.fr (ms:=[p]) (fun b o nb e=>qI nb e) (fun b hb=>by
  obtain⟨u,v,w,e⟩:=hs;rw[ο.mp hb];exact .inl ⟨_,e⟩) fun b hb z=>n (by rw[←ο.mp z];exact hb)
theorem aFo(hs:St3 H p)(h:New H fs):p∉fs:=fun z=>by
 obtain⟨u,v,w,e⟩:=hs;have:=h p z;rw[e]at this;cases this
theorem aNl{w k:Nat}(h:k<256 ^ w)(n:Nat):∃d,Rec S n (.num w) d (.int (k:Int)):=⟨.int k,by cases n <;> exact⟨k,rfl,rfl,h⟩⟩
inductive aBp (c:Cl5) (K:ς) (r:Nat) (vs:List V) (H:Hp) (Q:VK):Prop|mk:∀(p s sl tm:Addr) (x:V) (i:Nat) (sa:List Addr) (S:List Shp) (d e:θ) (fs:List Addr),vs=[.ref p,.ref s,.ref sl,.ref tm,x]->r<=9->2*i+2<=r->St3 H p->sa[i]?=some s->SW c K (offs [p] H) sa S->LX K (offs [p] H) sl S->LK K (offs [p] H) tm (.nest i)->Wel S->(Kd.nest i).size (tabs S).sz<=64->Tr false K (offs [p] H) x e fs->Rec S r (.nest i) d e->(∀v d' e' fs' H',Drawn p H H'->Tr false K (offs [p] H') v e' fs'->Rec S r (.nest i) d' e'->Q v H')->aBp c K r vs H Q
def aLi (c:Cl5) (K:ς) (r:Nat):Sp:=fun vs H Q _=>aBp c K r vs H Q
end K15
namespace L2
open PySem PySem.Spec PyProof.Rows
theorem xK{K:ς}: (aEl CX P w K mg base N qual scope f cd A outer s H E).K=K:=rfl
theorem xN{X:Cx}: X.nox.K=X.K:=rfl
theorem aNe{t2:TS}(h:let r2:=t2;vH t1 r2 D σ H):vH t1 t2 D σ H:=h
theorem aNx{t3:TS}(h:let r3:=t3;let r2:=vH t2 r3;vH t1 r2 D σ H):vH t1 (vH t2 t3) D σ H:=h
theorem aOw{t4:TS}(h:let r4:=t4;let r3:=vH t3 r4;let r2:=vH t2 r3;vH t1 r2 D σ H):vH t1 (vH t2 (vH t3 t4)) D σ H:=h
theorem aNf{t5:TS}(h:let r5:=t5;let r4:=vH t4 r5;let r3:=vH t3 r4;let r2:=vH t2 r3;vH t1 r2 D σ H):vH t1 (vH t2 (vH t3 (vH t4 t5))) D σ H:=h
theorem aNt{t6:TS}(h:let r6:=t6;let r5:=vH t5 r6;let r4:=vH t4 r5;let r3:=vH t3 r4;let r2:=vH t2 r3;vH t1 r2 D σ H):vH t1 (vH t2 (vH t3 (vH t4 (vH t5 t6)))) D σ H:=h
theorem aOb{t7:TS}(h:let r7:=t7;let r6:=vH t6 r7;let r5:=vH t5 r6;let r4:=vH t4 r5;let r3:=vH t3 r4;let r2:=vH t2 r3;vH t1 r2 D σ H):vH t1 (vH t2 (vH t3 (vH t4 (vH t5 (vH t6 t7))))) D σ H:=h
end L2
local macro_rules | `(tactic| refine⟨_,($t),?_⟩) => `(tactic| (refine⟨_,$t,?_⟩; (try dsimp only[L2.xK,L2.xN]);first | (refine L2.aOb ?_;intros) | (refine L2.aNt ?_;intros) | (refine L2.aNf ?_;intros) | (refine L2.aOw ?_;intros) | (refine L2.aNx ?_;intros) | (refine L2.aNe ?_;intros)| skip))
namespace K15
open PySem L2 PyProof.Rows
local macro_rules | `(tactic| clear 1 $p:ident $H:ident $g:ident $k:ident $h:ident) => `(tactic| (generalize zq9 : upd _ $p _ = $H;obtain ⟨$g, $k⟩ := kY zq9 $h))
local macro_rules | `(tactic| clear 0 $p:ident $H:ident $g:ident $k:ident) => `(tactic| (generalize zq9 : upd _ $p _ = $H;obtain ⟨$g, $k⟩ := xS zq9))
local macro_rules | `(tactic| walk_at"sc") => `(tactic| exact⟨rfl, rfl, rfl, by decide +kernel, rfl, by decide +kernel, by decide +kernel⟩)
local macro_rules | `(tactic| w_cond $s:ident) => `(tactic| (obtain ⟨M, C, Ua, Ub, Uc, Ud, Ue, Uf⟩ := Z; (first | refine F.ok $s (fun vs H Q E h => ?_) (fun cdv A outer s0 H vs Q E hr0 h => ?_) | refine F.okE $s (fun vs H Q E h => ?_) (fun cdv A outer s0 H vs Q E hr0 h => ?_) | refine F.okH $s (fun vs H Q E h => ?_) (fun cdv A outer s0 H vs Q E hr0 h => ?_)); (rotate_left;have hr := hr0.mono (Nat.le_succ _);rotate_right);try (· first | (cases h;subst_vars;rfl) | repeat (first | (obtain ⟨rfl, _⟩ := h;exact rfl) | obtain ⟨_, h⟩ := h))))
abbrev cJ:Stmt:=top 21
theorem rH:jK ["thing","signs","most"] ["thing","signs","most"] (jH cJ):=by walk_at"sc"
abbrev iV:Stmt:=top 20
theorem aEm:jK ["thing"] ["thing"] (jH iV):=by walk_at"sc"
abbrev dN:Stmt:=top 22
theorem iR:jK ["text","low","high","number"] ["text","low","high"] (jH dN):=by walk_at"sc"
abbrev oW:Stmt:=top 26
theorem aIx:jK ["path","step"] ["path","step"] (jH oW):=by walk_at"sc"
abbrev lU:Stmt:=top 77
theorem aFe:jK ["_law_cell_here"] ["_law_cell_here"] (jH lU):=by walk_at"sc"
abbrev fS:Stmt:=top 78
theorem zX:jK ["_law_box_here","_law_many","_law_digit","_law_number_here"] ["_law_box_here","_law_many"] (jH fS):=by walk_at"sc"
abbrev gW:Stmt:=top 76
theorem aBb:jK ["_law_script","_law_k"] ["_law_script","_law_k"] (jH gW):=by walk_at"sc"
abbrev yY:Stmt:=top 64
theorem iX:jK ["words"] ["words"] (jH yY):=by walk_at"sc"
abbrev fE:Stmt:=inClass (top 28) 3
theorem aDk:jK ["self"] ["self"] (jH fE):=by walk_at"sc"
abbrev aN:Stmt:=inClass (top 29) 3
theorem oO:jK ["self"] ["self"] (jH aN):=by walk_at"sc"
abbrev cC:Stmt:=inClass (top 32) 1
theorem rE:jK ["self"] ["self"] (jH cC):=by walk_at"sc"
abbrev cW:Stmt:=inClass (top 28) 4
theorem wU:jK ["self"] ["self"] (jH cW):=by walk_at"sc"
abbrev zV:Stmt:=inClass (top 29) 4
theorem mX:jK ["self"] ["self"] (jH zV):=by walk_at"sc"
abbrev aI:Stmt:=inClass (top 32) 2
theorem pN:jK ["self"] ["self"] (jH aI):=by walk_at"sc"
abbrev dF:Stmt:=inClass (top 30) 3
theorem wI:jK ["self"] ["self"] (jH dF):=by walk_at"sc"
abbrev bU:Stmt:=inClass (top 30) 4
theorem sH:jK ["self"] ["self"] (jH bU):=by walk_at"sc"
abbrev yV:Stmt:=inClass (top 31) 4
theorem lG:jK ["self"] ["self"] (jH yV):=by walk_at"sc"
abbrev bI:Stmt:=inClass (top 31) 5
theorem rF:jK ["self"] ["self"] (jH bI):=by walk_at"sc"
abbrev eF:Stmt:=inClass (top 31) 3
theorem wF:jK ["self"] ["self"] (jH eF):=by walk_at"sc"
abbrev gP:Stmt:=inClass (top 28) 0
theorem aCe:jK ["self","width"] ["self","width"] (jH gP):=by walk_at"sc"
abbrev aP:Stmt:=inClass (top 29) 0
theorem pA:jK ["self","shape"] ["self","shape"] (jH aP):=by walk_at"sc"
abbrev eE:Stmt:=inClass (top 30) 0
theorem tM:jK ["self","count","kind"] ["self","count","kind"] (jH eE):=by walk_at"sc"
abbrev cY:Stmt:=inClass (top 31) 0
theorem uK:jK ["self","shapes"] ["self","shapes"] (jH cY):=by walk_at"sc"
abbrev aR:Stmt:=inClass (top 33) 0
theorem oJ:jK ["self","shapes"] ["self","shapes"] (jH aR):=by walk_at"sc"
abbrev zN:Stmt:=inClass (top 28) 6
theorem nI:jK ["self","path"] ["self","path"] (jH zN):=by walk_at"sc"
abbrev zA:Stmt:=inClass (top 31) 7
theorem lD:jK ["self","path"] ["self","path"] (jH zA):=by walk_at"sc"
abbrev yS:Stmt:=inClass (top 29) 5
theorem lT:jK ["self"] ["self"] (jH yS):=by walk_at"sc"
abbrev aL:Stmt:=inClass (top 30) 5
theorem rB:jK ["self"] ["self"] (jH aL):=by walk_at"sc"
abbrev yQ:Stmt:=inClass (top 27) 2
theorem xD:jK ["self","path","rows","step","kind"] ["self","path"] (jH yQ):=by walk_at"sc"
abbrev aM:Stmt:=inClass (top 32) 3
theorem oS:jK ["self"] ["self"] (jH aM):=by walk_at"sc"
abbrev bK:Stmt:=inClass (top 32) 0
theorem sF:jK ["self","name","fields"] ["self","name","fields"] (jH bK):=by walk_at"sc"
abbrev dZ:Stmt:=top 67
theorem wN:jK ["words"] ["words"] (jH dZ):=by walk_at"sc"
abbrev mF:Stmt:=top 66
theorem aEc:jK ["words"] ["words"] (jH mF):=by walk_at"sc"
abbrev yZ:Stmt:=top 65
theorem lY:jK ["words"] ["words"] (jH yZ):=by walk_at"sc"
abbrev zL:Stmt:=top 70
theorem nE:jK ["words"] ["words"] (jH zL):=by walk_at"sc"
abbrev bG:Stmt:=top 82
theorem rY:jK ["_law_path","_law_step"] ["_law_path","_law_step"] (jH bG):=by walk_at"sc"
abbrev yH:Stmt:=top 68
theorem iQ:jK ["told","line","name"] ["told","line","name"] (jH yH):=by walk_at"sc"
abbrev zM:Stmt:=top 71
theorem nF:jK ["told"] ["told"] (jH zM):=by walk_at"sc"
abbrev cI:Stmt:=top 69
theorem xH:jK ["told","line","words","named","at","name"] ["told","line","words"] (jH cI):=by walk_at"sc"
abbrev iW:Stmt:=top 73
theorem aFn:jK ["words","shapes"] ["words","shapes"] (jH iW):=by walk_at"sc"
abbrev aT:Stmt:=top 74
theorem pD:jK ["shape"] ["shape"] (jH aT):=by walk_at"sc"
abbrev cG:Stmt:=top 72
theorem aV:jK ["told","line","words","kind","shape"] ["told","line","words"] (jH cG):=by walk_at"sc"
abbrev aF:Stmt:=top 63
theorem vS:jK ["text","lines","told","line","row","words"] ["text"] (jH aF):=by walk_at"sc"
abbrev gT:Stmt:=top 80
theorem aBw:jK ["_law_kind_here","_law_shapes_here"] ["_law_kind_here","_law_shapes_here"] (jH gT):=by walk_at"sc"
abbrev cX:Stmt:=top 83
theorem wL:jK ["_law_kind_here","_law_shapes_here"] ["_law_kind_here","_law_shapes_here"] (jH cX):=by walk_at"sc"
abbrev dJ:Stmt:=top 81
theorem vU:jK ["_law_kind_here","_law_shapes_here","_law_path","_law_found","_law_number_here","_law_name","_law_inner"] ["_law_kind_here","_law_shapes_here","_law_path"] (jH dJ):=by walk_at"sc"
abbrev fV:Stmt:=top 85
theorem mP:jK ["_law_shapes_here","_law_main"] ["_law_shapes_here"] (jH fV):=by walk_at"sc"
abbrev fN:Stmt:=top 84
theorem zY:jK ["_law_box_here","_law_known","_law_way","_law_width","_law_at"] ["_law_box_here","_law_known"] (jH fN):=by walk_at"sc"
abbrev yU:Stmt:=top 87
theorem lH:jK ["_law_kind_here","_law_shapes_here"] ["_law_kind_here","_law_shapes_here"] (jH yU):=by walk_at"sc"
abbrev fM:Stmt:=top 88
theorem xR:jK ["_law_shapes_here","_law_lines","_law_name","_law_fields","_law_field","_law_kind_here"] ["_law_shapes_here"] (jH fM):=by walk_at"sc"
abbrev cZ:Stmt:=top 79
theorem xY:jK ["_law_box_here","_law_way","_law_at","_law_words","_law_tail"] ["_law_box_here"] (jH cZ):=by walk_at"sc"
abbrev cM:Stmt:=top 86
theorem qS:jK ["_law_box_here","_law_most","_law_names_here","_law_turn","_law_shapes_here","_law_k","_law_fields","_law_j","_law_field"] ["_law_box_here","_law_most"] (jH cM):=by walk_at"sc"
abbrev fF:Stmt:=top 23
theorem aDw:jK ["width"] ["width"] (jH fF):=by walk_at"sc"
abbrev lB:Stmt:=top 24
theorem aFi:jK ["thing","width"] ["thing","width"] (jH lB):=by walk_at"sc"
abbrev zP:Stmt:=top 40
theorem nG:jK ["pick","thing"] ["pick","thing"] (jH zP):=by walk_at"sc"
abbrev gQ:Stmt:=top 90
theorem mG:jK ["_law_box_here","_law_width","_law_most"] ["_law_box_here","_law_width"] (jH gQ):=by walk_at"sc"
abbrev dD:Stmt:=top 91
theorem xU:jK ["_law_box_here","_law_kind_here","_law_shapes_here","_law_number_here","_law_found","_law_name","_law_inner"] ["_law_box_here","_law_kind_here","_law_shapes_here"] (jH dD):=by walk_at"sc"
abbrev gV:Stmt:=top 17
theorem aAi:jK ["thing"] ["thing"] (jH gV):=by walk_at"sc"
abbrev bP:Stmt:=top 19
theorem sG:jK ["thing","low","high"] ["thing","low","high"] (jH bP):=by walk_at"sc"
abbrev gR:Stmt:=top 36
theorem aBu:jK ["kind","thing"] ["kind","thing"] (jH gR):=by walk_at"sc"
abbrev bQ:Stmt:=top 37
theorem fB:jK ["kind","thing","fields"] ["kind","thing"] (jH bQ):=by walk_at"sc"
abbrev dY:Stmt:=top 38
theorem uH:jK ["kind","thing"] ["kind","thing"] (jH dY):=by walk_at"sc"
abbrev dR:Stmt:=top 39
theorem tX:jK ["kind","thing"] ["kind","thing"] (jH dR):=by walk_at"sc"
abbrev dQ:Stmt:=top 35
theorem uW:jK ["shape","thing"] ["shape","thing"] (jH dQ):=by walk_at"sc"
abbrev oQ:Stmt:=top 41
theorem aIl:jK ["record"] ["record"] (jH oQ):=by walk_at"sc"
abbrev cK:Stmt:=top 99
theorem aJ:jK ["_law_thing","_law_name","_law_one"] ["_law_thing"] (jH cK):=by walk_at"sc"
abbrev gM:Stmt:=top 102
theorem aB:jK ["_law_thing","_law_found","_law_name","_law_one"] ["_law_thing"] (jH gM):=by walk_at"sc"
abbrev gL:Stmt:=top 18
theorem aAo:jK ["thing"] ["thing"] (jH gL):=by walk_at"sc"
abbrev lF:Stmt:=inClass (top 28) 5
theorem aEw:jK ["self","step"] ["self","step"] (jH lF):=by walk_at"sc"
abbrev fH:Stmt:=inClass (top 30) 7
theorem aCm:jK ["self","step"] ["self","step"] (jH fH):=by walk_at"sc"
abbrev bT:Stmt:=inClass (top 29) 6
theorem aK:jK ["self","step","name","kind"] ["self","step"] (jH bT):=by walk_at"sc"
abbrev fR:Stmt:=inClass (top 31) 6
theorem mT:jK ["self","step","shape"] ["self","step"] (jH fR):=by walk_at"sc"
abbrev fW:Stmt:=inClass (top 28) 1
theorem aCi:jK ["self"] ["self"] (jH fW):=by walk_at"sc"
abbrev fO:Stmt:=inClass (top 28) 2
theorem aCc:jK ["self"] ["self"] (jH fO):=by walk_at"sc"
abbrev aU:Stmt:=inClass (top 29) 1
theorem rA:jK ["self"] ["self"] (jH aU):=by walk_at"sc"
abbrev aH:Stmt:=inClass (top 29) 2
theorem pM:jK ["self"] ["self"] (jH aH):=by walk_at"sc"
abbrev dB:Stmt:=inClass (top 31) 1
theorem wY:jK ["self"] ["self"] (jH dB):=by walk_at"sc"
abbrev dO:Stmt:=inClass (top 31) 2
theorem wS:jK ["self"] ["self"] (jH dO):=by walk_at"sc"
abbrev zQ:Stmt:=top 51
theorem nH:jK ["kind","step"] ["kind","step"] (jH zQ):=by walk_at"sc"
abbrev aE:Stmt:=top 50
theorem pJ:jK ["pick","number","step"] ["pick","number","step"] (jH aE):=by walk_at"sc"
abbrev lX:Stmt:=top 49
theorem gN:jK ["kind","value","step","number","record"] ["kind","value","step"] (jH lX):=by walk_at"sc"
abbrev lC:Stmt:=top 42
theorem cB:jK ["shape","steps","kind","step"] ["shape","steps"] (jH lC):=by walk_at"sc"
abbrev bO:Stmt:=top 47
theorem eY:jK ["shape","steps","word","kind"] ["shape","steps","word"] (jH bO):=by walk_at"sc"
abbrev lK:Stmt:=top 48
theorem yG:jK ["shape","record","steps","kind","value","step"] ["shape","record","steps"] (jH lK):=by walk_at"sc"
abbrev fJ:Stmt:=top 46
theorem aDo:jK ["shape","record","steps","word"] ["shape","record","steps","word"] (jH fJ):=by walk_at"sc"
abbrev lQ:Stmt:=top 43
theorem fX:jK ["shape","record","steps","kind","word"] ["shape","record","steps"] (jH lQ):=by walk_at"sc"
abbrev gO:Stmt:=top 44
theorem eA:jK ["shape","record","steps","kind","choice"] ["shape","record","steps"] (jH gO):=by walk_at"sc"
abbrev fP:Stmt:=top 52
theorem dU:jK ["shape","record","steps","value","fresh","holder"] ["shape","record","steps","value"] (jH fP):=by walk_at"sc"
abbrev oM:Stmt:=top 45
theorem lV:jK ["shape","record","steps","word","kind","old"] ["shape","record","steps","word"] (jH oM):=by walk_at"sc"
abbrev dX:Stmt:=top 89
theorem wP:jK ["_law_found"] ["_law_found"] (jH dX):=by walk_at"sc"
abbrev bM:Stmt:=top 92
theorem yK:jK ["_law_kind_here","_law_shapes_here","_law_step","_law_at","_law_name","_law_inner"] ["_law_kind_here","_law_shapes_here","_law_step"] (jH bM):=by walk_at"sc"
abbrev iY:Stmt:=top 93
theorem fY:jK ["_law_kind_here","_law_shapes_here","_law_steps_here","_law_step"] ["_law_kind_here","_law_shapes_here","_law_steps_here"] (jH iY):=by walk_at"sc"
abbrev fZ:Stmt:=top 94
theorem yO:jK ["_law_kind_here","_law_shapes_here","_law_value_here","_law_steps_here","_law_step"] ["_law_kind_here","_law_shapes_here","_law_value_here","_law_steps_here"] (jH fZ):=by walk_at"sc"
abbrev dW:Stmt:=top 96
theorem uC:jK ["_law_kind_here","_law_shapes_here","_law_value_here","_law_step"] ["_law_kind_here","_law_shapes_here","_law_value_here","_law_step"] (jH dW):=by walk_at"sc"
abbrev yI:Stmt:=top 100
theorem iL:jK ["_law_found","_law_kind_here","_law_shapes_here"] ["_law_found","_law_kind_here","_law_shapes_here"] (jH yI):=by walk_at"sc"
abbrev cH:Stmt:=top 98
theorem aD:jK ["_law_box_here","_law_width","_law_most","_law_some"] ["_law_box_here","_law_width"] (jH cH):=by walk_at"sc"
abbrev lS:Stmt:=top 97
theorem bS:jK ["_law_kind_here","_law_shapes_here","_law_value_here","_law_steps_here","_law_word_here","_law_inner","_law_at","_law_found"] ["_law_kind_here","_law_shapes_here","_law_value_here","_law_steps_here","_law_word_here"] (jH lS):=by walk_at"sc"
abbrev cT:Stmt:=top 95
theorem qB:jK ["_law_box_here","_law_kind_here","_law_shapes_here","_law_value_here","_law_wild","_law_steps_here","_law_step","_law_fields","_law_number_here"] ["_law_box_here","_law_kind_here","_law_shapes_here","_law_value_here","_law_wild"] (jH cT):=by walk_at"sc"
abbrev cV:Stmt:=top 101
theorem zB:jK ["_law_box_here","_law_thing","_law_left","_law_found","_law_name"] ["_law_box_here","_law_thing"] (jH cV):=by walk_at"sc"
abbrev aG:Stmt:=inClass (top 33) 2
theorem oP:jK ["self"] ["self"] (jH aG):=by walk_at"sc"
abbrev fU:Stmt:=top 103
theorem vF:jK ["_law_box_here","_law_shape","_law_shapes_here","_law_main","_law_record","_law_steps_here","_law_kind_here","_law_due","_law_kept","_law_found","_law_number_here","_law_word_here","_law_told"] ["_law_box_here","_law_shape","_law_shapes_here","_law_main","_law_record"] (jH fU):=by walk_at"sc"
abbrev aJs:Stmt:=top 104
theorem zI:jK ["_law_script","_law_k","_law_box_here","_law_shapes_here","_law_read","_law_main","_law_record","_law_turn"] ["_law_script"] (jH aJs):=by walk_at"sc"
structure ZZ (P:lu) (w:my) (base:nc) (K:ς) (mg:Str->Option Value) (t1 t2 t3 t4 t5 t6 t7 t8 t9 t10 t11 t12 t13:Tok) (ts:Addr) (Va cIu:Addr) (Vb cIv:Addr) (Vc cIx:Addr) (Vd cIy:Addr) (Ve cIz:Addr) (Vf cIw:Addr):Prop where
 M:Blt mg
 C:Cst K mg t1 t2 t3 t4 t5 t6 t7 t8 t9 t10 t11 t12 t13 ts
 Ua:rO K mg "Num" Va cIu ["width"]
 Ub:rO K mg "Nested" Vb cIv ["shape"]
 Uc:rO K mg "Many" Vc cIx ["count","kind"]
 Ud:rO K mg "Pick" Vd cIy ["shapes"]
 Ue:rO K mg "Shape" Ve cIz ["name","fields"]
 Uf:rO K mg "Shapes" Vf cIw ["shapes"]
section
variable {P:lu}{w:my}{K:ς}{mg:Str->Option Value}{base:nc}{t1 t2 t3 t4 t5 t6 t7 t8 t9 t10 t11 t12 t13:Tok}{ts:Addr}{Va cIu:Addr}{Vb cIv:Addr}{Vc cIx:Addr}{Vd cIy:Addr}{Ve cIz:Addr}{Vf cIw:Addr}(Z:ZZ P w base K mg t1 t2 t3 t4 t5 t6 t7 t8 t9 t10 t11 t12 t13 ts Va cIu Vb cIv Vc cIx Vd cIy Ve cIz Vf cIw)
include Z
local macro_rules|`(j1 $a $b)=>`(jY P w K mg base CX0 (k+2) f fd $a $b)
local macro_rules|`(j4 $a $b)=>`(Cal P w K mg base CX0 k $a $b)
local macro_rules|`(j5 $a $b)=>`(zC P w K mg base CX0 k $a $b)
local macro_rules|`(j6 $a $b $c)=>`(zE P w K mg base CX0 k $a $b $c)
local macro_rules|`(j8 0)=>`(Cl5.mk Va Vb Vc Vd Ve)
theorem rJ{k:Nat}(F:Fun K "is_text_of" "is_text_of" cJ f fd):j1 ["thing","signs","most"] (nX K):=by
 w_cond rH;obtain⟨x,signs,most,rfl,h⟩:=h;refine⟨_,(jE (jV (PW.pt (yP (vL (kR (jN (vR.or pW sN) rfl M.isinstance ip (jA (pv 0) (jA (qM (v:=.ty "str") rfl M.str boot_str rfl) jB))))) (yA (vL (aDy iB iB jD (jN aCr rfl M.len jh (jA (pv 0) jB)) (pv 2)))))) (jC (jI cO)) jL) (jC (jI (jN (dI rfl) rfl M.all boot_all (jA (kU ["sign"] ["signs"] [1] rfl (aQu (pv 0)) rfl ⟨rfl,trivial⟩ ⟨⟨rfl,rfl,rfl,_,rfl⟩,trivial⟩ (fun _ _ _ _=>(qD rfl)) (fun _ _ _ _=>kT) (fun _ _ _ _=>(vC aHz (pv 0) (pv 1) (by with_unfolding_all rfl)))) jB))))),?_⟩;rcases h with⟨z,rfl,hz,q⟩|⟨t,ht,hns,q⟩
 ·have hl:=len_list z;refine⟨_,rfl,.inl ⟨_,_,"str",rfl,by decide,rfl,_,rfl,jU ?_⟩⟩;refine⟨_,rfl,.str z,z.length,rfl,⟨small hz,rfl⟩,_,_,rfl,rfl,_,rfl,xG (fun c1=>?_) (fun c1=>?_)⟩
  ·refine⟨_,rfl,_,_,rfl,rfl,_,rfl,xG (fun c2=>?_) (fun c2=>?_)⟩
   ·have e:within z most=false:=by
     unfold within;have:decide ((z.length:Int)<=most)=false:=by simpa using c2
     rw[this,Bool.and_false]
    have:=q H (jJ.refl H);rw[e,qh]at this;exact this
   ·have e:within z most=true:=by
     unfold within;have c2':decide ((z.length:Int)<=most)=true:=by simpa using c2
     rw[c2',c1];rfl
    refine⟨_,rfl,z,rfl,aMm (fun i ys H'=>H'=H/\ys=((z.cps.toList.take i).map fun c=>decide (c∈signs.cps.toList)).map V.bl) ⟨rfl,rfl⟩ (fun i ys H' _ w=>by rw[w.2,δ,δ];exact List.length_take_le ..) (kL hz) (fun i c ys H' hc w=>?_) (fun ys H' w p hp=>?_)⟩
    ·obtain⟨rfl,rfl⟩:=w;refine⟨_,rfl,_,rfl,⟨#[c]⟩,signs,rfl,rfl,⟨rfl,?_⟩,_,rfl⟩;rw[aJz (fun c=>decide (c∈signs.cps.toList)) _ i hc,ρ,aQc];rfl
    ·obtain⟨rfl,rfl⟩:=w;refine⟨p,(z.cps.toList.map fun c=>decide (c∈signs.cps.toList)),rfl,SqL.of ?_,?_⟩
     ·rw[jT,←hl,rn]
     ·have:=q _ (vP hp (.lst (((z.cps.toList.take z.length).map fun c=>decide (c∈signs.cps.toList)).map V.bl)));rw[e,Bool.true_and]at this;rw[all_map];exact this
  ·refine⟨_,rfl,?_⟩;have e:within z most=false:=by
    unfold within;have:decide (1<=(z.length:Int))=false:=by simpa using c1
    rw[this,qh]
   have:=q H (jJ.refl H);rw[e,qh]at this;exact kO this
 ·rcases ht with ht|⟨rfl,p,kvs,rfl,hp⟩
  ·exact⟨_,rfl,.inl ⟨x,_,t,rfl,by decide,ht,_,rfl,vZ (by rw[isa3 hns];rfl) (aKh q)⟩⟩
  ·exact⟨_,rfl,.inr ⟨p,_,kvs,rfl,by decide,hp,_,rfl,kO (aKh q)⟩⟩
theorem aEd(F:Fun K "is_name" "is_name" iV f fd)(br:j4 "is_text_of" (nX K)):j1 ["thing"] (aX K):=by
 w_cond aEm;obtain⟨x,rfl,h⟩:=h;refine⟨_,(jC (jI (vY (jF br hr (jA (pv 0) (jA (vD (v:=.str "abcdefghijklmnopqrstuvwxyz") rfl C.SMALL_LETTERS ⟨_,rfl⟩) (jA (vD (v:=.int 6) rfl C.MOST_LETTERS ⟨_,rfl⟩) jB)))) (xP (vC uV (pv 0) (vD (v:=.ref ts) rfl C.OWN_WORDS rfl) (by with_unfolding_all rfl)))))),?_⟩;rcases h with⟨z,rfl,hz,q⟩|⟨t,ht,hns,q⟩
 ·refine⟨_,rfl,.str z,zU,6,rfl,.inl ⟨z,rfl,hz,fun H1 g1=>⟨_,rfl,xG (fun c=>?_) (fun c=>?_)⟩⟩⟩
  ·refine⟨_,rfl,ts,_,rfl,.inr (C.words _),rfl,eO _,?_⟩;show Q (.bl (!inV (.str z) (aMh.map V.str))) H1;rw[iT];have:=q H1 g1;unfold qA at this;rw[c,Bool.true_and]at this;exact this
  ·have:=q H1 g1;unfold qA at this;rw[Bool.eq_false_iff.mpr c,qh]at this;exact this
 ·exact⟨_,rfl,x,zU,6,rfl,.inr ⟨t,ht,hns,⟨_,rfl,eW (q H (jJ.refl H))⟩⟩⟩
theorem wC{k:Nat}(F:Fun K "number_in" "number_in" dN f fd)(br:j4 "is_text_of" (nX K)):j1 ["text","low","high"] (fT K):=by
 w_cond iR;obtain⟨x,lo,hi,rfl,h⟩:=h;refine⟨_,(jE (jV (vL (kR (jF br hr (jA (pv 0) (jA (vD (v:=.str "0123456789") rfl C.FIGURES ⟨_,rfl⟩) (jA (vD (v:=.int 10) rfl C.MOST_FIGURES ⟨_,rfl⟩) jB)))))) (jC (jI vA)) jL) (jE (jV (PW.pt (zJ (jP kS (jG aFc (pv 0) jD) jO) (yJ (jP cQ (jN aCr rfl M.len jh (jA (pv 0) jB)) jD)))) (jC (jI vA)) jL) (jE (jR 3 iR.nd (qP bJ rfl M.int boot_int (jA (pv 0) jB))) (jC (jI (oE (aDy iB iB (pv 1) (pv 3) (pv 2)) (pv 3) vA)))))),?_⟩;rcases h with⟨z,rfl,hz,q⟩|⟨t,ht,hns,q⟩
 ·have hl:=len_list z;refine⟨_,rfl,.str z,bD,10,rfl,.inl ⟨z,rfl,hz,fun H1 g1=>⟨_,rfl,xG (fun c=>?_) (fun c=>?_)⟩⟩⟩
  ·have e:uT z=none:=by
    unfold uT;rw[if_neg];intro w;rw[kf]at w;rw[w.1]at c;exact absurd c (by decide)
   have:=q H1 g1;rw[e]at this;exact this
  ·have c':(within z 10&&aDj z bD)=true:=by simpa using c
   have hw : 1<=(z.length:Int):=by
    rw[kf]at c';unfold within at c';have:=c'.1;rw[kf]at this;exact of_decide_eq_true this.1
   have hw2:(z.length:Int)<=10:=by
    rw[kf]at c';unfold within at c';have:=c'.1;rw[kf]at this;exact of_decide_eq_true this.2
   have hd:PySem.NumText.AllDigits z.cps.toList:=fun d hd=>by
    rw[kf]at c';have:=jm.mp c'.2 d hd;exact(aCb d).mp (of_decide_eq_true this)
   obtain⟨c0,hc0⟩ : ∃c0,z.cps.toList[0]?=some c0:=⟨_,ζ (by omega)⟩;have at0:atI z.cps.toList 0=some c0:=by
    have:=vT (j:=0) hc0;simpa using this
   have lead:aDx z=(decide (c0=48)&&decide (1<(z.length:Int))):=by
    unfold aDx;rw[hc0]
    congr 1
    rw[px];simp
   have no:aDx z=true->Q .non H1:=fun w=>by
    have e:uT z=none:=by
     unfold uT;rw[if_neg];intro v;rw[kf,w]at v;exact absurd v.2 (by decide)
    have:=q H1 g1;rw[e]at this;exact this
   have yes:aDx z=false->uT z=some ((PySem.NumText.digitsVal z.cps.toList:Nat):Int):=fun w=>by
    unfold uT;rw[if_pos];rw[c',w];rfl
   have hnum:=PySem.intText_digits (x:=z) hd (by intro w;rw[w]at hc0;cases hc0) (by omega);refine⟨_,rfl,z,_,c0,rfl,rfl,small hz,at0,rfl,_,rfl,?_⟩;rw[is_0];refine xG (fun c1=>?_) (fun c1=>?_)
   ·refine⟨_,rfl,.str z,z.length,rfl,⟨small hz,rfl⟩,_,_,rfl,rfl,_,rfl,xG (fun c2=>?_) (fun c2=>?_)⟩
    ·exact no (by rw[lead,c1];simpa using c2)
    ·have ey:=yes (by rw[lead,Bool.eq_false_iff.mpr c2,Bool.and_false]);refine⟨_,rfl,z,_,rfl,hnum,by omega,?_⟩;refine⟨_,rfl,_,rfl,_,_,rfl,rfl,_,rfl,xG (fun d1=>⟨_,rfl,_,_,rfl,rfl,_,rfl,xG (fun d2=>⟨_,rfl,?_⟩) (fun d2=>?_)⟩) (fun d1=>⟨_,rfl,eW ?_⟩)⟩
     ·have:=q H1 g1;rw[ey,cL,if_pos ⟨of_decide_eq_true d1,of_decide_eq_true d2⟩]at this;exact this
     ·have:=q H1 g1;rw[ey,cL,if_neg (fun w=>d2 (decide_eq_true w.2))]at this;exact this
     ·have:=q H1 g1;rw[ey,cL,if_neg (fun w=>d1 (decide_eq_true w.1))]at this;exact this
   ·have ey:=yes (by rw[lead,Bool.eq_false_iff.mpr c1,qh]);refine eW ⟨_,rfl,z,_,rfl,hnum,by omega,?_⟩;refine⟨_,rfl,_,rfl,_,_,rfl,rfl,_,rfl,xG (fun d1=>⟨_,rfl,_,_,rfl,rfl,_,rfl,xG (fun d2=>⟨_,rfl,?_⟩) (fun d2=>?_)⟩) (fun d1=>⟨_,rfl,eW ?_⟩)⟩
    ·have:=q H1 g1;rw[ey,cL,if_pos ⟨of_decide_eq_true d1,of_decide_eq_true d2⟩]at this;exact this
    ·have:=q H1 g1;rw[ey,cL,if_neg (fun w=>d2 (decide_eq_true w.2))]at this;exact this
    ·have:=q H1 g1;rw[ey,cL,if_neg (fun w=>d1 (decide_eq_true w.1))]at this;exact this
 ·exact⟨_,rfl,x,bD,10,rfl,.inr ⟨t,ht,hns,⟨_,rfl,kO (q H (jJ.refl H))⟩⟩⟩
theorem aIs{k:Nat}(F:Fun K "joined" "joined" oW f fd):j1 ["path","step"] nY:=by
 w_cond aIx;obtain⟨p,x,y,rfl,hy,hp,hl,q⟩:=h;refine⟨_,(jC (jI (oE (dS (pv 0) (fun _=>rfl)) (aGh (aFu (pv 0) (aJu (aFu (pv 1) aMo)))) (aKs (pv 1))))),?_⟩;refine⟨_,rfl,_,⟨small hp,rfl⟩,xG (fun c=>?_) (fun c=>?_)⟩
 ·have hne:¬ p.length=0:=fun z=>by rw[z]at c;exact absurd c (by decide)
  have l1:(Str.empty++p).length<=τ:=by rw[cE];exact small hp
  have l2:(Str.empty++p++η ".").length<=τ:=by rw[cE,kj];exact aKv (by have:(η ".").length=1:=rfl;omega)
  have l3:(Str.empty++p++η "." ++ y).length<=τ:=by rw[cE,kj,kj];exact aKv (by have:(η ".").length=1:=rfl;omega)
  refine⟨_,rfl,p,rfl,small hp,l1,l2,_,rfl,y,hy,small hl,l3,l3,?_⟩;rw[cE];unfold pj at q;rw[if_neg hne]at q;exact q
 ·have hne:p.length=0:=by
   by_cases z:p.length=0
   ·exact z
   ·exact absurd (show((p.length:Int) != 0)=true from bne_iff_ne.mpr (by omega)) c
  unfold pj at q;rw[if_pos hne]at q;exact⟨_,rfl,y,hy,small hl,q⟩
theorem aDz{k:Nat}(F:Fun K "_law_box" "_law_box" lU f fd):j1 ["_law_cell_here"] aPh:=by
 w_cond aFe;obtain⟨c,rfl,q⟩:=h;refine⟨_,(jC (jI (qT (jA (jN (sX rfl) rfl M.max boot_max (jA jD (jA (jW yR (pv 0) (jW aEn jD jD)) jB))) (jA (jW xO (pv 0) jD) (jA jD jB)))))),?_⟩;exact⟨_,rfl,_,_,rfl,rfl,⟨by decide,by decide,by decide⟩,_,_,rfl,rfl,_,_,rfl,_,rfl,_,_,rfl,rfl,(by show(0:Int)<_;decide),aAc,fun p hp=>q p _ hp ⟨⟨_,_,_,jT⟩,fun b o n e=>by rw[kF n];exact e⟩⟩
theorem aAz{k:Nat}(F:Fun K "_law_take" "_law_take" fS f fd):j1 ["_law_box_here","_law_many"] aQ:=by
 w_cond zX;obtain⟨p,m,rfl,hm,hm2,⟨a,b,c,h⟩,q⟩:=h;refine⟨_,(jE (jV (jP cQ (jG jX (pv 0) jD) jD) (jE (jR 2 zX.nd (jW xO (jG jX (pv 0) jD) (pv 1))) (jE (eI (jW aKb (jG jX (pv 0) jD) (pv 1)) (wT (pv 0) jD set_list)) (jC (jI (pv 2))))) jL) (jE (eI (jW qG (jG jX (pv 0) jD) jD) (wT (pv 0) jD set_list)) (jE (jR 3 zX.nd (jW xO (jW yF (jW qG (jW qG (jG jX (pv 0) jD) (jW yF jD (jG jX (pv 0) jD))) jD) jD) jD)) (jE (jR 3 zX.nd (jW xO (jW qG (jW qG (jW yF (pv 3) (pv 3)) (jW yF jD (jG jX (pv 0) jD))) jD) jD)) (jC (jI (jW xO (jW aOq (jW xO (jW yF (pv 3) (jW qG (pv 3) jD)) jD) jD) (pv 1)))))))),?_⟩;have nat:∀x:Int,∃v:Nat,x % m=(v:Int)/\(v:Int)<m:=fun x=>by
  have h0:=Int.emod_nonneg x (show m≠0 by omega);have h1:=Int.emod_lt_of_pos x hm;exact⟨(x % m).toNat,by omega,by omega⟩
 refine⟨_,rfl,p,_,_,_,rfl,rfl,SqL.of h,rfl,_,_,rfl,rfl,_,rfl,xG (fun cc=>?_) (fun cc=>?_)⟩
 ·refine⟨_,rfl,p,_,_,_,rfl,rfl,SqL.of h,rfl,_,rfl,_,_,rfl,rfl,hm,?_⟩;refine⟨_,rfl,p,_,_,_,rfl,rfl,SqL.of h,rfl,_,rfl,_,_,rfl,rfl,⟨hm,Int.lt_trans hm2 (by decide)⟩,_,rfl,p,_,_,0,rfl,rfl,h,rfl,?_⟩;obtain⟨v,hv,hl⟩:=nat a;refine⟨_,rfl,?_⟩;show Q (.int (a % m)) _;rw[hv];exact q v _ hl ⟨⟨_,_,_,jT⟩,fun b' o n e=>by rw[kF n];exact e⟩
 ·refine⟨_,rfl,p,_,_,_,rfl,rfl,SqL.of h,rfl,_,_,rfl,rfl,_,rfl,p,_,_,2,rfl,rfl,h,rfl,?_⟩;have h1:upd H p (.lst [.int a,.int b,.int (c+1)]) p=some (.lst [.int a,.int b,.int (c+1)]):=jT;refine⟨_,rfl,p,_,_,_,rfl,rfl,SqL.of h1,rfl,_,rfl,p,_,_,_,rfl,rfl,SqL.of h1,rfl,_,_,rfl,rfl,.inl ⟨by omega,by omega⟩,_,_,rfl,rfl,_,_,rfl,rfl,_,_,rfl,rfl,.inr ⟨by omega,by omega⟩,_,_,rfl,rfl,(by show(0:Int)<_;decide),?_⟩;refine⟨_,rfl,_,rfl,_,_,rfl,rfl,.inl ⟨by omega,by omega⟩,_,rfl,p,_,_,_,rfl,rfl,SqL.of h1,rfl,_,_,rfl,rfl,.inl ⟨by omega,by omega⟩,_,_,rfl,rfl,_,_,rfl,rfl,_,_,rfl,rfl,(by show(0:Int)<_;decide),?_⟩;refine⟨_,rfl,_,rfl,_,_,rfl,rfl,_,_,rfl,rfl,.inl ⟨by omega,by omega⟩,_,_,rfl,rfl,(by show(0:Int)<_;decide),_,_,rfl,rfl,⟨by decide,by decide⟩,_,rfl,_,_,rfl,rfl,hm,?_⟩
  (try dsimp only)
  generalize hz:(_ % m:Int)=z;obtain⟨v,hv,hl⟩:=nat (((((((b+7919*(c+1)+17)*48271 % 2147483629)*((b+7919*(c+1)+17)*48271 % 2147483629)+16807*(c+1)+3) % 2147483587)*(((((b+7919*(c+1)+17)*48271 % 2147483629)*((b+7919*(c+1)+17)*48271 % 2147483629)+16807*(c+1)+3) % 2147483587)+11)) % 2147483647) / 8);rw[←hz,hv];exact q v _ hl ⟨⟨_,_,_,jT⟩,fun b' o n e=>by rw[kF n];exact e⟩
theorem aCz{k:Nat}(F:Fun K "_law_cell" "_law_cell" gW f fd):j1 ["_law_script","_law_k"] (aLl K):=by
 w_cond aBb;obtain⟨a,ns,k,rfl,hS,hk0,hk1,q⟩:=h;refine⟨_,(jE (jV (jP aLs (pv 1) (jN kI rfl M.len jh (jA (pv 0) jB))) (jC (jI (jG jX (pv 0) (pv 1)))) jL) (jC (jI (jW qG (jW yF jD (pv 1)) jD)))),?_⟩;have hl:(ns.map V.int).length=ns.length:=δ _;refine⟨_,rfl,_,rfl,a,_,rfl,.inl hS,_,_,rfl,rfl,_,rfl,?_⟩;refine xG (fun c=>?_) (fun c=>?_)
 ·have c':k<(((ns.map V.int).length:Nat):Int):=of_decide_eq_true c;rw[hl]at c';obtain⟨v,hv⟩:=aKo ns hk0 c';exact⟨_,rfl,_,rfl,a,_,_,_,rfl,rfl,hS,hv,q _⟩
 ·exact⟨_,rfl,_,_,rfl,rfl,.inl ⟨by omega,by omega⟩,_,_,rfl,rfl,q _⟩
theorem mD{k:Nat}(F:Fun K "is_shape_line" "is_shape_line" yY f fd)(ah:j4 "is_name" (aX K)):j1 ["words"] (aPo K):=by
 w_cond iX;obtain⟨a,ws,rfl,hw,q⟩:=h;refine⟨_,(jC (jI (vY (vC kS (jN kI rfl M.len jh (jA (pv 0) jB)) jD (vX _)) (vY (vC kS (jG jX (pv 0) jD) jO (vX _)) (xP (jF ah hr (jA (jG jX (pv 0) jD) jB))))))),?_⟩;refine⟨_,rfl,a,_,rfl,.inl hw.l,rfl,_,rfl,?_⟩
 match ws,hw,q with
 |[],hw,q=>exact jU (q _ (jJ.refl _))
 |[x],hw,q=>exact qO (by simp) (q _ (jJ.refl _))
 |x::y::z::r,hw,q=>exact qO (by simp;omega) (q _ (jJ.refl _))
 |[x,y],hw,q =>
  refine vZ (by simp) ⟨_,rfl,a,_,_,_,rfl,rfl,hw.l,rfl,rfl,_,rfl,xG (fun c=>?_) (fun c=>?_)⟩
  ·refine⟨_,rfl,a,_,_,_,rfl,rfl,hw.l,rfl,.str y,rfl,.inl ⟨y,rfl,hw.s y (by simp),fun H1 g1=>?_⟩⟩;have e:aDe [x,y]=qA y:=by
    show(decide (x=η "shape")&&qA y)=_;rw[decide_eq_true (show x=η "shape" from by simpa using c),Bool.true_and]
   have:=q H1 g1;rw[e]at this;exact this
  ·have e:aDe [x,y]=false:=by
    show(decide (x=η "shape")&&qA y)=_;rw[decide_eq_false (show ¬ x=η "shape" from by simpa using c),qh]
   have:=q _ (jJ.refl _);rw[e]at this;exact this
theorem mQ{k:Nat}(F:Fun K "size" "Num.size" fE f fd):j1 ["self"] (spV (j8 0) K r Kd.isNum vSz):=by
 w_cond aDk;obtain⟨a,kd,sa,S,rfl,hF,hk,hf,ho,hw,hg,q⟩:=h;refine⟨_,(jC (jI (kP (pv 0) rfl))),?_⟩;cases id ho with
 |num h1 =>
  exact⟨_,rfl,a,Va,_,_,_,rfl,h1,Ua.cl,Ua.nd,rfl,q _ (jJ.refl _)⟩
 |_=>cases hF
theorem pV(F:Fun K "size" "Nested.size" aN f fd)(ao:j6 Ve "size" (mK (j8 0) K r sSz)):j1 ["self"] (spV (j8 0) K (r+1) Kd.isNest vSz):=by
 w_cond oO;obtain⟨a,kd,sa,S,rfl,hF,hk,hf,ho,hw,hg,q⟩:=h;refine⟨_,(jC (jI (xZ (kP (pv 0) rfl) Ue.cl ao hr qR))),?_⟩;cases id ho with
 | @nest a dx s i e h1 =>
  obtain⟨sh,hs,dx2,t,ps,h2,_⟩:=hw.at e;exact⟨_,rfl,a,Vb,_,_,_,rfl,h1,Ub.cl,Ub.nd,rfl,s,dx2,_,rfl,h2,rfl,s,i,sa,S,rfl,e,(by have : 2*i+2<=r+1:=hk;omega),hw,hg,q⟩
 |_=>cases hF
theorem eZ{k r:Nat}(F:Fun K "size" "Shape.size" cC f fd)(ce:∀C sp,TV (j8 0) K r vSz C sp->xE P w K mg base CX0 k "size" C sp):j1 ["self"] (mK (j8 0) K r sSz):=by
 w_cond rE;obtain⟨a,i,sa,S,rfl,e,hi,hw,hg,q⟩:=h;refine⟨_,(jC (jI (jN (aAj rfl) rfl M.sum (show oe "sum" = some (.builtin "sum") from by ac_rfl) (jA (kU ["name","kind"] [] [] rfl (xQ (kP (pv 0) rfl)) rfl trivial trivial (fun _ _ _ _=>(zW (K:=K) (n:=2) rfl rfl (kH (qD rfl) (kH (dP rfl) qQ)))) (fun _ _ _ _=>kT) (fun _ _ _ _=>(xB (pv 1) ce hr qR))) jB)))),?_⟩;obtain⟨s,hS,so⟩:=hw.at e;obtain⟨dx,t,ps,k1,k2,k3⟩:=so.fields;have zl:(ps.map V.ref).length=s.2.length:=by rw[δ];exact k3.len
 have hfit:=hg.fit i s hS;have htab:=gU hS fun f hf=>(hfit f hf).1.below;have hil:i<S.length:=(ε.mp hS).1;refine⟨_,rfl,a,Ve,_,_,_,rfl,k1,Ue.cl,Ue.nd,rfl,t,rfl,⟨_,k2⟩,zH (xs:=ps.map V.ref) (fun j ys H'=>jJ H H'/\ys=((s.2.take j).map fun f=>V.int (vSz f.2 (tabs S)))) ⟨jJ.refl _,rfl⟩ (fun j ys H' _ z=>⟨z.1.tp k2,by rw[z.2,δ,ib];exact jy _ _⟩) (kL (by have:=hg.few i s hS;omega)) (fun j x ys H' os ho hx z=>?_) (fun ys H' z p hp=>?_)⟩
 ·obtain⟨g,rfl⟩:=z;obtain⟨o1,o2,rfl⟩:=uS ho;obtain⟨u,hu,rfl⟩:=qF hx;obtain⟨x,y,kd,k,hf,ht,_,hko⟩:=k3.get hu;have hm:=hfit _ (ι hf);exact⟨u,_,rfl,g.tp ht,rfl,_,_,rfl,_,_,rfl,rfl,_,rfl,aDd (aAr (by simp)) (hm.1.rk.mono hi) (hm.1.mono (kq hil)) (hko.same g) (hw.same g) hg fun H2 g2=>⟨⟨g.trans g2,(qV hf).symm⟩,[_,_],rfl,rfl⟩⟩
 ·obtain⟨g,rfl⟩:=z;have g2:=vP hp (.lst ((s.2.take (ps.map V.ref).length).map fun f=>V.int (vSz f.2 (tabs S))));have kp:upd H' p (.lst ((s.2.take (ps.map V.ref).length).map fun f=>V.int (vSz f.2 (tabs S)))) p=some (.lst (((s.2.map fun f=>vSz f.2 (tabs S)).map fun n:Nat=>(n:Int)).map V.int)):=by
   rw[jT,zl,kM,jp,jp];rfl
  have q':=q _ (g.trans g2);refine⟨p,(s.2.map fun f=>vSz f.2 (tabs S)).map fun n:Nat=>(n:Int),rfl,SqL.of kp,?_⟩;rw[sumI];rw[show sSz i (tabs S)=(s.2.map fun f=>vSz f.2 (tabs S)).sum from htab.1]at q';exact q'
theorem iS{k:Nat}(F:Fun K "depth" "Num.depth" cW f fd):j1 ["self"] (spV (j8 0) K r Kd.isNum vDp):=by
 w_cond wU;obtain⟨a,kd,sa,S,rfl,hF,hk,hf,ho,hw,hg,q⟩:=h;refine⟨_,(jC (jI jD)),?_⟩;cases id ho with
 |num h1 =>
  exact q _ (jJ.refl _)
 |_=>cases hF
theorem nC(F:Fun K "depth" "Nested.depth" zV f fd)(am:j6 Ve "depth" (mK (j8 0) K r sDp)):j1 ["self"] (spV (j8 0) K (r+1) Kd.isNest vDp):=by
 w_cond mX;obtain⟨a,kd,sa,S,rfl,hF,hk,hf,ho,hw,hg,q⟩:=h;refine⟨_,(jC (jI (xZ (kP (pv 0) rfl) Ue.cl am hr qR))),?_⟩;cases id ho with
 | @nest a dx s i e h1 =>
  obtain⟨sh,hs,dx2,t,ps,h2,_⟩:=hw.at e;exact⟨_,rfl,a,Vb,_,_,_,rfl,h1,Ub.cl,Ub.nd,rfl,s,dx2,_,rfl,h2,rfl,s,i,sa,S,rfl,e,(by have : 2*i+2<=r+1:=hk;omega),hw,hg,q⟩
 |_=>cases hF
theorem eJ{k r:Nat}(F:Fun K "depth" "Shape.depth" aI f fd)(cp:∀C sp,TV (j8 0) K r vDp C sp->xE P w K mg base CX0 k "depth" C sp):j1 ["self"] (mK (j8 0) K r sDp):=by
 w_cond pN;obtain⟨a,i,sa,S,rfl,e,hi,hw,hg,q⟩:=h;refine⟨_,(jC (jI (jW qG jD (jN (zG rfl) rfl M.max boot_max (jA (kU ["name","kind"] [] [] rfl (xQ (kP (pv 0) rfl)) rfl trivial trivial (fun _ _ _ _=>(zW (K:=K) (n:=2) rfl rfl (kH (qD rfl) (kH (dP rfl) qQ)))) (fun _ _ _ _=>kT) (fun _ _ _ _=>(xB (pv 1) cp hr qR))) jB))))),?_⟩;obtain⟨s,hS,so⟩:=hw.at e;obtain⟨dx,t,ps,k1,k2,k3⟩:=so.fields;have zl:(ps.map V.ref).length=s.2.length:=by rw[δ];exact k3.len
 have hfit:=hg.fit i s hS;have htab:=gU hS fun f hf=>(hfit f hf).1.below;have hil:i<S.length:=(ε.mp hS).1;refine⟨_,rfl,a,Ve,_,_,_,rfl,k1,Ue.cl,Ue.nd,rfl,t,rfl,⟨_,k2⟩,zH (xs:=ps.map V.ref) (fun j ys H'=>jJ H H'/\ys=((s.2.take j).map fun f=>V.int (vDp f.2 (tabs S)))) ⟨jJ.refl _,rfl⟩ (fun j ys H' _ z=>⟨z.1.tp k2,by rw[z.2,δ,ib];exact jy _ _⟩) (kL (by have:=hg.few i s hS;omega)) (fun j x ys H' os ho hx z=>?_) (fun ys H' z p hp=>?_)⟩
 ·obtain⟨g,rfl⟩:=z;obtain⟨o1,o2,rfl⟩:=uS ho;obtain⟨u,hu,rfl⟩:=qF hx;obtain⟨x,y,kd,k,hf,ht,_,hko⟩:=k3.get hu;have hm:=hfit _ (ι hf);exact⟨u,_,rfl,g.tp ht,rfl,_,_,rfl,_,_,rfl,rfl,_,rfl,aDd (aAr (by simp)) (hm.1.rk.mono hi) (hm.1.mono (kq hil)) (hko.same g) (hw.same g) hg fun H2 g2=>⟨⟨g.trans g2,(qV hf).symm⟩,[_,_],rfl,rfl⟩⟩
 ·obtain⟨g,rfl⟩:=z;have g2:=vP hp (.lst ((s.2.take (ps.map V.ref).length).map fun f=>V.int (vDp f.2 (tabs S))));have kp:upd H' p (.lst ((s.2.take (ps.map V.ref).length).map fun f=>V.int (vDp f.2 (tabs S)))) p=some (.lst (((s.2.map fun f=>vDp f.2 (tabs S)).map fun n:Nat=>(n:Int)).map V.int)):=by
   rw[jT,zl,kM,jp,jp];rfl
  have q':=q _ (g.trans g2);refine⟨p,(s.2.map fun f=>vDp f.2 (tabs S)).map fun n:Nat=>(n:Int),rfl,SqL.of kp,(by simpa using hg.ne i s hS),fun m h1 h2=>?_⟩;rw[aIa h1 h2];refine⟨_,_,rfl,rfl,?_⟩;rw[show sDp i (tabs S)=1+vW (s.2.map fun f=>vDp f.2 (tabs S)) from htab.2.1,su]at q';exact q'
theorem uL(F:Fun K "size" "Many.size" dF f fd)(ce:∀C sp,TV (j8 0) K r vSz C sp->xE P w K mg base CX0 k "size" C sp):j1 ["self"] (spV (j8 0) K (r+1) Kd.isMany vSz):=by
 w_cond wI;obtain⟨a,kd,sa,S,rfl,hF,hk,hf,ho,hw,hg,q⟩:=h;refine⟨_,(jC (jI (jW yF (kP (pv 0) rfl) (xB (kP (pv 0) rfl) ce hr qR)))),?_⟩;cases id ho with
 | @many a dx b n k h1 h2 =>
  refine⟨_,rfl,a,Vc,_,_,_,rfl,h1,Uc.cl,Uc.nd,rfl,_,rfl,a,Vc,_,_,_,rfl,h1,Uc.cl,Uc.nd,rfl,aDd (aAr (by simp)) hk.sub hf.sub h2 hw hg fun H' g=>⟨_,_,rfl,rfl,.inl ⟨by have:=hf.2.1;omega,by have:=hf.2.1;omega⟩,?_⟩⟩;have q':=q H' g;rw[show vSz (Kd.many n k) (tabs S)=n*vSz k (tabs S) from rfl,Int.natCast_mul]at q';exact q'
 |_=>cases hF
theorem rC(F:Fun K "depth" "Many.depth" bU f fd)(cp:∀C sp,TV (j8 0) K r vDp C sp->xE P w K mg base CX0 k "depth" C sp):j1 ["self"] (spV (j8 0) K (r+1) Kd.isMany vDp):=by
 w_cond sH;obtain⟨a,kd,sa,S,rfl,hF,hk,hf,ho,hw,hg,q⟩:=h;refine⟨_,(jC (jI (xB (kP (pv 0) rfl) cp hr qR))),?_⟩;cases id ho with
 | @many a dx b n k h1 h2 =>
  exact⟨_,rfl,a,Vc,_,_,_,rfl,h1,Uc.cl,Uc.nd,rfl,aDd (aAr (by simp)) hk.sub hf.sub h2 hw hg q⟩
 |_=>cases hF
theorem bB{k r:Nat}(F:Fun K "greatest" "Pick.greatest" yV f fd)(ao:j6 Ve "size" (mK (j8 0) K r sSz)):j1 ["self"] (spGr (j8 0) K (r+1)):=by
 w_cond lG;obtain⟨a,is,sa,S,rfl,hk,hf,ho,hw,hg,q⟩:=h;refine⟨_,(jC (jI (jN (zG rfl) rfl M.max boot_max (jA (kU ["shape"] [] [] rfl (xQ (kP (pv 0) rfl)) rfl trivial trivial (fun _ _ _ _=>(qD rfl)) (fun _ _ _ _=>kT) (fun _ _ _ _=>(xZ (pv 0) Ue.cl ao hr qR))) jB)))),?_⟩;obtain⟨dx,t,ss,h1,h2,h3,h4⟩ : ∃(dx t:Addr) (ss:List Addr),H a=some (.ins Vd dx [("shapes",.ref t)])/\SqT K H t (ss.map V.ref)/\ss.length=is.length/\∀(j i:Nat) (s:Addr),is[j]?=some i->ss[j]?=some s->sa[i]?=some s:=by
  cases ho with
  |pick h1 h2 h3 h4=>exact⟨_,_,_,h1,h2,h3,h4⟩
 have zl:(ss.map V.ref).length=is.length:=by rw[δ];exact h3
 refine⟨_,rfl,a,Vd,_,_,_,rfl,h1,Ud.cl,Ud.nd,rfl,t,rfl,⟨_,h2⟩,gZ (xs:=ss.map V.ref) (fun j ys H'=>jJ H H'/\ys=((is.take j).map fun i=>V.int (sSz i (tabs S)))) ⟨jJ.refl _,rfl⟩ (fun j ys H' _ z=>⟨z.1.tp h2,by rw[z.2,δ,ib];exact jy _ _⟩) (kL (by have:=hf.2.1;omega)) (fun j x ys H' hx z=>?_) (fun ys H' z p hp=>?_)⟩
 ·obtain⟨g,rfl⟩:=z;obtain⟨s,hs,rfl⟩:=qF hx;have hj:j<is.length:=by rw[←h3];exact(ε.mp hs).1
  have hi:is[j]?=some is[j]:=ζ hj;have e:=h4 j _ s hi hs;obtain⟨sh,hS,dx2,t2,ps,k2,_⟩:=hw.at e;exact⟨_,rfl,s,dx2,_,rfl,g _ _ k2,rfl,s,is[j],sa,S,rfl,e,(by have:=hk _ (mw hj);omega),hw.same g,hg,fun H2 g2=>⟨⟨g.trans g2,(qV hi).symm⟩,_,rfl⟩⟩
 ·obtain⟨g,rfl⟩:=z;have g2:=vP hp (.lst ((is.take (ss.map V.ref).length).map fun i=>V.int (sSz i (tabs S))));have kp:upd H' p (.lst ((is.take (ss.map V.ref).length).map fun i=>V.int (sSz i (tabs S)))) p=some (.lst (((is.map fun i=>sSz i (tabs S)).map fun n:Nat=>(n:Int)).map V.int)):=by
   rw[jT,zl,kM,jp,jp];rfl
  have q':=q _ (g.trans g2);refine⟨p,(is.map fun i=>sSz i (tabs S)).map fun n:Nat=>(n:Int),rfl,SqL.of kp,(by have:=hf.1;intro z;rw[jp,List.map_eq_nil_iff]at z;rw[z]at this;exact absurd this (by decide)),fun m h5 h6=>?_⟩;rw[aIa h5 h6];exact q'
theorem rV{k r:Nat}(F:Fun K "depth" "Pick.depth" bI f fd)(am:j6 Ve "depth" (mK (j8 0) K r sDp)):j1 ["self"] (spV (j8 0) K (r+1) Kd.isPick vDp):=by
 w_cond rF;obtain⟨a,kd,sa,S,rfl,hF,hk,hf,ho,hw,hg,q⟩:=h;refine⟨_,(jC (jI (jN (zG rfl) rfl M.max boot_max (jA (kU ["shape"] [] [] rfl (xQ (kP (pv 0) rfl)) rfl trivial trivial (fun _ _ _ _=>(qD rfl)) (fun _ _ _ _=>kT) (fun _ _ _ _=>(xZ (pv 0) Ue.cl am hr qR))) jB)))),?_⟩;obtain⟨is,dx,t,ss,rfl,h1,h2,h3,h4⟩ : ∃(is:List Nat) (dx t:Addr) (ss:List Addr),kd=.pick is/\H a=some (.ins Vd dx [("shapes",.ref t)])/\SqT K H t (ss.map V.ref)/\ss.length=is.length/\∀(j i:Nat) (s:Addr),is[j]?=some i->ss[j]?=some s->sa[i]?=some s:=by
  cases ho with
  |pick h1 h2 h3 h4=>exact⟨_,_,_,_,rfl,h1,h2,h3,h4⟩
  |_=>cases hF
 have zl:(ss.map V.ref).length=is.length:=by rw[δ];exact h3
 refine⟨_,rfl,a,Vd,_,_,_,rfl,h1,Ud.cl,Ud.nd,rfl,t,rfl,⟨_,h2⟩,gZ (xs:=ss.map V.ref) (fun j ys H'=>jJ H H'/\ys=((is.take j).map fun i=>V.int (sDp i (tabs S)))) ⟨jJ.refl _,rfl⟩ (fun j ys H' _ z=>⟨z.1.tp h2,by rw[z.2,δ,ib];exact jy _ _⟩) (kL (by have:=hf.2.1;omega)) (fun j x ys H' hx z=>?_) (fun ys H' z p hp=>?_)⟩
 ·obtain⟨g,rfl⟩:=z;obtain⟨s,hs,rfl⟩:=qF hx;have hj:j<is.length:=by rw[←h3];exact(ε.mp hs).1
  have hi:is[j]?=some is[j]:=ζ hj;have e:=h4 j _ s hi hs;obtain⟨sh,hS,dx2,t2,ps,k2,_⟩:=hw.at e;exact⟨_,rfl,s,dx2,_,rfl,g _ _ k2,rfl,s,is[j],sa,S,rfl,e,(by have:=hk _ (mw hj);omega),hw.same g,hg,fun H2 g2=>⟨⟨g.trans g2,(qV hi).symm⟩,_,rfl⟩⟩
 ·obtain⟨g,rfl⟩:=z;have g2:=vP hp (.lst ((is.take (ss.map V.ref).length).map fun i=>V.int (sDp i (tabs S))));have kp:upd H' p (.lst ((is.take (ss.map V.ref).length).map fun i=>V.int (sDp i (tabs S)))) p=some (.lst (((is.map fun i=>sDp i (tabs S)).map fun n:Nat=>(n:Int)).map V.int)):=by
   rw[jT,zl,kM,jp,jp];rfl
  have q':=q _ (g.trans g2);refine⟨p,(is.map fun i=>sDp i (tabs S)).map fun n:Nat=>(n:Int),rfl,SqL.of kp,(by have:=hf.1;intro z;rw[jp,List.map_eq_nil_iff]at z;rw[z]at this;exact absurd this (by decide)),fun m h5 h6=>?_⟩;rw[aIa h5 h6];exact q'
theorem uE{r:Nat}(F:Fun K "size" "Pick.size" eF f fd)(bb:j6 Vd "greatest" (spGr (j8 0) K (r+1))):j1 ["self"] (spV (j8 0) K (r+1) Kd.isPick vSz):=by
 w_cond wF;obtain⟨a,kd,sa,S,rfl,hF,hk,hf,ho,hw,hg,q⟩:=h;refine⟨_,(jC (jI (jW qG jD (xZ (pv 0) Ud.cl bb hr qR)))),?_⟩;cases id ho with
 | @pick a dx t is ss h1 h2 h3 h4 =>
  refine⟨_,rfl,a,dx,_,rfl,h1,rfl,a,is,sa,S,rfl,hk,hf,ho,hw,hg,fun H' g=>⟨_,_,rfl,rfl,?_⟩⟩;have q':=q H' g;rw[show vSz (Kd.pick is) (tabs S)=1+vW (is.map fun i=>(tabs S).sz.getD i 0) from rfl,su]at q';exact q'
 |_=>cases hF
theorem aAw{k:Nat}(F:Fun K "__init__" "Num.__init__" gP f fd):j1 ["self","width"] (tP Va "width"):=by
 w_cond aCe;obtain⟨a,dx,v,H1,rfl,hA,g,h0,q⟩:=h;refine⟨_,(jC (dE (pv 0) (pv 1) rfl)),?_⟩;exact⟨_,rfl,_,rfl,a,Va,dx,[],rfl,hA,Ua.cl,Ua.nd,by decide,q _ (g.putn h0) jT⟩
theorem oG{k:Nat}(F:Fun K "__init__" "Nested.__init__" aP f fd):j1 ["self","shape"] (tP Vb "shape"):=by
 w_cond pA;obtain⟨a,dx,v,H1,rfl,hA,g,h0,q⟩:=h;refine⟨_,(jC (dE (pv 0) (pv 1) rfl)),?_⟩;exact⟨_,rfl,_,rfl,a,Vb,dx,[],rfl,hA,Ub.cl,Ub.nd,by decide,q _ (g.putn h0) jT⟩
theorem wW{k:Nat}(F:Fun K "__init__" "Many.__init__" eE f fd):j1 ["self","count","kind"] (spI2 Vc "count" "kind"):=by
 w_cond tM;obtain⟨a,dx,v,u,H1,rfl,hA,g,h0,q⟩:=h;refine⟨_,(jE (dE (pv 0) (pv 1) rfl) (jC (dE (pv 0) (pv 2) rfl))),?_⟩;exact⟨_,rfl,_,rfl,a,Vc,dx,[],rfl,hA,Uc.cl,Uc.nd,by decide,_,rfl,_,rfl,a,Vc,dx,_,rfl,jT,Uc.cl,Uc.nd,(by show 1<1000;decide),q _ ((g.putn h0).putn h0) jT⟩
theorem aAb{k:Nat}(F:Fun K "__init__" "Pick.__init__" cY f fd):j1 ["self","shapes"] (spIT K Vd "shapes"):=by
 w_cond uK;obtain⟨a,dx,l,ys,H1,rfl,hA,g,h0,hl,q⟩:=h;refine⟨_,(jC (dE (pv 0) (qP yM rfl M.tuple qy (jA (pv 1) jB)) rfl)),?_⟩;refine⟨_,rfl,l,ys,rfl,.inl ⟨g.seq hl,fun t ht=>?_⟩⟩;clear 1 t H2 g2 k2 ht;exact⟨_,rfl,a,Vd,dx,[],rfl,g2 _ _ hA,Ud.cl,Ud.nd,by decide,q t _ ((g.trans g2).putn h0) jT (SqT.of (by rw[kF (lm (jS hA ht))];exact k2))⟩
theorem oZ{k:Nat}(F:Fun K "__init__" "Shapes.__init__" aR f fd):j1 ["self","shapes"] (spIT K Vf "shapes"):=by
 w_cond oJ;obtain⟨a,dx,l,ys,H1,rfl,hA,g,h0,hl,q⟩:=h;refine⟨_,(jC (dE (pv 0) (qP yM rfl M.tuple qy (jA (pv 1) jB)) rfl)),?_⟩;refine⟨_,rfl,l,ys,rfl,.inl ⟨g.seq hl,fun t ht=>?_⟩⟩;clear 1 t H2 g2 k2 ht;exact⟨_,rfl,a,Vf,dx,[],rfl,g2 _ _ hA,Uf.cl,Uf.nd,by decide,q t _ ((g.trans g2).putn h0) jT (SqT.of (by rw[kF (lm (jS hA ht))];exact k2))⟩
theorem cR{k:Nat}(F:Fun K "units_at" "Num.units_at" zN f fd):j1 ["self","path"] (spU (j8 0) K r Kd.isNum):=by
 w_cond nI;obtain⟨a,p,kd,sa,S,rfl,hp,hF,hk,hf,ho,hw,hg,q⟩:=h;refine⟨_,(jC (jI (qT (jA (kQ (jA (pv 1) (jA (kP (pv 0) rfl) (jA jO jB)))) jB)))),?_⟩;cases id ho with
 |num h1 =>
  refine⟨_,rfl,_,rfl,a,Va,_,_,_,rfl,h1,Ua.cl,Ua.nd,rfl,aAc,fun t ht=>?_⟩;clear 1 t H1 g1 k1 ht;refine⟨lP,fun l hl=>?_⟩;clear 1 l H2 g2 k2 hl;exact q l H2 (g1.trans g2) (g1.free hl) ⟨[t],k2,.cons (g2.tp (SqT.of k1)) .nil⟩
 |_=>cases hF
theorem lW{r:Nat}(F:Fun K "units_at" "Pick.units_at" zA f fd)(cq:j4 "joined" nY)(bb:j6 Vd "greatest" (spGr (j8 0) K (r+1))):j1 ["self","path"] (spU (j8 0) K (r+1) Kd.isPick):=by
 w_cond lD;obtain⟨a,p,kd,sa,S,rfl,hp,hF,hk,hf,ho,hw,hg,q⟩:=h;refine⟨_,(jC (jI (qT (jA (kQ (jA (jF cq hr (jA (pv 1) (jA jO jB))) (jA jD (jA jO jB)))) (jA (kQ (jA (pv 1) (jA (xZ (pv 0) Ud.cl bb hr qR) (jA jO jB)))) jB))))),?_⟩;cases id ho with
 | @pick a dx t is ss h1 h2 h3 h4 =>
  refine⟨_,rfl,p,_,_,rfl,rfl,(by omega),(by decide),aAc,fun t1 ht1=>?_⟩;clear 1 t1 H1 g1 k1 ht1;refine⟨_,rfl,_,rfl,a,dx,_,rfl,g1 _ _ h1,rfl,a,is,sa,S,rfl,hk,hf,ho.same g1,hw.same g1,hg,fun H2 g2=>⟨aAc,fun t2 ht2=>?_⟩⟩;clear 1 t2 H3 g3 k3 ht2;refine⟨xT,fun l hl=>?_⟩;clear 1 l H4 g4 k4 hl;exact q l H4 (((g1.trans g2).trans g3).trans g4) (((g1.trans g2).trans g3).free hl) ⟨[t1,t2],k4,.cons (((g2.trans g3).trans g4).tp (SqT.of k1)) (.cons (g4.tp (SqT.of k3)) .nil)⟩
 |_=>cases hF
theorem lA{k:Nat}(F:Fun K "parted" "Nested.parted" yS f fd):j1 ["self"] (spP2 (j8 0) K Kd.isNest):=by
 w_cond lT;obtain⟨a,kd,sa,S,rfl,hF,hf,ho,hw,hg,q⟩:=h;refine⟨_,(jC (jI (qP uB rfl M.list boot_list (jA (kP (kP (pv 0) rfl) rfl) jB)))),?_⟩;cases id ho with
 | @nest a dx s i e h1 =>
  obtain⟨sh,hs,dx2,t,ps,k1,k2,k3⟩:=hw.at e;refine⟨_,rfl,a,Vb,_,_,_,rfl,h1,Ub.cl,Ub.nd,rfl,s,Ve,_,_,_,rfl,k1,Ue.cl,Ue.nd,rfl,t,_,rfl,.inr k2,fun l hl=>?_⟩;clear 1 l H1 g1 kl hl;refine q l H1 g1 hl ⟨ps,kl,by rw[vG hs];exact k3.len,fun j t ht=>?_⟩;rw[vG hs];obtain⟨nm,kd,k,h2,h3,h4⟩:=k3.get ht;have h5:=(h4.same g1).more (sa.drop i);rw[ky]at h5;exact⟨nm,kd,k,h2,g1.tp h3,h5⟩
 |_=>cases hF
theorem oV{k:Nat}(F:Fun K "parted" "Many.parted" aL f fd):j1 ["self"] (spP2 (j8 0) K Kd.isMany):=by
 w_cond rB;obtain⟨a,kd,sa,S,rfl,hF,hf,ho,hw,hg,q⟩:=h;refine⟨_,(jC (jI (kU ["number"] ["self"] [0] rfl (vI rfl M.range (jA (kP (pv 0) rfl) jB)) rfl ⟨rfl,trivial⟩ ⟨⟨rfl,rfl,rfl,_,rfl⟩,trivial⟩ (fun _ _ _ _=>(qD rfl)) (fun _ _ _ _=>kT) (fun _ _ _ _=>(kQ (jA (pv 0) (jA (iI (K:=K) rfl (pv 1) rfl) jB))))))),?_⟩;cases id ho with
 | @many a dx b n k h1 h2 =>
  have hn:n<=6:=hf.2.1;refine⟨_,rfl,a,Vc,_,_,_,rfl,h1,Uc.cl,Uc.nd,rfl,n,rfl,by omega,by omega,yE (n:=n) (fun j ys H'=>jJ H H'/\∃tt:List Addr,ys=tt.map V.ref/\tt.length=j/\∀(i:Nat) (t:Addr),tt[i]?=some t->SqT K H' t [.int i,.ref b]) ⟨jJ.refl _,[],rfl,rfl,fun i t e=>by simp at e⟩ (fun j ys H' _ z=>?_) (kL (by omega)) (fun j ys H' hj z=>?_) (fun ys H' z p hp=>?_)⟩
  ·obtain⟨_,tt,rfl,hl,_⟩:=z;rw[δ];omega
  ·obtain⟨g,tt,rfl,hl,hP⟩:=z;refine⟨_,rfl,_,rfl,a,Vc,_,_,_,rfl,g _ _ h1,Uc.cl,Uc.nd,rfl,xT,fun t ht=>?_⟩;clear 1 t H1 g1 k1 ht;refine⟨⟨g.trans g1,tt++[t],by rw[ρ];rfl,by rw[ν,hl];rfl,fun i u e=>?_⟩,_,rfl⟩;rcases bE e with e|⟨rfl,rfl⟩
   ·exact g1.tp (hP i u e)
   ·rw[hl];rw[qu]at k1;exact SqT.of k1
  ·obtain⟨g,tt,rfl,hl,hP⟩:=z;clear 1 p H1 g1 k1 hp;refine q p H1 (g.trans g1) (g.free hp) ⟨tt,k1,by show tt.length=((ir n).map _).length;rw[hl,δ,jx],fun i t e=>?_⟩;have hi:i<n:=by rw[←hl];exact(ε.mp e).1
   refine⟨η (toString i),k,b,?_,g1.tp (hP i t e),h2.same (g.trans g1)⟩;show((ir n).map _)[i]?=_;rw[υ,nr hi];rfl
 |_=>cases hF
theorem bC{k r:Nat}{FF:Kd->Bool}(hFF:∀k,FF k=true->(∃i,k=.nest i)\/∃n q,k=.many n q)(F:Fun K "units_at" "Kind.units_at" yQ f fd)(gm:∀C sp,TPt2 (j8 0) K C sp->xE P w K mg base CX0 k "parted" C sp)(bx:∀C sp,TU (j8 0) K r C sp->xE P w K mg base CX0 k "units_at" C sp)(cq:j4 "joined" nY):j1 ["self","path"] (spU (j8 0) K (r+1) FF):=by
 w_cond xD;obtain⟨a,p,kd,sa,S,rfl,hp,hF,hk,hf,ho,hw,hg,q⟩:=h;refine⟨_,(jE (jR 2 xD.nd (qT jB)) (jE (qZ iy rfl (qK (xB (pv 0) gm hr qR)) (xL rfl (kH (kN 3 xD.nd) (kH (kN 4 xD.nd) qQ))) (jC (vM (aC li PySem.F.slot_list_extend PySem.F.type_list_extend aIy (pv 2) (jA (iM (pv 4) bx hr qR (jA (jF cq hr (jA (pv 1) (jA (pv 3) jB))) jB)) jB))))) (jC (jI (pv 2))))),?_⟩;refine⟨lZ,fun l hl=>?_⟩;generalize e1:upd H l _=H1;obtain⟨g1,k1⟩:=kY e1 hl;refine⟨_,rfl,aRf (aAr (by simp)) (hFF kd hF) hf (ho.same g1) (hw.same g1) hg fun l2 H2 g2 hl2 zq=>?_⟩;obtain⟨tt,k2,zl,pr⟩:=zq;have kl2:=g2 _ _ k1;have n2:l2≠l:=lm (jS k1 hl2);have hw2:=hw.same (g1.trans g2);have bd:=Kd.size_bd hg.sz (by decide) hf;have lens:∀j,(((kd.parts S).take j).flatMap fun f=>un f.2 S (pj p f.1)).length<=6000:=fun j=>by
  have h1:(un kd S p).length<=_:=(hg.kd hf).2 p;rw[Kd.parts_un hg hf (hFF kd hF)]at h1
  conv at h1=>lhs;rw[←ky j (kd.parts S)]
  rw[ot,ν]at h1;omega
 refine⟨l2,rfl,⟨_,SqL.of k2⟩,xI (xs:=tt.map V.ref) (fun j σ H'=>∃o3 o4,σ = [some (.ref a),some (.str p),some (.ref l),o3,o4]/\But l H2 H'/\UL K H' l (((kd.parts S).take j).flatMap fun f=>un f.2 S (pj p f.1))) ⟨_,_,rfl,But.refl,[],kl2,.nil⟩ (fun j σ H' _ z=>?_) (fun j x σ H' hx z=>?_) (fun σ H' z=>?_)⟩
 ·obtain⟨o3,o4,rfl,g,_⟩:=z;exact SqL.of (g _ _ n2 k2)
 ·obtain⟨o3,o4,rfl,g,us,ku,ur⟩:=z;obtain⟨t,ht,rfl⟩:=qF hx;obtain⟨y,kd',kk,hps,hq,hko⟩:=pr _ _ ht;have hx':=aSa hf hps;obtain⟨p1,p2,p3,p4⟩:=Kd.parts_ok hg hf hk (ι hps);obtain⟨C',dx',fs',sp',m1,m2,m3,m4⟩:=kdU (aAr (m:="units_at") (by simp)) p1 p2 (hko.but g kl2) (hw2.but g kl2) hg;have hyl:(pj p y).length<=p.length+7:=by
   have e1:(η ".").length=1:=rfl;have p4':y.length<=6:=p4;unfold pj
   split
   ·omega
   ·rw[kj,kj];omega
  refine⟨t,_,rfl,g.tup kl2 hq,rfl,_,_,rfl,_,_,rfl,rfl,_,rfl,.inl ⟨rfl,_,SqL.of ku⟩,_,rfl,kk,C',dx',fs',sp',rfl,m1,m2,m3,_,rfl,_,rfl,p,_,y,rfl,hx',(by omega),(by have p4':y.length<=6:=p4;omega),m4 _ _ _ (by omega) fun l3 H3 g3 hl3 zq=>?_⟩;obtain⟨us3,k3,ur3⟩:=zq;have ku3:=g3 _ _ ku;have h6:=lens (j+1);rw[eU hps,ν,←ur.len,←ur3.len]at h6;refine⟨l,l3,_,_,rfl,rfl,ku3,k3,(by rw[il,δ,δ];omega),?_⟩;clear 0 l H4 g4 k4;refine⟨_,_,rfl,(g.trans (But.of g3)).trans g4,us++us3,by rw[ρ];exact k4,?_⟩;rw[eU hps];exact((ur.same g3).but g4 ku3).app (ur3.but g4 ku3)
 ·obtain⟨o3,o4,rfl,g,u⟩:=z;rw[δ,zl,kM]at u;refine⟨_,rfl,q l H' (But.from (g1.trans g2) hl g) hl ?_⟩;rw[Kd.parts_un hg hf (hFF kd hF)];exact u
theorem oK(F:Fun K "units" "Shape.units" aM f fd)(ac:j5 cIv (tP Vb "shape"))(bx:∀C sp,TU (j8 0) K r C sp->xE P w K mg base CX0 k "units_at" C sp):j1 ["self"] (aPv (j8 0) K r):=by
 w_cond oS;obtain⟨a,i,sa,S,rfl,e,hi,h8,hw,hg,q⟩:=h;refine⟨_,(jC (jI (iM (yW Ub ac hr0 rfl qR (jA (pv 0) jB)) bx hr qR (jA jO jB)))),?_⟩;refine⟨_,rfl,fun x dx hx hdx _=>⟨x,dx,.ref a,H,rfl,jT,cN hx hdx,hx,fun H1 g1 k1=>⟨rfl,?_⟩⟩⟩;have hil:i<S.length:=by rw[←hw.1];exact(ε.mp e).1
 obtain⟨C',dx',fs',sp',m1,m2,m3,m4⟩:=kdU (kd:=.nest i) (r:=r) (aAr (m:="units_at") (by simp)) hi hil (.nest e k1) (hw.same g1) hg;exact⟨x,C',dx',fs',sp',rfl,m1,m2,m3,m4 _ _ _ (by show 0+8*r<=200;omega) fun l H2 g2 hl u=>q l H2 (g1.trans g2) (g1.free hl) u⟩
theorem rQ{k:Nat}(F:Fun K "__init__" "Shape.__init__" bK f fd):j1 ["self","name","fields"] (aKr (j8 0) K):=by
 w_cond sF;obtain⟨a,dx,fl,nm,ps,fs,sa,H1,rfl,hA,g,h0,hl,hP,hn,q⟩:=h;refine⟨_,(jE (dE (pv 0) (pv 1) rfl) (jC (dE (pv 0) (qP yM rfl M.tuple qy (jA (kU ["field","kind"] [] [] rfl (aQx (pv 2)) rfl trivial trivial (fun _ _ _ _=>(zW (K:=K) (n:=2) rfl rfl (kH (qD rfl) (kH (dP rfl) qQ)))) (fun _ _ _ _=>kT) (fun _ _ _ _=>(kQ (jA (pv 0) (jA (pv 1) jB))))) jB)) rfl))),?_⟩;refine⟨_,rfl,_,rfl,a,Ve,dx,[],rfl,hA,Ue.cl,Ue.nd,by decide,?_⟩;have ga:jJ H1 (upd H a (.ins Ve dx (bR "name" (.str nm) []))):=g.putn h0;have ka:upd H a (.ins Ve dx (bR "name" (.str nm) [])) a=some (.ins Ve dx [("name",.str nm)]):=jT;generalize upd H a (.ins Ve dx (bR "name" (.str nm) []))=H2 at ga ka;have zl:(ps.map V.ref).length=fs.length:=by rw[δ];exact hP.len
 have turn:∀(j:Nat) (x:V) (ys:List V) (H':Hp) (Pv:Nat->List V->Hp->Prop),Pv=(fun j ys H'=>jJ H2 H'/\∃tt:List Addr,ys=tt.map V.ref/\tt.length=j/\FO (j8 0) K H' sa tt (fs.take j))->(ps.map V.ref)[j]?=some x->Pv j ys H'->∃t nm kk,x=.ref t/\SqT K H' t [.str nm,.ref kk]/\∀u,H' u=none->Pv (j+1) (ys++[.ref u]) (upd H' u (.tup [.str nm,.ref kk])):=by
  intro j x ys H' Pv eP hx z;subst eP;obtain⟨g2,tt,rfl,htl,hF⟩:=z;obtain⟨t,ht,rfl⟩:=qF hx;obtain⟨nm',kd,kk,hfs,hq,hko⟩:=hP.get ht;refine⟨t,nm',kk,rfl,g2.tp (ga.tp hq),fun u hu=>?_⟩;generalize e3:upd H' u _=H3;obtain⟨g3,k3⟩:=kY e3 hu;refine⟨g2.trans g3,tt++[u],by rw[ρ];rfl,by rw[ν,htl];rfl,?_⟩;have:=(hF.same g3).snoc (SqT.of k3) (hko.same ((ga.trans g2).trans g3));rw[jq,hfs];exact this
 have fin:∀(ys:List V) (H':Hp),(jJ H2 H'/\∃tt:List Addr,ys=tt.map V.ref/\tt.length=(ps.map V.ref).length/\FO (j8 0) K H' sa tt (fs.take (ps.map V.ref).length))->∀p,H' p=none->∀t,upd H' p (.lst ys) t=none->Q .non (upd (upd (upd H' p (.lst ys)) t (.tup ys)) a (.ins Ve dx [("name",.str nm),("fields",.ref t)])):=by
  intro ys H' z p hp t ht;obtain⟨g2,tt,rfl,htl,hF⟩:=z;generalize e3:upd H' p _=H3 at ht;obtain⟨g3,k3⟩:=kY e3 hp;clear 1 t H4 g4 k4 ht;have ka4:H4 a=_:=(g2.trans g3 |>.trans g4) _ _ ka;rw[zl,kM]at hF;have G:jJ H1 (upd H4 a (.ins Ve dx [("name",.str nm),("fields",.ref t)])):=(((ga.trans g2).trans g3).trans g4).putn h0;have nta:t≠a:=lm (jS ((g2.trans g3) _ _ ka) ht);refine q t tt _ G jT (SqT.of (by rw[kF nta];exact k4)) ?_;exact FO.insD (hF.same (g3.trans g4)) ka4
 have st:jJ H2 H2/\∃tt:List Addr,([]:List V)=tt.map V.ref/\tt.length=0/\FO (j8 0) K H2 sa tt (fs.take 0):=⟨jJ.refl _,[],rfl,rfl,by rw[List.take_zero];exact .nil⟩;have lst:∀(H':Hp) (p t:Addr) (ys:List V),(jJ H2 H'/\∃tt:List Addr,ys=tt.map V.ref/\tt.length=(ps.map V.ref).length/\FO (j8 0) K H' sa tt (fs.take (ps.map V.ref).length))->H' p=none->upd H' p (.lst ys) t=none->upd (upd H' p (.lst ys)) t (.tup ys) a=some (.ins Ve dx [("name",.str nm)]):=fun H' p t ys z hp ht=>(vP ht _) _ _ ((vP hp _) _ _ (z.1 _ _ ka));refine⟨_,rfl,fl,rfl,?_⟩;rcases hl with hl|hl
 ·refine .inl ⟨⟨_,ga.seq hl⟩,fG (xs:=ps.map V.ref) (fun j ys H'=>jJ H2 H'/\∃tt:List Addr,ys=tt.map V.ref/\tt.length=j/\FO (j8 0) K H' sa tt (fs.take j)) st (fun j ys H' _ z=>⟨z.1.seq (ga.seq hl),by obtain⟨_,tt,rfl,hl,_⟩:=z;rw[δ];omega⟩) (kL (by omega)) (fun j x ys H' os ho hx z=>?_) (fun ys H' z p hp=>⟨p,ys,rfl,.inl ⟨SqL.of jT,fun t ht=>⟨_,rfl,a,Ve,dx,_,rfl,lst H' p t ys z hp ht,Ue.cl,Ue.nd,(by show 1<1000;decide),fin ys H' z p hp t ht⟩⟩⟩)⟩;obtain⟨o1,o2,rfl⟩:=uS ho;obtain⟨t,nm',kk,rfl,hq,nxt⟩:=turn j x ys H' _ rfl hx z;exact⟨t,_,rfl,hq,rfl,_,_,rfl,_,_,rfl,rfl,_,rfl,_,rfl,xT,fun u hu=>⟨nxt u hu,[_,_],rfl,rfl⟩⟩
 ·refine .inr ⟨⟨_,ga.tp hl⟩,zH (xs:=ps.map V.ref) (fun j ys H'=>jJ H2 H'/\∃tt:List Addr,ys=tt.map V.ref/\tt.length=j/\FO (j8 0) K H' sa tt (fs.take j)) st (fun j ys H' _ z=>⟨z.1.tp (ga.tp hl),by obtain⟨_,tt,rfl,hl,_⟩:=z;rw[δ];omega⟩) (kL (by omega)) (fun j x ys H' os ho hx z=>?_) (fun ys H' z p hp=>⟨p,ys,rfl,.inl ⟨SqL.of jT,fun t ht=>⟨_,rfl,a,Ve,dx,_,rfl,lst H' p t ys z hp ht,Ue.cl,Ue.nd,(by show 1<1000;decide),fin ys H' z p hp t ht⟩⟩⟩)⟩;obtain⟨o1,o2,rfl⟩:=uS ho;obtain⟨t,nm',kk,rfl,hq,nxt⟩:=turn j x ys H' _ rfl hx z;exact⟨t,_,rfl,hq,rfl,_,_,rfl,_,_,rfl,rfl,_,rfl,_,rfl,xT,fun u hu=>⟨nxt u hu,[_,_],rfl,rfl⟩⟩
theorem uY(F:Fun K "is_single" "is_single" dZ f fd)(bz:j4 "number_in" (fT K))(ah:j4 "is_name" (aX K)):j1 ["words"] (spSg K):=by
 w_cond wN;obtain⟨a,ws,rfl,hl,hs,q⟩:=h;refine⟨_,(jE (jV (jP kS (jG jX (pv 0) jD) jO) (jC (jI (vY (vC kS (jN kI rfl M.len jh (jA (pv 0) jB)) jD (vX _)) (xP (vC nW (jF bz hr (jA (jG jX (pv 0) jD) (jA jD (jA (vD (v:=.int 4) rfl C.MOST_WIDTH ⟨_,rfl⟩) jB)))) vA (vX _)))))) jL) (jC (jI (vY (vC kS (jN kI rfl M.len jh (jA (pv 0) jB)) jD (vX _)) (xP (jF ah hr (jA (jG jX (pv 0) jD) jB))))))),?_⟩;rcases hs with⟨w,w1,w4,rfl⟩|⟨x,hx,rfl⟩
 ·obtain⟨d1,d2,d3,_⟩:=dig (w:=w) (by omega);refine⟨_,rfl,a,_,_,_,rfl,rfl,hl,rfl,rfl,_,rfl,kO ⟨_,rfl,a,_,rfl,.inl hl,rfl,_,rfl,vZ (by simp) ⟨_,rfl,a,_,_,_,rfl,rfl,hl,rfl,.str _,1,4,rfl,.inl ⟨_,rfl,by omega,fun H1 g1=>⟨rfl,?_⟩⟩⟩⟩⟩;rw[d1,show cL (some (w:Int)) 1 4=some (w:Int) from if_pos ⟨by omega,by omega⟩];exact q H1 g1
 ·have hne:=bZ hx (y:="num") (by decide);refine⟨_,rfl,a,_,_,_,rfl,rfl,hl,rfl,rfl,_,rfl,qO (by simpa using hne) ⟨_,rfl,a,_,rfl,.inl hl,rfl,_,rfl,vZ (by simp) ⟨_,rfl,a,_,_,_,rfl,rfl,hl,rfl,.str x,rfl,.inl ⟨x,rfl,by have:=(vQ hx).2;omega,fun H1 g1=>?_⟩⟩⟩⟩;rw[hx];exact q H1 g1
theorem aEr(F:Fun K "is_kind" "is_kind" mF f fd)(bz:j4 "number_in" (fT K))(cm:j4 "is_single" (spSg K))(ah:j4 "is_name" (aX K)):j1 ["words"] (spKd K):=by
 w_cond aEc;obtain⟨a,nm,n,kd,rfl,hl,hf,hn,q⟩:=h;refine⟨_,(jE (jV (jP kS (jG jX (pv 0) jD) jO) (jC (jI (vY (vC cQ (jN kI rfl M.len jh (jA (pv 0) jB)) jD (vX _)) (vY (vC nW (jF bz hr (jA (jG jX (pv 0) jD) (jA jD (jA (vD (v:=.int 6) rfl C.MOST_COUNT ⟨_,rfl⟩) jB)))) vA (vX _)) (xP (jF cm hr (jA (qX xX (pv 0) (vN jD) vO) jB))))))) jL) (jE (jV (jP kS (jG jX (pv 0) jD) jO) (jC (jI (vY (aDv iB iB (vD (v:=.int 2) rfl C.LEAST_PICKED ⟨_,rfl⟩) (jW yR (jN kI rfl M.len jh (jA (pv 0) jB)) jD) (vD (v:=.int 4) rfl C.MOST_PICKED ⟨_,rfl⟩)) (xP (jN (dI rfl) rfl M.all boot_all (jA (kU ["word"] [] [] rfl (qK (qX xX (pv 0) (vN jD) vO)) rfl trivial trivial (fun _ _ _ _=>(qD rfl)) (fun _ _ _ _=>kT) (fun _ _ _ _=>(jF ah hr (jA (pv 0) jB)))) jB)))))) jL) (jC (jI (jF cm hr (jA (pv 0) jB)))))),?_⟩;cases kd with
 |num w=>exact⟨_,rfl,a,_,_,_,rfl,rfl,hl,rfl,rfl,_,rfl,jU ⟨_,rfl,a,_,_,_,rfl,rfl,hl,rfl,rfl,_,rfl,jU ⟨_,rfl,a,_,rfl,hl,.inl ⟨w,hf.1,hf.2,rfl⟩,q⟩⟩⟩
 |nest i =>
  have hx:=hn i hf;have h1:=bZ hx (y:="row") (by decide);have h2:=bZ hx (y:="pick") (by decide);exact⟨_,rfl,a,_,_,_,rfl,rfl,hl,rfl,rfl,_,rfl,qO (by simpa using h1) ⟨_,rfl,a,_,_,_,rfl,rfl,hl,rfl,rfl,_,rfl,qO (by simpa using h2) ⟨_,rfl,a,_,rfl,hl,.inr ⟨_,hx,rfl⟩,q⟩⟩⟩
 |many m k =>
  have hm:=hf.2.1;have hm1:=hf.1;obtain⟨d1,d2,d3,_⟩:=dig (w:=m) (by omega);have hne:=Kd.words_ne nm k;have h0 : 0<(k.words nm).length:=rg.mpr hne;have hl':SqL K H a (V.str (η "row")::V.str (η (toString (m:Int)))::(k.words nm).map V.str):=hl;refine⟨_,rfl,a,_,_,_,rfl,rfl,hl',at0,rfl,_,rfl,kO ⟨_,rfl,a,_,rfl,.inl hl',_,_,rfl,rfl,_,rfl,vZ (by simp;omega) ⟨_,rfl,a,_,_,_,rfl,rfl,hl',at1,.str _,1,6,rfl,.inl ⟨_,rfl,by omega,fun H1 g1=>⟨rfl,_,rfl,?_⟩⟩⟩⟩⟩;rw[d1,show cL (some (m:Int)) 1 6=some (m:Int) from if_pos ⟨by omega,by omega⟩];refine vZ (by rfl) ⟨_,rfl,_,rfl,a,_,rfl,g1.seq hl,fun p hp=>?_⟩;rw[show yN ((Kd.words nm (.many m k)).map V.str) (some 2) none=(k.words nm).map V.str from aPg _ _ _];clear 1 p H2 g2 k2 hp;refine⟨p,k.words nm,rfl,SqL.of k2,?_,fun H3 g3=>q H3 ((g1.trans g2).trans g3)⟩;rcases hf.2.2 with⟨w,rfl,hw⟩|⟨i,rfl,hi⟩
  ·exact .inl ⟨w,hw.1,hw.2,rfl⟩
  ·exact .inr ⟨_,hn i hi,rfl⟩
 |pick is =>
  have h1:=hf.1;have h2:=hf.2.1;have hl':SqL K H a (V.str (η "pick")::(is.map nm).map V.str):=hl;have zl:((is.map nm).map V.str).length=is.length:=by rw[δ,δ]
  refine⟨_,rfl,a,_,_,_,rfl,rfl,hl',at0,rfl,_,rfl,jU ⟨_,rfl,a,_,_,_,rfl,rfl,hl',at0,rfl,_,rfl,kO ⟨_,rfl,a,_,rfl,.inl hl',_,_,rfl,rfl,_,_,rfl,rfl,_,rfl,vZ (by simp;omega) ⟨_,_,rfl,rfl,_,rfl,vZ (by simp;omega) ⟨_,rfl,_,rfl,a,_,rfl,hl',fun p hp=>?_⟩⟩⟩⟩⟩;rw[aCw];clear 1 p H2 g2 k2 hp;refine⟨p,rfl,⟨_,SqL.of k2⟩,vV (xs:=(is.map nm).map V.str) (fun j ys H'=>jJ H2 H'/\ys=((is.take j).map fun _=>true).map V.bl) ⟨jJ.refl _,rfl⟩ (fun j ys H' _ z=>⟨z.1.seq (SqL.of k2),by rw[z.2,δ,δ,ib];exact jy _ _⟩) (kL (by omega)) (fun j x ys H' hx z=>?_) (fun ys H' z p hp=>?_)⟩
  ·obtain⟨g,rfl⟩:=z;obtain⟨y,hy,rfl⟩:=zK hx;rw[υ]at hy;cases e:is[j]? with
   |none=>rw[e]at hy;cases hy
   |some i =>
    rw[e]at hy;cases hy;have hx:=hn i (hf.2.2.2 i (ι e));refine⟨_,rfl,.str (nm i),rfl,.inl ⟨_,rfl,by have:=(vQ hx).2;omega,fun H3 g3=>⟨⟨g.trans g3,?_⟩,_,rfl⟩⟩⟩;rw[qV e,hx,ρ];rfl
  ·obtain⟨g,rfl⟩:=z;have g3:=vP hp (.lst (((is.take ((is.map nm).map V.str).length).map fun _=>true).map V.bl));refine⟨p,_,rfl,SqL.of jT,?_⟩;rw[show((is.take ((is.map nm).map V.str).length).map fun _=>true).all id=true from jm.mpr fun b hb=>by obtain⟨_,_,rfl⟩:=iw.mp hb;rfl];exact q _ ((g2.trans g).trans g3)
theorem mC(F:Fun K "is_field_line" "is_field_line" yZ f fd)(ah:j4 "is_name" (aX K))(gn:j4 "is_kind" (spKd K)):j1 ["words"] (spFl K):=by
 w_cond lY;obtain⟨a,nm,n,kd,fn,rfl,hl,hfn,hf,hn,q⟩:=h;refine⟨_,(jC (jI (vY (vC cQ (jN kI rfl M.len jh (jA (pv 0) jB)) jD (vX _)) (vY (jF ah hr (jA (jG jX (pv 0) jD) jB)) (xP (jF gn hr (jA (qX xX (pv 0) (vN jD) vO) jB))))))),?_⟩;have h0 : 0<(kd.words nm).length:=rg.mpr (Kd.words_ne nm kd);refine⟨_,rfl,a,_,rfl,.inl hl,_,_,rfl,rfl,_,rfl,vZ (by simp;omega) ⟨_,rfl,a,_,_,_,rfl,rfl,hl,at0,.str fn,rfl,.inl ⟨fn,rfl,by have:=(vQ hfn).2;omega,fun H1 g1=>⟨_,rfl,vZ hfn ⟨_,rfl,_,rfl,a,_,rfl,g1.seq hl,fun p hp=>?_⟩⟩⟩⟩⟩;rw[show yN ((fn::kd.words nm).map V.str) (some 1) none=(kd.words nm).map V.str from aCw _ _];clear 1 p H2 g2 k2 hp;exact⟨p,nm,n,kd,rfl,SqL.of k2,hf,hn,fun H3 g3=>q H3 ((g1.trans g2).trans g3)⟩
theorem nL(F:Fun K "shapes_named" "shapes_named" zL f fd)(ah:j4 "is_name" (aX K)):j1 ["words"] (aHo K):=by
 w_cond nE;obtain⟨a,nm,n,kd,fn,rfl,hl,hf,hn,q⟩:=h;refine⟨_,(jC (jI (kU ["word"] [] [] rfl (qK (qX xX (pv 0) (vN jD) vO)) rfl trivial trivial (fun _ _ _ _=>(qD rfl)) (fun _ _ _ _=>(aNi (kR (jF ah hr (jA (pv 0) jB))))) (fun _ _ _ _=>(pv 0))))),?_⟩;obtain⟨w6,w5⟩:=aW hn hf;refine⟨_,rfl,_,rfl,a,_,rfl,hl,fun p hp=>?_⟩;rw[show yN ((fn::kd.words nm).map V.str) (some 1) none=(kd.words nm).map V.str from aCw _ _];clear 1 p H2 g2 k2 hp;refine⟨p,rfl,⟨_,SqL.of k2⟩,vV (xs:=(kd.words nm).map V.str) (fun j ys H'=>jJ H2 H'/\ys=(((kd.words nm).take j).filter qA).map V.str) ⟨jJ.refl _,rfl⟩ (fun j ys H' hj z=>⟨z.1.seq (SqL.of k2),?_⟩) (kL (by rw[δ];omega)) (fun j x ys H' hx z=>?_) (fun ys H' z l hl=>?_)⟩
 ·rw[z.2,δ];refine iq (List.length_filter_le ..) ?_;rw[ib];exact jy _ _
 ·obtain⟨g,rfl⟩:=z;obtain⟨y,hy,rfl⟩:=zK hx;have hy6:=w6 y (ι hy);refine⟨_,rfl,.str y,rfl,.inl ⟨_,rfl,by omega,fun H3 g3=>⟨_,rfl,xG (fun c=>⟨_,rfl,⟨g.trans g3,?_⟩,_,rfl⟩) (fun c=>⟨⟨g.trans g3,?_⟩,_,rfl⟩)⟩⟩⟩
  ·rw[sZ hy,if_pos c,ρ];rfl
  ·rw[sZ hy,if_neg c,ly]
 ·obtain⟨g,rfl⟩:=z;clear 1 l H3 g3 k3 hl;rw[δ,kM,tT hn hf]at k3;exact q l H3 ((g2.trans g).trans g3) ((g2.trans g).free hl) k3
theorem rK{k:Nat}(F:Fun K "_law_joined" "_law_joined" bG f fd):j1 ["_law_path","_law_step"] spLJ:=by
 w_cond rY;obtain⟨p,y,rfl,hp,hy,hy1,q⟩:=h;refine⟨_,(jC (jI (jW qW (jW qW (pv 0) (jW aNk jO (qP mH rfl M.int boot_int (jA (vY (vC yB (pv 0) jO (vX _)) (xP (vC yB (pv 1) jO (vX _)))) jB)))) (pv 1)))),?_⟩;have hye:¬ y=η "":=fun z=>by rw[z]at hy1;exact absurd hy1 (by decide)
 have hd:(η ".").length=1:=rfl;refine⟨_,rfl,_,rfl,rfl,_,rfl,xG (fun c=>?_) (fun c=>?_)⟩
 ·have hpe:¬ p.length=0:=fun z=>by
   have e:p=η "":=Str.ext' (by rw[show p.cps = #[] from Array.eq_empty_of_size_eq_zero z];rfl);rw[e]at c;exact absurd c (by decide)
  refine⟨_,rfl,rfl,_,rfl,_,_,rfl,rfl,?_⟩;rw[show(!decide (V.str y=V.str (η "")))=true by simpa using hye];refine⟨.inr rfl,by decide,_,_,rfl,rfl,(by rw[il,if_pos rfl,if_pos rfl,hd];omega),_,rfl,_,_,rfl,rfl,(by rw[il,if_pos rfl,if_pos rfl,kj,hd];omega),?_⟩;rw[if_pos rfl,if_pos rfl];unfold pj at q;rw[if_neg hpe]at q;exact q
 ·have hp0:p=η "":=by simpa using c
  subst hp0;refine⟨_,rfl,_,_,rfl,rfl,.inl rfl,by decide,_,_,rfl,rfl,(by decide),_,rfl,_,_,rfl,rfl,(by rw[il,kj];simp only[uz,if_false];rw[if_neg (by decide)];show 0+0+y.length<=_;omega),?_⟩;unfold pj at q;rw[if_pos (by decide)]at q;simp only[uz,if_false];rw[if_neg (by decide),show η "" = Str.empty from rfl,cE,cE];exact q
theorem iC{k:Nat}(F:Fun K "need_new_shape" "need_new_shape" yH f fd):j1 ["told","line","name"] (aPw (j8 0) K):=by
 w_cond iQ;obtain⟨tl,x,nm,sa,T,rfl,hl,hw,hne,hnm,hlen,q⟩:=h;refine⟨_,(jE (jV (PW.pt (zJ (dS (pv 0) (fun _=>rfl)) (yJ (vL (dS (kP (jG jX (pv 0) (eB zS jD)) rfl) (fun _=>rfl)))))) (jC qY) jL) (jE (jV (nT lO (pv 2) (kU ["shape"] [] [] rfl (qK (pv 0)) rfl trivial trivial (fun _ _ _ _=>(qD rfl)) (fun _ _ _ _=>kT) (fun _ _ _ _=>(iI (K:=K) rfl (pv 0) rfl))) (by with_unfolding_all rfl)) (jC qY) jL) (jC (jV (jP kS (jN kI rfl M.len jh (jA (pv 0) jB)) (vD (v:=.int 8) rfl C.MOST_SHAPES ⟨_,rfl⟩)) (jC qY) jL)))),?_⟩;have zl:(sa.map V.ref).length=T.length:=by rw[δ];exact hw.1
 refine aGc (fun σ' H'=>σ'=[some (.ref tl),some x,some (.str nm)]/\H'=H) (fun σ' H' z=>?_) (fun nx hnx=>?_)
 ·obtain⟨rfl,rfl⟩:=z;refine⟨_,rfl,_,rfl,tl,rfl,⟨_,SqL.of hl⟩,vV (xs:=sa.map V.ref) (fun j ys H2=>H2=H'/\ys=((T.take j).map (·.1)).map V.str) ⟨rfl,rfl⟩ (fun j ys H2 _ z=>⟨by rw[z.1];exact SqL.of hl,by rw[z.2,δ,δ,ib];exact jy _ _⟩) (kL (by omega)) (fun j x ys H2 hx z=>?_) (fun ys H2 z p hp=>?_)⟩
  ·obtain⟨rfl,rfl⟩:=z;obtain⟨s,hs,rfl⟩:=qF hx;obtain⟨sh,hS,dx,t,ps,k1,_⟩:=hw.at hs;refine⟨_,rfl,s,Ve,_,_,_,rfl,k1,Ue.cl,Ue.nd,rfl,⟨rfl,?_⟩,_,rfl⟩;rw[qV hS,ρ];rfl
  ·obtain⟨rfl,rfl⟩:=z;clear 1 p H3 g3 k3 hp;refine⟨p,_,rfl,.inl (SqL.of k3),rfl,eO _,_,rfl,?_⟩;rw[if_neg π,iT,zl,kM];refine qO (by rw[decide_eq_false hnm];decide) ⟨_,rfl,tl,_,rfl,.inl (SqL.of (g3 _ _ hl)),rfl,_,rfl,qO (by rw[zl];simp;omega) (q H3 g3)⟩
 ·rcases vo sa with rfl|⟨sa0,z,rfl⟩
  ·exact⟨_,rfl,false,.inl ⟨_,SqL.of hl,rfl⟩,jU (jU (hnx _ _ ⟨rfl,rfl⟩))⟩
  ·rw[vp]at *;obtain⟨s,hS,so⟩:=hw.at (i:=sa0.length) (a:=z) (by rw[ic (ξ _),mr];rfl);obtain⟨dx,t,ps,k1,k2,k3⟩:=so;have hp:ps≠[]:=fun e=>hne s (ι hS) (rp.mp (by rw[←k3.len,e];rfl));exact⟨_,rfl,true,.inl ⟨_,SqL.of hl,by simp⟩,vZ rfl ⟨_,rfl,_,rfl,tl,_,_,_,rfl,rfl,SqL.of hl,aZ _ _,z,Ve,_,_,_,rfl,k1,Ue.cl,Ue.nd,rfl,true,.inr (.inl ⟨_,k2,by cases ps with|nil=>exact absurd rfl hp|cons _ _=>rfl⟩),jU (hnx _ _ ⟨rfl,rfl⟩)⟩⟩
theorem mZ{k:Nat}(F:Fun K "whole_shapes" "whole_shapes" zM f fd):j1 ["told"] (spWh (j8 0) K):=by
 w_cond nF;obtain⟨tl,z,sa,T,s,rfl,hl,hw,hnd,hlen,q⟩:=h;refine⟨_,(jC (jI (aCs ["shape"] [] [] rfl (qK (qX xX (pv 0) vO (vN (eB zS jD)))) rfl trivial trivial (fun _ _ _ _=>(qD rfl)) (fun _ _ _ _=>kT) (fun _ _ _ _=>(iI (K:=K) rfl (pv 0) rfl)) (fun _ _ _ _=>(pv 0))))),?_⟩;obtain⟨hw0,_⟩:=hw.init;have zl:(sa.map V.ref).length=T.length:=by rw[δ];exact hw0.1
 refine⟨_,rfl,_,rfl,_,rfl,tl,_,rfl,SqL.of hl,fun p hp=>?_⟩;rw[cutC];generalize e2:upd H p _=H2;obtain⟨g2,k2⟩:=kY e2 hp;refine⟨p,rfl,⟨_,SqL.of k2⟩,aFd (xs:=sa.map V.ref) (fun D j ys H'=>jJ H2 H'/\H2 D=none/\H' D=some (.dK ys)/\ys=dk (T.take j) (sa.take j)) (fun D hD=>⟨(jJ.refl H2).putn hD,hD,jT,rfl⟩) (fun D j ys H' _ z=>z.1.seq (SqL.of k2)) (fun D j x ys H' hx z=>?_) (fun D ys H' z=>?_)⟩
 ·obtain⟨g,hD,kD,rfl⟩:=z;obtain⟨a,ha,rfl⟩:=qF hx;obtain⟨sh,hS,dx,t,ps,k1,_⟩:=hw0.at ha;have hj:=(ε.mp hS).1;have hnk:∀x∈dk (T.take j) (sa.take j),x.1≠(.inr sh.1:Key):=fun x hx e=>by
   obtain⟨u,hu,eu⟩:=aOc x hx;obtain⟨i,hi⟩:=jd.mp hu;have hij:i<j:=by have:=(ε.mp hi).1;rw[ib]at this;omega
   rw[pe hij]at hi;have e2:kK T i=kK T j:=by rw[vJ hi,vJ hS];exact ol.inj (eu.symm.trans e)
   have:=aJy hnd (ε.mp hi).1 hj e2;omega
  refine⟨_,rfl,a,Ve,_,_,_,rfl,g _ _ (g2 _ _ k1),Ue.cl,Ue.nd,rfl,_,rfl,.inr sh.1,rfl,kD,?_,?_⟩
  ·have:(dk (T.take j) (sa.take j)).length<=100:=by unfold dk;rw[List.length_zipWith,ib];omega
   exact kn this (by decide)
  ·rw[lM hnk];exact⟨⟨g.putn hD,hD,jT,(aNs hS ha).symm⟩,_,rfl⟩
 ·obtain⟨g,hD,kD,rfl⟩:=z;rw[zl,kM,←hw0.1,kM]at kD;exact q D H' (g2.trans g) (g2.free hD) kD
theorem rW(F:Fun K "need_field" "need_field" cI f fd)(cu:j4 "is_field_line" (spFl K))(cw:j4 "shapes_named" (aHo K))(bg:j4 "whole_shapes" (spWh (j8 0) K)):j1 ["told","line","words"] (spNF (j8 0) K):=by
 w_cond xH;obtain⟨tl,a,z,x,sa,T,s,fn,kd,rfl,hl,hw,hws,hfn,hnew,hs100,hf,hn,hnd,hlen,q⟩:=h;refine⟨_,(jE (jV (PW.pt (yP (vL (dS (pv 0) (fun _=>rfl))) (yA (vL (kR (jF cu hr (jA (pv 2) jB))))))) (jC qY) jL) (jE (jV (nT lO (jG jX (pv 2) jD) (kU ["name","kind"] [] [] rfl (xQ (kP (jG jX (pv 0) (eB zS jD)) rfl)) rfl trivial trivial (fun _ _ _ _=>(zW (K:=K) (n:=2) rfl rfl (kH (qD rfl) (kH (dP rfl) qQ)))) (fun _ _ _ _=>kT) (fun _ _ _ _=>(pv 0))) (by with_unfolding_all rfl)) (jC qY) jL) (jE (jR 3 xH.nd (jF cw hr (jA (pv 2) jB))) (jE (qZ iy rfl (aGi rfl M.enumerate (jA (pv 3) jB)) (xL rfl (kH (kN 4 xH.nd) (kH (kN 5 xH.nd) qQ))) (jC (jV (nT lO (pv 5) (qX xX (pv 3) vO (vN (pv 4))) (by with_unfolding_all rfl)) (jC qY) jL))) (jC (qZ iy rfl (qK (pv 3)) (kN 5 xH.nd) (jC (jV (aQs (aIf hr.units1 (pv 5) (jF bg hr (jA (pv 0) jB)))) (jC qY) jL)))))))),?_⟩;obtain⟨hw0,dx,t,ps,k1,k2,k3⟩:=hw.init;obtain⟨n1,n4,n2⟩:=aBs hnd hf;have zl:(ps.map V.ref).length=s.2.length:=by rw[δ];exact k3.len
 refine⟨_,rfl,true,.inl ⟨_,SqL.of hl,by simp⟩,jU ⟨_,rfl,a,kK T,T.length,kd,fn,rfl,hws,hfn,hf,hn,fun H1 g1=>⟨_,rfl,jU ?_⟩⟩⟩;refine⟨_,rfl,a,_,_,_,rfl,rfl,g1.seq hws,at0,_,rfl,_,rfl,tl,_,_,_,rfl,rfl,SqL.of (g1 _ _ hl),aZ _ _,z,Ve,_,_,_,rfl,(g1 _ _ k1),Ue.cl,Ue.nd,rfl,t,rfl,⟨_,g1.tp k2⟩,zH (xs:=ps.map V.ref) (fun j ys H2=>H2=H1/\ys=((s.2.take j).map (·.1)).map V.str) ⟨rfl,rfl⟩ (fun j ys H2 _ z=>⟨by rw[z.1];exact g1.tp k2,by rw[z.2,δ,δ,ib];exact jy _ _⟩) (kL (by omega)) (fun j x ys H2 os ho hx z=>?_) (fun ys H2 z p hp=>?_)⟩
 ·obtain⟨rfl,rfl⟩:=z;obtain⟨o1,o2,rfl⟩:=uS ho;obtain⟨u,hu,rfl⟩:=qF hx;obtain⟨nm',kd',kk,hfs,hq,hko⟩:=k3.get hu;refine⟨u,_,rfl,g1.tp hq,rfl,_,_,rfl,_,_,rfl,rfl,_,rfl,⟨rfl,?_⟩,[_,_],rfl,rfl⟩;rw[qV hfs,ρ];rfl
 ·obtain⟨rfl,rfl⟩:=z;clear 1 p H3 g3 k4 hp;refine⟨p,_,rfl,.inl (SqL.of k4),rfl,eO _,_,rfl,?_⟩;rw[if_neg π,iT,zl,kM];refine qO (by rw[decide_eq_false hnew];decide) ⟨_,rfl,a,kK T,T.length,kd,fn,rfl,g3.seq (g1.seq hws),hf,hn,fun l H4 g4 hl4 k5=>?_⟩;have g14:=(g1.trans g3).trans g4;have zn:((Kd.named (kK T) kd).map V.str).length=(Kd.named (kK T) kd).length:=δ _;refine⟨_,rfl,l,_,rfl,SqL.of k5,aBz (xs:=(Kd.named (kK T) kd).map V.str) (fun i σ H'=>∃o4 o5,σ = [some (.ref tl),some x,some (.ref a),some (.ref l),o4,o5]/\jJ H4 H') ⟨_,_,rfl,jJ.refl _⟩ (fun i σ H' _ z=>?_) (fun i x σ H' p hx z hp=>?_) (fun σ H' z=>?_)⟩
  ·obtain⟨o4,o5,rfl,g⟩:=z;exact g.seq (SqL.of k5)
  ·obtain⟨o4,o5,rfl,g⟩:=z;obtain⟨y,hy,rfl⟩:=zK hx;have g5:=vP hp (.tup [.int (i:Int),.str y]);have k6:upd H' p (.tup [.int (i:Int),.str y]) p=_:=jT;generalize upd H' p (.tup [.int (i:Int),.str y])=H5 at g5 k6;refine⟨p,_,rfl,SqT.of k6,rfl,_,_,rfl,_,_,rfl,rfl,_,rfl,_,rfl,_,rfl,_,rfl,l,_,rfl,(g.trans g5).seq (SqL.of k5),fun p2 hp2=>?_⟩;rw[cutB];clear 1 p2 H6 g6 k7 hp2;rw[←List.map_take]at k7;refine⟨p2,_,rfl,.inl (SqL.of k7),rfl,eO _,_,rfl,?_⟩;rw[if_neg π,iT];refine qO (fun z=>?_) ⟨_,_,rfl,(g.trans g5).trans g6⟩;have hm:y∈(Kd.named (kK T) kd).take i:=of_decide_eq_true z;obtain⟨j,hj⟩:=jd.mp hm;have hji:j<i:=by have:=(ε.mp hj).1;rw[ib]at this;omega
   rw[pe hji]at hj;obtain⟨a1,b1⟩:=ε.mp hj;obtain⟨a2,b2⟩:=ε.mp hy;exact qp.mp n1 j i a1 a2 hji (b1.trans b2.symm)
  ·obtain⟨o4,o5,rfl,g⟩:=z;refine⟨_,rfl,l,rfl,⟨_,g.seq (SqL.of k5)⟩,xI (xs:=(Kd.named (kK T) kd).map V.str) (fun i σ H'=>∃o4 o5,σ = [some (.ref tl),some x,some (.ref a),some (.ref l),o4,o5]/\jJ H4 H') ⟨_,_,rfl,g⟩ (fun i σ H' _ z=>?_) (fun i x σ H' hx z=>?_) (fun σ H' z=>?_)⟩
   ·obtain⟨o4,o5,rfl,g⟩:=z;exact g.seq (SqL.of k5)
   ·obtain⟨o4,o5,rfl,g⟩:=z;obtain⟨y,hy,rfl⟩:=zK hx;obtain⟨j,hj,rfl⟩:=n2 y (ι hy);have hT:T[j]?=some T[j]:=ζ hj;have hsa:sa[j]?=some (sa[j]'(by rw[hw0.1];exact hj)):=ζ _;have hv:=aLm hnd hT hsa;rw[←vJ hT]at hv;refine⟨_,rfl,_,rfl,tl,z,sa,T,s,rfl,(g14.trans g) _ _ hl,hw.same (g14.trans g),hnd,hlen,fun d H5 g5 hd k6=>⟨d,_,rfl,zD.k (k:=ol (kK T j)) k6,_,rfl,?_⟩⟩;rw[hv];exact qO (by simp) ⟨_,_,rfl,g.trans g5⟩
   ·obtain⟨o4,o5,rfl,g⟩:=z;exact q H' (g14.trans g)
theorem aFh(F:Fun K "kind_in" "kind_in" iW f fd)(cj:j4 "kind_in" (aGx (j8 0) K r))(fq:j5 cIu (tP Va "width"))(ac:j5 cIv (tP Vb "shape"))(eo:j5 cIx (spI2 Vc "count" "kind"))(fb:j5 cIy (spIT K Vd "shapes")):j1 ["words","shapes"] (aGx (j8 0) K (r+1)):=by
 w_cond aFn;obtain⟨a,d,kd,sa,T,rfl,hlv,hl,hd,hf,hn,hnd,hsl,q⟩:=h;refine⟨_,(jE (jV (jP kS (jG jX (pv 0) jD) jO) (jC (jI (yW Ua fq hr0 rfl qR (jA (qP bJ rfl M.int boot_int (jA (jG jX (pv 0) jD) jB)) jB)))) jL) (jE (jV (jP kS (jG jX (pv 0) jD) jO) (jC (jI (yW Uc eo hr0 rfl qR (jA (qP bJ rfl M.int boot_int (jA (jG jX (pv 0) jD) jB)) (jA (jF cj hr (jA (qX xX (pv 0) (vN jD) vO) (jA (pv 1) jB))) jB))))) jL) (jE (jV (jP kS (jG jX (pv 0) jD) jO) (jC (jI (yW Ud fb hr0 rfl qR (jA (kU ["name"] ["shapes"] [1] rfl (qK (qX xX (pv 0) (vN jD) vO)) rfl ⟨rfl,trivial⟩ ⟨⟨rfl,rfl,rfl,_,rfl⟩,trivial⟩ (fun _ _ _ _=>(qD rfl)) (fun _ _ _ _=>kT) (fun _ _ _ _=>(yL hr.units1 (pv 1) (pv 0) (fun _ _=>rfl)))) jB)))) jL) (jC (jI (yW Ub ac hr0 rfl qR (jA (yL hr.units1 (pv 1) (jG jX (pv 0) jD) (fun _ _=>rfl)) jB))))))),?_⟩;have look:∀i,i<T.length->∃s,sa[i]?=some s/\aO (dk T sa) (.inr (kK T i))=some (.ref s):=fun i hi=>by
  have hT:T[i]?=some T[i]:=ζ hi;have hs:sa[i]?=some (sa[i]'(by omega)):=ζ _;exact⟨_,hs,by rw[vJ hT];exact aLm hnd hT hs⟩
 cases kd with
 |num w =>
  obtain⟨_,d2,_,d4⟩:=dig (w:=w) (by have:=hf.2;omega);exact⟨_,rfl,a,_,_,_,rfl,rfl,hl,rfl,rfl,_,rfl,kO ⟨_,rfl,a,_,_,_,rfl,rfl,hl,rfl,_,_,rfl,d4,by omega,fun x dx hx hdx _=>⟨x,dx,.int w,H,rfl,jT,cN hx hdx,hx,fun H1 g1 k1=>⟨rfl,q x H1 g1 (.num k1)⟩⟩⟩⟩
 |nest i =>
  have hx:=hn i hf;obtain⟨s,hs,hv⟩:=look i hf;exact⟨_,rfl,a,_,_,_,rfl,rfl,hl,rfl,rfl,_,rfl,qO (by simpa using bZ hx (y:="num") (by decide)) ⟨_,rfl,a,_,_,_,rfl,rfl,hl,rfl,rfl,_,rfl,qO (by simpa using bZ hx (y:="row") (by decide)) ⟨_,rfl,a,_,_,_,rfl,rfl,hl,rfl,rfl,_,rfl,qO (by simpa using bZ hx (y:="pick") (by decide)) ⟨_,rfl,_,rfl,a,_,_,_,rfl,rfl,hl,rfl,d,.ref s,rfl,(by rw[←hv];exact zD.k (k:=ol (kK T i)) hd),fun x dx hx hdx _=>⟨x,dx,.ref s,H,rfl,jT,cN hx hdx,hx,fun H1 g1 k1=>⟨rfl,q x H1 g1 (.nest hs k1)⟩⟩⟩⟩⟩⟩
 |many m k =>
  obtain⟨_,d2,_,d4⟩:=dig (w:=m) (by have:=hf.2.1;omega);have hl':SqL K H a (V.str (η "row")::V.str (η (toString (m:Int)))::(k.words (kK T)).map V.str):=hl;refine⟨_,rfl,a,_,_,_,rfl,rfl,hl',at0,rfl,_,rfl,jU ⟨_,rfl,a,_,_,_,rfl,rfl,hl',at0,rfl,_,rfl,kO ⟨_,rfl,a,_,_,_,rfl,rfl,hl',at1,_,_,rfl,d4,by omega,_,rfl,_,rfl,a,_,rfl,hl',fun p hp=>?_⟩⟩⟩;rw[aPg];clear 1 p H1 g1 k1 hp;have hlk:k.lv=0:=by rcases hf.2.2 with⟨w,rfl,_⟩|⟨i,rfl,_⟩ <;> rfl
  refine⟨_,rfl,p,d,k,sa,T,rfl,(by rw[hlk];have : 1<r+1:=hlv;omega),SqL.of k1,g1 _ _ hd,hf.sub,hn,hnd,hsl,fun b H2 g2 ko=>?_⟩;exact fun x dx hx hdx _=>⟨x,dx,.int m,.ref b,H2,rfl,jT,cN hx hdx,hx,fun H3 g3 k3=>⟨rfl,q x H3 ((g1.trans g2).trans g3) (.many k3 (ko.same g3))⟩⟩
 |pick is =>
  have hl':SqL K H a (V.str (η "pick")::(is.map (kK T)).map V.str):=hl;have h2:=hf.2.1;have zl:((is.map (kK T)).map V.str).length=is.length:=by rw[δ,δ]
  refine⟨_,rfl,a,_,_,_,rfl,rfl,hl',at0,rfl,_,rfl,jU ⟨_,rfl,a,_,_,_,rfl,rfl,hl',at0,rfl,_,rfl,jU ⟨_,rfl,a,_,_,_,rfl,rfl,hl',at0,rfl,_,rfl,kO ⟨_,rfl,_,rfl,a,_,rfl,hl',fun p hp=>?_⟩⟩⟩⟩;rw[aCw];clear 1 p H1 g1 k1 hp;refine⟨p,rfl,⟨_,SqL.of k1⟩,vV (xs:=(is.map (kK T)).map V.str) (fun j ys H'=>H'=H1/\∃ss:List Addr,ys=ss.map V.ref/\ss.length=j/\∀(b i:Nat) (s:Addr),is[b]?=some i->ss[b]?=some s->sa[i]?=some s) ⟨rfl,[],rfl,rfl,fun b i s _ z=>by simp at z⟩ (fun j ys H' _ z=>?_) (kL (by omega)) (fun j x ys H' hx z=>?_) (fun ys H' z p2 hp2=>?_)⟩
  ·obtain⟨rfl,ss,rfl,hss,_⟩:=z;exact⟨SqL.of k1,by rw[δ];omega⟩
  ·obtain⟨rfl,ss,rfl,hss,hall⟩:=z;obtain⟨y,hy,rfl⟩:=zK hx;rw[υ]at hy;cases e:is[j]? with
   |none=>rw[e]at hy;cases hy
   |some i =>
    rw[e]at hy;cases hy;obtain⟨s,hs,hv⟩:=look i (hf.2.2.2 i (ι e));refine⟨_,rfl,_,rfl,d,.ref s,rfl,(by rw[←hv];exact zD.k (k:=ol (kK T i)) (g1 _ _ hd)),⟨rfl,ss++[s],by rw[ρ];rfl,by rw[ν,hss];rfl,fun b i' s' hb1 hb2=>?_⟩,_,rfl⟩;rcases bE hb2 with hb2|⟨eb,es⟩
    ·exact hall b i' s' hb1 hb2
    ·rw[eb,hss,e]at hb1;cases hb1;rw[es];exact hs
  ·obtain⟨rfl,ss,rfl,hss,hall⟩:=z;clear 1 p2 H2 g2 k2 hp2;exact fun x dx hx hdx _=>⟨x,dx,p2,_,H2,rfl,jT,cN hx hdx,hx,SqL.of k2,fun t H3 g3 k3 k4=>⟨rfl,q x H3 ((g1.trans g2).trans g3) (.pick k3 k4 (by rw[hss,zl]) hall)⟩⟩
theorem pY(F:Fun K "is_too_much" "is_too_much" aT f fd)(ao:j6 Ve "size" (mK (j8 0) K r sSz))(df:j6 Ve "units" (aPv (j8 0) K r))(am:j6 Ve "depth" (mK (j8 0) K r sDp)):j1 ["shape"] (spTM (j8 0) K r):=by
 w_cond pD;obtain⟨a,i,sa,S,rfl,e,hi,h8,hw,hg,⟨b1,b2,b3⟩,q⟩:=h;refine⟨_,(jE (jV (PW.pt (yP (jP cQ (jN kI rfl M.len jh (jA (kP (pv 0) rfl) jB)) (vD (v:=.int 6) rfl C.MOST_FIELDS ⟨_,rfl⟩)) (yA (jP cQ (xZ (pv 0) Ue.cl ao hr qR) (vD (v:=.int 64) rfl C.MOST_CELLS ⟨_,rfl⟩))))) (jC (jI cO)) jL) (jC (jI (pe_or (vC cQ (jN kI rfl M.len jh (jA (xZ (pv 0) Ue.cl df hr qR) jB)) (vD (v:=.int 40) rfl C.MOST_UNITS ⟨_,rfl⟩) (vX _)) (xP (vC cQ (xZ (pv 0) Ue.cl am hr qR) (vD (v:=.int 4) rfl C.MOST_DEPTH ⟨_,rfl⟩) (vX _))))))),?_⟩;obtain⟨s,hS,dx,t,ps,k1,k2,k3⟩:=hw.at e;have h6:=hg.few i s hS;have zl:(ps.map V.ref).length=s.2.length:=by rw[δ];exact k3.len
 refine⟨_,rfl,a,Ve,_,_,_,rfl,k1,Ue.cl,Ue.nd,rfl,t,_,rfl,.inr k2,_,_,rfl,rfl,_,rfl,qO (by rw[zl];simp;omega) ⟨_,rfl,a,dx,_,rfl,k1,rfl,a,i,sa,S,rfl,e,(by omega),hw,hg,fun H1 g1=>⟨_,_,rfl,rfl,_,rfl,qO (by have:sSz i (tabs S)<=64:=b1;simp;omega) ?_⟩⟩⟩;refine⟨_,rfl,a,dx,_,rfl,g1 _ _ k1,rfl,a,i,sa,S,rfl,e,hi,h8,hw.same g1,hg,fun l H2 g2 hl ⟨us,ku,ur⟩=>⟨l,_,rfl,.inl (SqL.of ku),_,_,rfl,rfl,_,rfl,qO (by rw[δ,ur.len];simp;omega) ?_⟩⟩;refine⟨_,rfl,a,dx,_,rfl,g2 _ _ (g1 _ _ k1),rfl,a,i,sa,S,rfl,e,(by omega),hw.same (g1.trans g2),hg,fun H3 g3=>⟨_,_,rfl,rfl,?_⟩⟩
 (try dsimp only)
 rw[decide_eq_false (by have:sDp i (tabs S)<=4:=b3;omega)];exact q H3 ((g1.trans g2).trans g3)
theorem sK(F:Fun K "with_field" "with_field" cG f fd)(cj:j4 "kind_in" (aGx (j8 0) K 2))(bg:j4 "whole_shapes" (spWh (j8 0) K))(bt:j5 cIz (aKr (j8 0) K))(dh:j4 "is_too_much" (spTM (j8 0) K r)):j1 ["told","line","words"] (spWF (j8 0) K r):=by
 w_cond aV;obtain⟨tl,a,z,x,sa,T,s,fn,kd,rfl,hl,hw,hws,hf,hn,hnd,hlen,hr1,h8,hs50,hg,hb,q⟩:=h;refine⟨_,(jE (jR 3 aV.nd (jF cj hr (jA (qX xX (pv 2) (vN jD) vO) (jA (jF bg hr (jA (pv 0) jB)) jB)))) (jE (jR 4 aV.nd (yW Ue bt hr0 rfl qR (jA (kP (jG jX (pv 0) (eB zS jD)) rfl) (jA (jW aAy (kP (jG jX (pv 0) (eB zS jD)) rfl) (kQ (jA (kQ (jA (jG jX (pv 2) jD) (jA (pv 3) jB))) jB))) jB)))) (jE (jV (kR (jF dh hr (jA (pv 4) jB))) (jC qY) jL) (jC (jI (pv 4)))))),?_⟩;obtain⟨hw0,dx,t,ps,k1,k2,k3⟩:=hw.init;refine⟨_,rfl,_,rfl,a,_,rfl,hws,fun p hp=>?_⟩;rw[show yN ((fn::kd.words (kK T)).map V.str) (some 1) none=(kd.words (kK T)).map V.str from aCw _ _];clear 1 p H1 g1 kp hp;refine⟨_,rfl,tl,z,sa,T,s,rfl,g1 _ _ hl,hw.same g1,hnd,hlen,fun d H2 g2 hd kd2=>?_⟩;refine⟨p,d,kd,sa,T,rfl,(by cases kd <;> simp[Kd.lv]),g2.seq (SqL.of kp),kd2,hf,hn,hnd,hw0.1,fun k H3 g3 ko=>?_⟩;have g13:=(g1.trans g2).trans g3;refine⟨_,rfl,_,rfl,tl,_,_,_,rfl,rfl,SqL.of (g13 _ _ hl),aZ _ _,z,Ve,_,_,_,rfl,(g13 _ _ k1),Ue.cl,Ue.nd,rfl,_,rfl,_,rfl,tl,_,_,_,rfl,rfl,SqL.of (g13 _ _ hl),aZ _ _,z,Ve,_,_,_,rfl,(g13 _ _ k1),Ue.cl,Ue.nd,rfl,_,rfl,a,_,_,_,rfl,rfl,g13.seq hws,at0,_,rfl,xT,fun u hu=>?_⟩;clear 1 u H4 g4 k4 hu;refine⟨lP,fun v hv=>?_⟩;clear 1 v H5 g5 k5 hv;have hps:ps.length=s.2.length:=k3.len;refine⟨t,v,ps.map V.ref,[.ref u],rfl,rfl,(g4.trans g5).tp (g13.tp k2),SqT.of k5,(by simp),(by rw[il,δ];simp;omega),fun fl H6 g6 hfl=>?_⟩;have g36:=(g4.trans g5).trans g6;refine fun y dy hy hdy _=>⟨y,dy,fl,s.1,ps++[u],s.2++[(fn,kd)],sa,H6,rfl,jT,cN hy hdy,hy,.inr (by rw[ρ];exact hfl),(k3.same (g13.trans g36)).snoc ((g5.trans g6).tp (SqT.of k4)) (ko.same g36),(by rw[ν];show s.2.length+1<=100;omega),fun t' ps' H7 g7 k7 st fo=>⟨rfl,?_⟩⟩;have gA:=(g13.trans g36).trans g7;have so:SO (j8 0) K H7 sa y (s.1,s.2++[(fn,kd)]):=⟨dy,t',ps',k7,st,fo⟩;have hsw:=(hw0.same gA).snoc so;have hsl:sa.length=T.length:=hw0.1;exact⟨_,rfl,y,T.length,sa++[y],_,rfl,(by rw[←hsl,ic (ξ _),mr];rfl),hr1,h8,hsw,hg,hb,fun H8 g8=>⟨_,rfl,jU ⟨_,rfl,q y H8 (gA.trans g8) (so.same g8)⟩⟩⟩
theorem oU{k r:Nat}(F:Fun K "read_shapes" "read_shapes" aF f fd)(cv:j4 "is_shape_line" (aPo K))(cr:j4 "need_new_shape" (aPw (j8 0) K))(bt:j5 cIz (aKr (j8 0) K))(dn:j4 "need_field" (spNF (j8 0) K))(dq:j4 "with_field" (spWF (j8 0) K r))(di:j5 cIw (spIT K Vf "shapes")):j1 ["text"] (spRd (j8 0) Vf K r):=by
 w_cond vS;obtain⟨S,rfl,hW,hne,hr12,h8,q⟩:=h;refine⟨_,(jE (jV (vL (kR (jN pW rfl M.isinstance ip (jA (pv 0) (jA (qM (v:=.ty "str") rfl M.str boot_str rfl) jB))))) (jC qY) jL) (jE (jR 1 vS.nd (aC oo PySem.F.slot_str_split PySem.F.type_str_split sS (pv 0) (jA jO jB))) (jE (jR 2 vS.nd (qT jB)) (jE (qZ iy rfl (aGi rfl M.enumerate (jA (pv 1) jB)) (xL rfl (kH (kN 3 vS.nd) (kH (kN 4 vS.nd) qQ))) (jE (jR 5 vS.nd (aC oo PySem.F.slot_str_split PySem.F.type_str_split sS (pv 4) (jA jO jB))) (jC (jV (kR (jF cv hr (jA (pv 5) jB))) (jE (vM (jF cr hr (jA (pv 2) (jA (pv 3) (jA (jG jX (pv 5) jD) jB))))) (jC (vM (aC li ny nz zF (pv 2) (jA (yW Ue bt hr0 rfl qR (jA (jG jX (pv 5) jD) (jA (qT jB) jB))) jB))))) (jE (vM (jF dn hr (jA (pv 2) (jA (pv 3) (jA (pv 5) jB))))) (jC (eI (jF dq hr (jA (pv 2) (jA (pv 3) (jA (pv 5) jB)))) (wT (pv 2) (eB zS jD) set_list)))))))) (jE (jV (vL (dS (kP (jG jX (pv 2) (eB zS jD)) rfl) (fun _=>rfl))) (jC qY) jL) (jC (jI (yW Uf di hr0 rfl qR (jA (pv 2) jB))))))))),?_⟩;obtain⟨h30,hrow,htl,hsp⟩:=aKe hW hne;have hok:=aGe hW;refine⟨_,rfl,_,_,"str",rfl,by decide,rfl,_,rfl,jU ⟨_,rfl,rfl,_,_,rfl,rfl,rfl,(by rw[il];omega),fun p hp=>?_⟩⟩;rw[show ox (txt S) (η "\n")=_ from hsp];clear 1 p H1 g1 k1 hp;refine⟨lZ,fun tl hq=>?_⟩;clear 1 tl H2 g2 k2 hq;have hq0:H tl=none:=g1.free hq;have npt:p≠tl:=jS k1 hq;have k12:=g2 _ _ k1;have zl:(((vB S).map fun it=>jo spS (it.line (kK S))).map V.str).length=(vB S).length:=by rw[δ,δ]
 refine⟨_,rfl,p,_,rfl,SqL.of k12,aBz (xs:=((vB S).map fun it=>jo spS (it.line (kK S))).map V.str) (fun i σ H'=>∃(o3 o4 o5:Option V) (sa:List Addr) (T:List Shp),σ = [some (.str (txt S)),some (.ref p),some (.ref tl),o3,o4,o5]/\But tl H2 H'/\H' tl=some (.lst (sa.map V.ref))/\SW (j8 0) K H' sa T/\nM S i T) ⟨_,_,_,[],[],rfl,But.refl,k2,SW.nil,nM.start S⟩ (fun i σ H' _ z=>?_) (fun i x σ H' p2 hx z hp2=>?_) (fun σ H' z=>?_)⟩
 ·obtain⟨o3,o4,o5,sa,T,rfl,g,_⟩:=z;exact SqL.of (g _ _ npt k12)
 ·obtain⟨o3,o4,o5,sa,T,rfl,g,kl,hw,hst⟩:=z;obtain⟨row,hrw,rfl⟩:=zK hx;rw[υ]at hrw;cases eit:(vB S)[i]? with
  |none=>rw[eit]at hrw;cases hrw
  |some it =>
  rw[eit]at hrw;cases hrw;have hit:=ι eit;obtain⟨r100,rsp⟩:=hrow it hit;obtain⟨ok1,ok2,ok3⟩:=hok it hit;obtain⟨S1,s,S2,eS,hnx⟩:=hst.next (ε.mp eit).1;clear 1 p2 H3 g3 k3 hp2;refine⟨p2,_,rfl,SqT.of k3,rfl,_,_,rfl,_,_,rfl,rfl,_,rfl,rfl,_,_,rfl,rfl,rfl,(by rw[il];show(jo L2.spS (it.line (kK S))).length+2<=_;omega),fun wa hwa=>?_⟩;rw[show ox (jo spS (it.line (kK S))) (η " ")=_ from rsp];clear 1 wa H4 g4 k4 hwa;have g34:=g3.trans g4;refine⟨_,rfl,wa,it.line (kK S),rfl,⟨SqL.of k4,fun w hw=>by have:=(ok1 w hw).2;omega,by omega⟩,fun H5 g5=>⟨_,rfl,?_⟩⟩;have g35:=g34.trans g5;have kl5:=g35 _ _ kl;have hw5:=hw.same g35;have kw5:=g5 _ _ k4;have hsS:s∈S:=by rw[eS];exact ia _ (Δ ..)
  have hS1:∀t∈S1,t∈S:=fun t ht=>by rw[eS];exact iu _ ht
  have hlen:=hW.len;have hnd1:(S1.map (·.1)).Nodup/\s.1∉S1.map (·.1):=by
   have:=hW.nd;rw[eS,ρ,tx]at this;exact⟨this.1,fun z=>this.2.2 _ z _ (Δ ..) rfl⟩
  have hl1:S1.length<5:=by rw[eS,ν,Γ]at hlen;omega
  rcases hnx with⟨ei,rfl,hst2⟩|⟨f1,n,kd,f2,ef,ei,rfl,hst2⟩
  ·rw[eit]at ei;cases ei;have hnm:=hW.nm s hsS;have hws:SqL K H5 wa [V.str (η "shape"),V.str s.1]:=SqL.of kw5;refine vZ (by show(decide (η "shape" = η "shape")&&qA s.1)=true;rw[hnm];decide) ⟨_,rfl,_,rfl,_,rfl,wa,_,_,_,rfl,rfl,hws,rfl,tl,_,s.1,sa,T,rfl,kl5,hw5,(fun t ht=>?_),hnd1.2,by omega,fun H6 g6=>?_⟩
   ·obtain⟨j,hj⟩:=jd.mp ht;exact hW.good.ne j t (by rw[eS,ii (ε.mp hj).1];exact hj)
   have kl6:=g6 _ _ kl5;refine⟨_,rfl,.inl ⟨rfl,_,SqL.of kl6⟩,_,rfl,wa,_,_,_,rfl,rfl,g6.seq hws,rfl,lZ,fun el hel=>?_⟩;clear 1 el H7 g7 k7 hel;refine fun y dy hy hdy _=>⟨y,dy,el,s.1,[],[],sa,H7,rfl,jT,cN hy hdy,hy,.inl (SqL.of k7),.nil,by decide,fun t ps' H8 g8 k8 st fo=>⟨rfl,?_⟩⟩;have g58:=(g6.trans g7).trans g8;have kl8:=g58 _ _ kl5;have hsl:=hw.1;refine⟨tl,_,_,rfl,rfl,kl8,(by rw[δ];exact kn (show sa.length<=5 by omega) (by decide)),?_⟩;clear 0 tl H9 g9 k9;exact⟨_,_,_,sa++[y],_,rfl,(g.trans (But.of (g35.trans g58))).trans g9,by rw[ρ];exact k9,((hw5.same g58).snoc (s:=(s.1,[])) ⟨dy,t,ps',k8,st,fo⟩).but g9 kl8,hst2⟩
  ·rw[eit]at ei;cases ei;obtain⟨sa0,z,rfl⟩:=aGp hw.1;have hfm:(n,kd)∈s.2:=by rw[ef];exact ia _ (Δ ..)
   have hnm:=hW.fnm s hsS _ hfm;have hi1:S[S1.length]?=some s:=by rw[eS,ic (ξ _),mr];rfl
   have hfit:=(hW.good.fit _ _ hi1 _ hfm).1;have hns:NOk (kK S1) S1.length:=wQ fun t ht=>hW.nm t (hS1 t ht);have ew:kd.words (kK S)=kd.words (kK S1):=mR (fun j hj=>by rw[eS];exact aKt hj) hfit.below;have hws:SqL K H5 wa ((n::kd.words (kK S1)).map V.str):=by rw[←ew];exact SqL.of kw5
   obtain⟨pg,pb,p5⟩:=hW.pre (f1:=f1++[(n,kd)]) (f2:=f2) eS (by rw[ef,jr];rfl) (by simp);rw[ν,jt]at p5;have hfn:n∉f1.map (·.1):=fun z=>by
    have:=hW.fnd s hsS;rw[ef,ρ,tx]at this;exact this.2.2 _ z _ (Δ ..) rfl
   refine qO (by rw[show aDe ((Itm.fd n kd).line (kK S))=false from aOp hnm];decide) ⟨_,rfl,_,rfl,_,rfl,tl,wa,z,_,sa0,S1,(s.1,f1),n,kd,rfl,kl5,hw5,hws,hnm,hfn,(by show f1.length<=100;omega),hfit,hns,hnd1.1,by omega,fun H6 g6=>?_⟩;refine⟨_,rfl,_,rfl,_,rfl,tl,wa,z,_,sa0,S1,(s.1,f1),n,kd,rfl,g6 _ _ kl5,hw5.same g6,g6.seq hws,hfit,hns,hnd1.1,by omega,by omega,h8,(by show f1.length<=50;omega),pg,pb,fun y H7 g7 so=>?_⟩;have g57:=g6.trans g7;have kl7:=g57 _ _ kl5;refine⟨_,rfl,_,rfl,tl,_,_,_,rfl,rfl,kl7,aKz _ _,?_⟩;rw[aLq];clear 0 tl H9 g9 k9;exact⟨_,_,_,sa0++[y],_,rfl,(g.trans (But.of (g35.trans g57))).trans g9,k9,((hw5.init.1.same g57).snoc so).but g9 kl7,hst2⟩
 ·obtain⟨o3,o4,o5,sa,T,rfl,g,kl,hw,hst⟩:=z;rw[zl]at hst;have eT:=hst.done;subst eT;have gH:jJ H H':=But.from (g1.trans g2) hq0 g;rcases vo T with rfl|⟨T0,s,rfl⟩
  ·exact absurd rfl hne
  ·rw[vp]at *;obtain⟨sa0,z,rfl⟩:=aGp hw.1;obtain⟨hw0,dx,t,ps,m1,m2,m3⟩:=hw.init;have hs:=hW.good.ne T0.length s (by rw[ic (ξ _),mr];rfl);have hps:ps≠[]:=fun e=>hs (rp.mp (by rw[←m3.len,e];rfl));refine⟨_,rfl,_,rfl,tl,_,_,_,rfl,rfl,SqL.of kl,aZ _ _,z,Ve,_,_,_,rfl,m1,Ue.cl,Ue.nd,rfl,true,.inr (.inl ⟨_,m2,by cases ps with|nil=>exact absurd rfl hps|cons _ _=>rfl⟩),jU ⟨_,rfl,?_⟩⟩;exact fun y dy hy hdy _=>⟨y,dy,tl,_,H',rfl,jT,cN hy hdy,hy,SqL.of kl,fun t H3 g3 k3 k4=>⟨rfl,q y dy t _ H3 (gH.trans g3) k3 k4 (hw.same g3)⟩⟩
theorem aAm{k r:Nat}(F:Fun K "_law_size" "_law_size" gT f fd)(ae:j4 "_law_size" (rN K vSz r)):j1 ["_law_kind_here","_law_shapes_here"] (rN K vSz (r+1)):=by
 w_cond aBw;obtain⟨a,sl,kd,S,rfl,hk,hv,hf,hlk,hlx,hg,q⟩:=h;refine⟨_,(jE (jV (jP kS (jG jQ (pv 0) jD) jO) (jC (jI (jG jQ (pv 0) jD))) jL) (jE (jV (jP kS (jG jQ (pv 0) jD) jO) (jC (jI (jW yF (jG jQ (pv 0) jD) (jF ae hr (jA (jG jQ (pv 0) jD) (jA (pv 1) jB)))))) jL) (jE (jV (jP kS (jG jQ (pv 0) jD) jO) (jC (jI (jW qG jD (jN (zG rfl) rfl M.max boot_max (jA (kU ["_law_at"] ["_law_shapes_here"] [1] rfl (qK (jG jQ (pv 0) jD)) rfl ⟨rfl,trivial⟩ ⟨⟨rfl,rfl,rfl,_,rfl⟩,trivial⟩ (fun _ _ _ _=>(qD rfl)) (fun _ _ _ _=>kT) (fun _ _ _ _=>(jF ae hr (jA (kQ (jA jO (jA (pv 0) jB))) (jA (pv 1) jB))))) jB))))) jL) (jC (jI (jN (aAj rfl) rfl M.sum (show oe "sum" = some (.builtin "sum") from by ac_rfl) (jA (kU ["_law_name","_law_inner"] ["_law_shapes_here"] [1] rfl (qK (jG jQ (jG jX (pv 1) (jG jQ (pv 0) jD)) jD)) rfl ⟨rfl,trivial⟩ ⟨⟨rfl,rfl,rfl,_,rfl⟩,trivial⟩ (fun _ _ _ _=>(zW (K:=K) (n:=2) rfl rfl (kH (qD rfl) (kH (dP rfl) qQ)))) (fun _ _ _ _=>kT) (fun _ _ _ _=>(jF ae hr (jA (pv 1) (jA (pv 2) jB))))) jB))))))),?_⟩;have back : 1<=r->∃r',r=r'+1:=fun h=>⟨r-1,by omega⟩;cases id hlk with
 | @num a w h1=>exact⟨_,rfl,a,_,_,_,rfl,rfl,h1,rfl,rfl,_,rfl,kO ⟨_,rfl,a,_,_,_,rfl,rfl,h1,rfl,q _ (jJ.refl _)⟩⟩
 | @many a b n k h1 h2 =>
  have hv' : 1<=r:=hv;obtain⟨r,rfl⟩:=back hv';have hlv:k.lv=0:=by rcases hf.2.2 with⟨w,rfl,_⟩|⟨i,rfl,_⟩ <;> rfl
  refine⟨_,rfl,a,_,_,_,rfl,rfl,h1,rfl,rfl,_,rfl,jU ⟨_,rfl,a,_,_,_,rfl,rfl,h1,rfl,rfl,_,rfl,kO ⟨_,rfl,a,_,_,_,rfl,rfl,h1,rfl,_,rfl,a,_,_,_,rfl,rfl,h1,rfl,_,rfl,b,sl,k,S,rfl,hk.sub,(by omega),hf.sub,h2,hlx,hg,fun H' g=>?_⟩⟩⟩;refine⟨_,_,rfl,rfl,.inl ⟨by have:=hf.2.1;omega,by have:=hf.2.1;omega⟩,?_⟩;have q':=q H' g;rw[show vSz (Kd.many n k) (tabs S)=n*vSz k (tabs S) from rfl,Int.natCast_mul]at q';exact q'
 | @pick a l is h1 h2 =>
  have hs:=hf.1;have hs4:=hf.2.1;have hne:is≠[]:=fun z=>by rw[z]at hs;exact absurd hs (by decide)
  have hr3 : 3<=r:=by
   cases is with
   |nil=>exact absurd rfl hne
   |cons i _=>have:=hk i (Δ ..);omega
  obtain⟨r,rfl⟩:=back (by omega);have zl:(is.map fun n:Nat=>V.int n).length=is.length:=δ _;refine⟨_,rfl,a,_,_,_,rfl,rfl,h1,rfl,rfl,_,rfl,jU ⟨_,rfl,a,_,_,_,rfl,rfl,h1,rfl,rfl,_,rfl,jU ⟨_,rfl,a,_,_,_,rfl,rfl,h1,rfl,rfl,_,rfl,kO ⟨_,rfl,a,_,_,_,rfl,rfl,h1,rfl,l,rfl,⟨_,h2⟩,vV (xs:=is.map fun n:Nat=>V.int n) (fun j ys H'=>jJ H H'/\ys=((is.take j).map fun i=>V.int (vSz (.nest i) (tabs S)))) ⟨jJ.refl _,rfl⟩ (fun j ys H' _ z=>⟨z.1.seq h2,by rw[z.2,δ,ib];exact jy _ _⟩) (kL (by omega)) (fun j x ys H' hx z=>?_) (fun ys H' z p hp=>?_)⟩⟩⟩⟩
  ·obtain⟨g,rfl⟩:=z;obtain⟨i,hi,rfl⟩:=iN hx;have him:=ι hi;refine⟨_,rfl,xT,fun t ht=>?_⟩;clear 1 t H3 g3 k3 ht;exact⟨_,rfl,t,sl,.nest i,S,rfl,(by have:=hk i him;show 2*i+2<=r;omega),ij _,hf.2.2.2 i him,.nest (SqT.of k3),hlx.same (g.trans g3),hg,fun H4 g4=>⟨⟨(g.trans g3).trans g4,(qV hi).symm⟩,_,rfl⟩⟩
  ·obtain⟨g,rfl⟩:=z;have g2:=vP hp (.lst ((is.take (is.map fun n:Nat=>V.int n).length).map fun i=>V.int (vSz (.nest i) (tabs S))));have kp:upd H' p (.lst ((is.take (is.map fun n:Nat=>V.int n).length).map fun i=>V.int (vSz (.nest i) (tabs S)))) p=some (.lst (((is.map fun i=>vSz (.nest i) (tabs S)).map fun n:Nat=>(n:Int)).map V.int)):=by
    rw[jT,zl,kM,jp,jp];rfl
   have q':=q _ (g.trans g2);refine⟨p,(is.map fun i=>vSz (.nest i) (tabs S)).map fun n:Nat=>(n:Int),rfl,SqL.of kp,(by simpa using hne),fun m h5 h6=>?_⟩;rw[aIa h5 h6];refine⟨_,_,rfl,rfl,?_⟩;rw[show vSz (Kd.pick is) (tabs S)=1+vW (is.map fun i=>vSz (.nest i) (tabs S)) from rfl,su]at q';exact q'
 | @nest a i h1 =>
  have hi:i<S.length:=hf;have hr2 : 2*i+2<=r:=hk;obtain⟨r,rfl⟩:=back (by omega);obtain⟨as,s,l,ps,m1,m2,m3,m4,m5⟩:=hlx.at hi;have hS:S[i]?=some S[i]:=ζ hi;have hfit:=hg.fit i _ hS;have htab:=gU hS fun f hf=>(hfit f hf).1.below;have zl:(ps.map V.ref).length=S[i].2.length:=by rw[δ];exact m5.len
  refine⟨_,rfl,a,_,_,_,rfl,rfl,h1,rfl,rfl,_,rfl,jU ⟨_,rfl,a,_,_,_,rfl,rfl,h1,rfl,rfl,_,rfl,jU ⟨_,rfl,a,_,_,_,rfl,rfl,h1,rfl,rfl,_,rfl,jU ⟨_,rfl,_,rfl,a,_,_,_,rfl,rfl,h1,rfl,sl,_,_,_,rfl,rfl,m1,xM m2,s,_,_,_,rfl,rfl,m3,rfl,l,rfl,⟨_,m4⟩,fG (xs:=ps.map V.ref) (fun j ys H'=>jJ H H'/\ys=((S[i].2.take j).map fun f=>V.int (vSz f.2 (tabs S)))) ⟨jJ.refl _,rfl⟩ (fun j ys H' _ z=>⟨z.1.seq m4,by rw[z.2,δ,ib];exact jy _ _⟩) (kL (by have:=hg.few i _ hS;omega)) (fun j x ys H' os ho hx z=>?_) (fun ys H' z p hp=>?_)⟩⟩⟩⟩
  ·obtain⟨g,rfl⟩:=z;obtain⟨o1,o2,rfl⟩:=uS ho;obtain⟨u,hu,rfl⟩:=qF hx;obtain⟨nm',kd',kk,hfs,ht,hko⟩:=m5.get hu;have hm:=hfit _ (ι hfs);exact⟨u,_,rfl,g.tp ht,rfl,_,_,rfl,_,_,rfl,rfl,_,rfl,_,rfl,kk,sl,kd',S,rfl,hm.1.rk.mono (by omega),(by have:=kd'.lv_le;omega),hm.1.mono (kq hi),hko.same g,hlx.same g,hg,fun H2 g2=>⟨⟨g.trans g2,(qV hfs).symm⟩,[_,_],rfl,rfl⟩⟩
  ·obtain⟨g,rfl⟩:=z;have g2:=vP hp (.lst ((S[i].2.take (ps.map V.ref).length).map fun f=>V.int (vSz f.2 (tabs S))));have kp:upd H' p (.lst ((S[i].2.take (ps.map V.ref).length).map fun f=>V.int (vSz f.2 (tabs S)))) p=some (.lst (((S[i].2.map fun f=>vSz f.2 (tabs S)).map fun n:Nat=>(n:Int)).map V.int)):=by
    rw[jT,zl,kM,jp,jp];rfl
   have q':=q _ (g.trans g2);refine⟨p,(S[i].2.map fun f=>vSz f.2 (tabs S)).map fun n:Nat=>(n:Int),rfl,SqL.of kp,?_⟩;rw[sumI];rw[show vSz (.nest i) (tabs S)=(S[i].2.map fun f=>vSz f.2 (tabs S)).sum from htab.1]at q';exact q'
theorem uZ(F:Fun K "_law_depth" "_law_depth" cX f fd)(au:j4 "_law_depth" (rN K vDp r)):j1 ["_law_kind_here","_law_shapes_here"] (rN K vDp (r+1)):=by
 w_cond wL;obtain⟨a,sl,kd,S,rfl,hk,hv,hf,hlk,hlx,hg,q⟩:=h;refine⟨_,(jE (jV (jP kS (jG jQ (pv 0) jD) jO) (jC (jI jD)) jL) (jE (jV (jP kS (jG jQ (pv 0) jD) jO) (jC (jI (jF au hr (jA (jG jQ (pv 0) jD) (jA (pv 1) jB))))) jL) (jE (jV (jP kS (jG jQ (pv 0) jD) jO) (jC (jI (jN (zG rfl) rfl M.max boot_max (jA (kU ["_law_at"] ["_law_shapes_here"] [1] rfl (qK (jG jQ (pv 0) jD)) rfl ⟨rfl,trivial⟩ ⟨⟨rfl,rfl,rfl,_,rfl⟩,trivial⟩ (fun _ _ _ _=>(qD rfl)) (fun _ _ _ _=>kT) (fun _ _ _ _=>(jF au hr (jA (kQ (jA jO (jA (pv 0) jB))) (jA (pv 1) jB))))) jB)))) jL) (jC (jI (jW qG jD (jN (zG rfl) rfl M.max boot_max (jA (kU ["_law_name","_law_inner"] ["_law_shapes_here"] [1] rfl (qK (jG jQ (jG jX (pv 1) (jG jQ (pv 0) jD)) jD)) rfl ⟨rfl,trivial⟩ ⟨⟨rfl,rfl,rfl,_,rfl⟩,trivial⟩ (fun _ _ _ _=>(zW (K:=K) (n:=2) rfl rfl (kH (qD rfl) (kH (dP rfl) qQ)))) (fun _ _ _ _=>kT) (fun _ _ _ _=>(jF au hr (jA (pv 1) (jA (pv 2) jB))))) jB)))))))),?_⟩;have back : 1<=r->∃r',r=r'+1:=fun h=>⟨r-1,by omega⟩;cases id hlk with
 | @num a w h1=>exact⟨_,rfl,a,_,_,_,rfl,rfl,h1,rfl,rfl,_,rfl,kO (q _ (jJ.refl _))⟩
 | @many a b n k h1 h2 =>
  have hv' : 1<=r:=hv;obtain⟨r,rfl⟩:=back hv';have hlv:k.lv=0:=by rcases hf.2.2 with⟨w,rfl,_⟩|⟨i,rfl,_⟩ <;> rfl
  refine⟨_,rfl,a,_,_,_,rfl,rfl,h1,rfl,rfl,_,rfl,jU ⟨_,rfl,a,_,_,_,rfl,rfl,h1,rfl,rfl,_,rfl,kO ⟨_,rfl,a,_,_,_,rfl,rfl,h1,rfl,_,rfl,b,sl,k,S,rfl,hk.sub,(by omega),hf.sub,h2,hlx,hg,fun H' g=>?_⟩⟩⟩;exact q H' g
 | @pick a l is h1 h2 =>
  have hs:=hf.1;have hs4:=hf.2.1;have hne:is≠[]:=fun z=>by rw[z]at hs;exact absurd hs (by decide)
  have hr3 : 3<=r:=by
   cases is with
   |nil=>exact absurd rfl hne
   |cons i _=>have:=hk i (Δ ..);omega
  obtain⟨r,rfl⟩:=back (by omega);have zl:(is.map fun n:Nat=>V.int n).length=is.length:=δ _;refine⟨_,rfl,a,_,_,_,rfl,rfl,h1,rfl,rfl,_,rfl,jU ⟨_,rfl,a,_,_,_,rfl,rfl,h1,rfl,rfl,_,rfl,jU ⟨_,rfl,a,_,_,_,rfl,rfl,h1,rfl,rfl,_,rfl,kO ⟨_,rfl,a,_,_,_,rfl,rfl,h1,rfl,l,rfl,⟨_,h2⟩,vV (xs:=is.map fun n:Nat=>V.int n) (fun j ys H'=>jJ H H'/\ys=((is.take j).map fun i=>V.int (vDp (.nest i) (tabs S)))) ⟨jJ.refl _,rfl⟩ (fun j ys H' _ z=>⟨z.1.seq h2,by rw[z.2,δ,ib];exact jy _ _⟩) (kL (by omega)) (fun j x ys H' hx z=>?_) (fun ys H' z p hp=>?_)⟩⟩⟩⟩
  ·obtain⟨g,rfl⟩:=z;obtain⟨i,hi,rfl⟩:=iN hx;have him:=ι hi;refine⟨_,rfl,xT,fun t ht=>?_⟩;clear 1 t H3 g3 k3 ht;exact⟨_,rfl,t,sl,.nest i,S,rfl,(by have:=hk i him;show 2*i+2<=r;omega),ij _,hf.2.2.2 i him,.nest (SqT.of k3),hlx.same (g.trans g3),hg,fun H4 g4=>⟨⟨(g.trans g3).trans g4,(qV hi).symm⟩,_,rfl⟩⟩
  ·obtain⟨g,rfl⟩:=z;have g2:=vP hp (.lst ((is.take (is.map fun n:Nat=>V.int n).length).map fun i=>V.int (vDp (.nest i) (tabs S))));have kp:upd H' p (.lst ((is.take (is.map fun n:Nat=>V.int n).length).map fun i=>V.int (vDp (.nest i) (tabs S)))) p=some (.lst (((is.map fun i=>vDp (.nest i) (tabs S)).map fun n:Nat=>(n:Int)).map V.int)):=by
    rw[jT,zl,kM,jp,jp];rfl
   have q':=q _ (g.trans g2);refine⟨p,(is.map fun i=>vDp (.nest i) (tabs S)).map fun n:Nat=>(n:Int),rfl,SqL.of kp,(by simpa using hne),fun m h5 h6=>?_⟩;rw[aIa h5 h6];exact q'
 | @nest a i h1 =>
  have hi:i<S.length:=hf;have hr2 : 2*i+2<=r:=hk;obtain⟨r,rfl⟩:=back (by omega);obtain⟨as,s,l,ps,m1,m2,m3,m4,m5⟩:=hlx.at hi;have hS:S[i]?=some S[i]:=ζ hi;have hfit:=hg.fit i _ hS;have htab:=gU hS fun f hf=>(hfit f hf).1.below;have zl:(ps.map V.ref).length=S[i].2.length:=by rw[δ];exact m5.len
  refine⟨_,rfl,a,_,_,_,rfl,rfl,h1,rfl,rfl,_,rfl,jU ⟨_,rfl,a,_,_,_,rfl,rfl,h1,rfl,rfl,_,rfl,jU ⟨_,rfl,a,_,_,_,rfl,rfl,h1,rfl,rfl,_,rfl,jU ⟨_,rfl,_,rfl,a,_,_,_,rfl,rfl,h1,rfl,sl,_,_,_,rfl,rfl,m1,xM m2,s,_,_,_,rfl,rfl,m3,rfl,l,rfl,⟨_,m4⟩,fG (xs:=ps.map V.ref) (fun j ys H'=>jJ H H'/\ys=((S[i].2.take j).map fun f=>V.int (vDp f.2 (tabs S)))) ⟨jJ.refl _,rfl⟩ (fun j ys H' _ z=>⟨z.1.seq m4,by rw[z.2,δ,ib];exact jy _ _⟩) (kL (by have:=hg.few i _ hS;omega)) (fun j x ys H' os ho hx z=>?_) (fun ys H' z p hp=>?_)⟩⟩⟩⟩
  ·obtain⟨g,rfl⟩:=z;obtain⟨o1,o2,rfl⟩:=uS ho;obtain⟨u,hu,rfl⟩:=qF hx;obtain⟨nm',kd',kk,hfs,ht,hko⟩:=m5.get hu;have hm:=hfit _ (ι hfs);exact⟨u,_,rfl,g.tp ht,rfl,_,_,rfl,_,_,rfl,rfl,_,rfl,_,rfl,kk,sl,kd',S,rfl,hm.1.rk.mono (by omega),(by have:=kd'.lv_le;omega),hm.1.mono (kq hi),hko.same g,hlx.same g,hg,fun H2 g2=>⟨⟨g.trans g2,(qV hfs).symm⟩,[_,_],rfl,rfl⟩⟩
  ·obtain⟨g,rfl⟩:=z;have g2:=vP hp (.lst ((S[i].2.take (ps.map V.ref).length).map fun f=>V.int (vDp f.2 (tabs S))));have kp:upd H' p (.lst ((S[i].2.take (ps.map V.ref).length).map fun f=>V.int (vDp f.2 (tabs S)))) p=some (.lst (((S[i].2.map fun f=>vDp f.2 (tabs S)).map fun n:Nat=>(n:Int)).map V.int)):=by
    rw[jT,zl,kM,jp,jp];rfl
   have q':=q _ (g.trans g2);refine⟨p,(S[i].2.map fun f=>vDp f.2 (tabs S)).map fun n:Nat=>(n:Int),rfl,SqL.of kp,(by simpa using hg.ne i _ hS),fun m h5 h6=>?_⟩;rw[aIa h5 h6];refine⟨_,_,rfl,rfl,?_⟩;rw[show vDp (.nest i) (tabs S)=1+vW (S[i].2.map fun f=>vDp f.2 (tabs S)) from htab.2.1,su]at q';exact q'
theorem uI(F:Fun K "_law_units" "_law_units" dJ f fd)(bh:j4 "_law_units" (spLU K r))(ae:j4 "_law_size" (rN K vSz (r+1)))(bu:j4 "_law_joined" spLJ):j1 ["_law_kind_here","_law_shapes_here","_law_path"] (spLU K (r+1)):=by
 w_cond vU;obtain⟨a,sl,p,kd,S,rfl,hp,hk,hv,hf,hlk,hlx,hg,q⟩:=h;refine⟨_,(jE (jV (jP kS (jG jQ (pv 0) jD) jO) (jC (jI (qT (jA (kQ (jA (pv 2) (jA (jG jQ (pv 0) jD) (jA jO jB)))) jB)))) jL) (jE (jV (jP kS (jG jQ (pv 0) jD) jO) (jC (jI (qT (jA (kQ (jA (jF bu hr (jA (pv 2) (jA jO jB))) (jA jD (jA jO jB)))) (jA (kQ (jA (pv 2) (jA (jW yR (jF ae hr (jA (pv 0) (jA (pv 1) jB))) jD) (jA jO jB)))) jB))))) jL) (jE (jR 3 vU.nd (qT jB)) (jE (jV (jP kS (jG jQ (pv 0) jD) jO) (jC (qZ iy rfl (vI rfl M.range (jA (jG jQ (pv 0) jD) jB)) (kN 4 vU.nd) (jC (jR 3 vU.nd (jW bX (pv 3) (jF bh hr (jA (jG jQ (pv 0) jD) (jA (pv 1) (jA (jF bu hr (jA (pv 2) (jA (qP bY rfl M.str boot_str (jA (pv 4) jB)) jB))) jB))))))))) (jC (qZ iy rfl (qK (jG jQ (jG jX (pv 1) (jG jQ (pv 0) jD)) jD)) (xL rfl (kH (kN 5 vU.nd) (kH (kN 6 vU.nd) qQ))) (jC (jR 3 vU.nd (jW bX (pv 3) (jF bh hr (jA (pv 6) (jA (pv 1) (jA (jF bu hr (jA (pv 2) (jA (pv 5) jB))) jB)))))))))) (jC (jI (pv 3))))))),?_⟩;have back : 1<=r->∃r',r=r'+1:=fun h=>⟨r-1,by omega⟩;have bd:=Kd.size_bd hg.sz (by decide) hf;have lens:((∃i,kd=.nest i)\/∃n q,kd=.many n q)->∀j,(((kd.parts S).take j).flatMap fun f=>un f.2 S (pj p f.1)).length<=6000:=fun hF j=>by
  have h1:(un kd S p).length<=_:=(hg.kd hf).2 p;rw[Kd.parts_un hg hf hF]at h1
  conv at h1=>lhs;rw[←ky j (kd.parts S)]
  rw[ot,ν]at h1;omega
 have pjl:∀y:Str,y.length<=6->(pj p y).length<=p.length+7:=fun y hy=>by
  have e1:(η ".").length=1:=rfl;unfold pj
  split
  ·omega
  ·rw[kj,kj];omega
 cases id hlk with
 | @num a w h1 =>
  refine⟨_,rfl,a,_,_,_,rfl,rfl,h1,rfl,rfl,_,rfl,kO ⟨_,rfl,_,rfl,a,_,_,_,rfl,rfl,h1,rfl,aAc,fun t ht=>?_⟩⟩;generalize e1:upd H t _=H1;obtain⟨g1,k1⟩:=kY e1 ht;refine⟨lP,fun l hl=>?_⟩;clear 1 l H2 g2 k2 hl;exact q l H2 (g1.trans g2) (g1.free hl) ⟨[t],k2,.cons (g2.tp (SqT.of k1)) .nil⟩
 | @pick a l is h1 h2 =>
  refine⟨_,rfl,a,_,_,_,rfl,rfl,h1,rfl,rfl,_,rfl,jU ⟨_,rfl,a,_,_,_,rfl,rfl,h1,rfl,rfl,_,rfl,kO ⟨_,rfl,p,_,rfl,(by omega),(by decide),(by decide),aAc,fun t1 ht1=>?_⟩⟩⟩;generalize e1:upd H t1 _=H1;obtain⟨g1,k1⟩:=kY e1 ht1;refine⟨_,rfl,_,rfl,_,rfl,a,sl,.pick is,S,rfl,hk,hv,hf,hlk.same g1,hlx.same g1,hg,fun H2 g2=>⟨_,_,rfl,rfl,aAc,fun t2 ht2=>?_⟩⟩;clear 1 t2 H3 g3 k3 ht2;refine⟨xT,fun lf hl=>?_⟩;clear 1 lf H4 g4 k4 hl;have ez:((vSz (Kd.pick is) (tabs S):Nat):Int)-1=((vW (is.map fun i=>(tabs S).sz.getD i 0):Nat):Int):=by
   rw[show vSz (Kd.pick is) (tabs S)=1+vW (is.map fun i=>(tabs S).sz.getD i 0) from rfl];omega
  have k3':H3 t2=some (.tup [.str p,.int ((vSz (Kd.pick is) (tabs S):Nat)-1),.str (η "pick")]):=k3;rw[ez]at k3';exact q lf H4 (((g1.trans g2).trans g3).trans g4) (((g1.trans g2).trans g3).free hl) ⟨[t1,t2],k4,.cons (((g2.trans g3).trans g4).tp (SqT.of k1)) (.cons (g4.tp (SqT.of k3')) .nil)⟩
 | @many a b n k h1 h2 =>
  have hv' : 1<=r:=hv;obtain⟨r,rfl⟩:=back hv';have hn6:n<=6:=hf.2.1;have hlv:k.lv=0:=by rcases hf.2.2 with⟨w,rfl,_⟩|⟨i,rfl,_⟩ <;> rfl
  refine⟨_,rfl,a,_,_,_,rfl,rfl,h1,rfl,rfl,_,rfl,jU ⟨_,rfl,a,_,_,_,rfl,rfl,h1,rfl,rfl,_,rfl,jU ⟨lZ,fun l0 hl0=>?_⟩⟩⟩;generalize e1:upd H l0 _=H1;obtain⟨g1,k1⟩:=kY e1 hl0;refine⟨_,rfl,a,_,_,_,rfl,rfl,g1.tp h1,rfl,rfl,_,rfl,kO ⟨_,rfl,a,_,_,_,rfl,rfl,g1.tp h1,rfl,n,rfl,by omega,by omega,bA (n:=n) (fun j σ H'=>∃(o4 o5 o6:Option V) (lf:Addr),σ = [some (.ref a),some (.ref sl),some (.str p),some (.ref lf),o4,o5,o6]/\jJ H H'/\H lf=none/\UL K H' lf ((((Kd.many n k).parts S).take j).flatMap fun f=>un f.2 S (pj p f.1))) ⟨_,_,_,l0,rfl,g1,hl0,[],k1,.nil⟩ (fun j σ H' hj z=>?_) (fun σ H' z=>?_)⟩⟩
  ·obtain⟨o4,o5,o6,lf,rfl,g,hlf,us,ku,ur⟩:=z;have hps:((Kd.many n k).parts S)[j]?=some (η (toString j),k):=by
    show((ir n).map _)[j]?=_;rw[υ,nr hj];rfl
   obtain⟨p1,p2,p3,p4⟩:=Kd.parts_ok hg hf hk (ι hps);refine⟨_,rfl,_,rfl,a,_,_,_,rfl,rfl,g.tp h1,rfl,_,rfl,_,rfl,_,rfl,_,rfl,vh (bH (by omega)) (by decide),p,η (toString ((0:Int)+(j:Nat))),rfl,by omega,?_,?_,b,sl,pj p (η (toString ((0:Int)+(j:Nat)))),k,S,rfl,?_,p1,by omega,p2,h2.same g,hlx.same g,hg,fun l3 H3 g3 hl3 u3=>?_⟩
   ·rw[qu];exact iq p4 (by decide)
   ·rw[qu];exact p3
   ·rw[qu];have:=pjl (η (toString j)) p4;show(pj p (η (toString j))).length+_<=_;omega
   rw[qu]at u3;obtain⟨us3,k3,ur3⟩:=u3;have ku3:=g3 _ _ ku;have h6:=lens (.inr ⟨_,_,rfl⟩) (j+1);rw[eU hps,ν,←ur.len,show(un k S (pj p (η (toString j)))).length=us3.length from ur3.len.symm]at h6;refine⟨lf,l3,_,_,rfl,rfl,ku3,k3,(by rw[il,δ,δ];omega),fun l4 hl4=>?_⟩;clear 1 l4 H4 g4 k4 hl4;refine⟨_,_,_,l4,rfl,(g.trans g3).trans g4,(g.trans g3).free hl4,us++us3,by rw[ρ];exact k4,?_⟩;rw[eU hps];exact(ur.same (g3.trans g4)).app (ur3.same g4)
  ·obtain⟨o4,o5,o6,lf,rfl,g,hlf,u⟩:=z;refine⟨_,rfl,q lf H' g hlf ?_⟩;rw[Kd.parts_un hg hf (.inr ⟨_,_,rfl⟩)];rw[mz (by show((ir n).map _).length<=n;rw[δ,jx];exact ξ _)]at u;exact u
 | @nest a i h1 =>
  have hi:i<S.length:=hf;have hr2 : 2*i+2<=r:=hk;obtain⟨r,rfl⟩:=back (by omega);obtain⟨as,s,l,ps,m1,m2,m3,m4,m5⟩:=hlx.at hi;have hS:S[i]?=some S[i]:=ζ hi;have ep:(Kd.nest i).parts S=S[i].2:=by show(S.getD i _).2=_;rw[Ω,hS];rfl
  refine⟨_,rfl,a,_,_,_,rfl,rfl,h1,rfl,rfl,_,rfl,jU ⟨_,rfl,a,_,_,_,rfl,rfl,h1,rfl,rfl,_,rfl,jU ⟨lZ,fun l0 hl0=>?_⟩⟩⟩;generalize e1:upd H l0 _=H1;obtain⟨g1,k1⟩:=kY e1 hl0;refine⟨_,rfl,a,_,_,_,rfl,rfl,g1.tp h1,rfl,rfl,_,rfl,jU ⟨_,rfl,_,rfl,a,_,_,_,rfl,rfl,g1.tp h1,rfl,sl,_,_,_,rfl,rfl,g1.seq m1,xM m2,s,_,_,_,rfl,rfl,g1.tp m3,rfl,l,rfl,⟨_,g1.seq m4⟩,xI (xs:=ps.map V.ref) (fun j σ H'=>∃(o4 o5 o6:Option V) (lf:Addr),σ = [some (.ref a),some (.ref sl),some (.str p),some (.ref lf),o4,o5,o6]/\jJ H H'/\H lf=none/\UL K H' lf ((((Kd.nest i).parts S).take j).flatMap fun f=>un f.2 S (pj p f.1))) ⟨_,_,_,l0,rfl,g1,hl0,[],k1,.nil⟩ (fun j σ H' _ z=>?_) (fun j x σ H' hx z=>?_) (fun σ H' z=>?_)⟩⟩
  ·obtain⟨o4,o5,o6,lf,rfl,g,_⟩:=z;exact g.seq m4
  ·obtain⟨o4,o5,o6,lf,rfl,g,hlf,us,ku,ur⟩:=z;obtain⟨t,ht,rfl⟩:=qF hx;obtain⟨nm',kd',kk,hfs,htt,hko⟩:=m5.get ht;have hps:((Kd.nest i).parts S)[j]?=some (nm',kd'):=by rw[ep];exact hfs
   obtain⟨p1,p2,p3,p4⟩:=Kd.parts_ok hg hf hk (ι hps);have p4':nm'.length<=6:=p4;have:=pjl nm' p4';refine⟨t,_,rfl,g.tp htt,rfl,_,_,rfl,_,_,rfl,rfl,_,rfl,_,rfl,_,rfl,_,rfl,_,rfl,p,nm',rfl,by omega,by omega,p3,kk,sl,pj p nm',kd',S,rfl,by omega,p1,(by have:=kd'.lv_le;omega),p2,hko.same g,hlx.same g,hg,fun l3 H3 g3 hl3 zq=>?_⟩;obtain⟨us3,k3,ur3⟩:=zq;have ku3:=g3 _ _ ku;have h6:=lens (.inl ⟨_,rfl⟩) (j+1);rw[eU hps,ν,←ur.len,←ur3.len]at h6;refine⟨lf,l3,_,_,rfl,rfl,ku3,k3,(by rw[il,δ,δ];omega),fun l4 hl4=>?_⟩;clear 1 l4 H4 g4 k4 hl4;refine⟨_,_,_,l4,rfl,(g.trans g3).trans g4,(g.trans g3).free hl4,us++us3,by rw[ρ];exact k4,?_⟩;rw[eU hps];exact(ur.same (g3.trans g4)).app (ur3.same g4)
  ·obtain⟨o4,o5,o6,lf,rfl,g,hlf,u⟩:=z;refine⟨_,rfl,q lf H' g hlf ?_⟩;rw[Kd.parts_un hg hf (.inl ⟨_,rfl⟩)];rw[mz (by rw[ep,δ,m5.len];exact ξ _)]at u;exact u
theorem aDl{r:Nat}(F:Fun K "_law_fits" "_law_fits" fV f fd)(ae:j4 "_law_size" (rN K vSz (r+1)))(bh:j4 "_law_units" (spLU K (r+1)))(au:j4 "_law_depth" (rN K vDp (r+1))):j1 ["_law_shapes_here"] (aLc K r):=by
 w_cond mP;obtain⟨sl,S,n,rfl,hn,hlx,hg,hr1,h8,q⟩:=h;refine⟨_,(jE (jR 1 mP.nd (kQ (jA jO (jA (jW yR (jN kI rfl M.len jh (jA (pv 0) jB)) jD) jB)))) (jE (jV (PW.pt (yP (jP cQ (jF ae hr (jA (pv 1) (jA (pv 0) jB))) jD) (yA (jP cQ (jN kI rfl M.len jh (jA (jF bh hr (jA (pv 1) (jA (pv 0) (jA jO jB)))) jB)) jD)))) (jC (jI cO)) jL) (jC (jI (vC iB (jF au hr (jA (pv 1) (jA (pv 0) jB))) jD (vX _)))))),?_⟩;obtain⟨as,ha,hW⟩:=id hlx;have hal:((as.map V.ref).length:Int)-1=((n:Nat):Int):=by rw[δ,hW.len,hn];omega
 refine⟨_,rfl,sl,_,rfl,.inl ha,_,_,rfl,rfl,xT,fun t ht=>?_⟩;clear 1 t H1 g1 k0 ht;have k1:H1 t=some (.tup [.str (η "shape"),.int (((as.map V.ref).length:Int)-1)]):=k0;rw[hal]at k1;have hnS:(Kd.nest n).Fit S.length:=by show n<S.length;omega
 have lk:LK K H1 t (.nest n):=.nest (SqT.of k1);refine⟨_,rfl,_,rfl,t,sl,.nest n,S,rfl,hr1,ij _,hnS,lk,hlx.same g1,hg,fun H2 g2=>⟨_,_,rfl,rfl,_,rfl,xG (fun c=>vZ rfl (q false H2 (g1.trans g2) (fun z=>by cases z))) (fun c=>?_)⟩⟩;refine⟨_,rfl,_,rfl,t,sl,Str.empty,.nest n,S,rfl,(by show 0+8*r<=200;omega),hr1,ij _,hnS,lk.same g2,hlx.same (g1.trans g2),hg,fun l H3 g3 hl ⟨us,ku,ur⟩=>⟨l,_,rfl,.inl (SqL.of ku),_,_,rfl,rfl,_,rfl,xG (fun c2=>q false H3 ((g1.trans g2).trans g3) (fun z=>by cases z)) (fun c2=>?_)⟩⟩;refine⟨_,rfl,_,rfl,t,sl,.nest n,S,rfl,hr1,ij _,hnS,lk.same (g2.trans g3),hlx.same ((g1.trans g2).trans g3),hg,fun H4 g4=>⟨_,_,rfl,rfl,?_⟩⟩;refine q _ H4 (((g1.trans g2).trans g3).trans g4) fun c3=>?_;have c1':¬ (64:Int)<((vSz (Kd.nest n) (tabs S):Nat):Int):=fun z=>c (decide_eq_true z);have c2':¬ (40:Int)<(((us.map V.ref).length:Nat):Int):=fun z=>c2 (decide_eq_true z);have c3':((vDp (Kd.nest n) (tabs S):Nat):Int)<=4:=of_decide_eq_true c3;rw[δ,ur.len]at c2';exact⟨by show vSz (Kd.nest n) (tabs S)<=64;omega,by omega,by show vDp (Kd.nest n) (tabs S)<=4;omega⟩
theorem aDq{k:Nat}(F:Fun K "_law_kind" "_law_kind" fN f fd)(aa:j4 "_law_take" aQ):j1 ["_law_box_here","_law_known"] (aPr K):=by
 w_cond zY;obtain⟨p,n,xs,rfl,hn8,hs,hpx,hal,q⟩:=h;refine⟨_,(jE (jR 2 zY.nd (jF aa hr (jA (pv 0) (jA jD jB)))) (jE (jR 3 zY.nd (jW qG jD (jF aa hr (jA (pv 0) (jA jD jB))))) (jE (jV (PW.pt (yP (jP aLs (pv 2) jD) (yA (jP kS (pv 1) jD)))) (jC (jI (jG jX (qT (jA (kQ (jA jO (jA (pv 3) jB))) (jA (kQ (jA jO (jA (jW qG jD (jF aa hr (jA (pv 0) (jA jD jB)))) (jA (kQ (jA jO (jA (pv 3) jB))) jB)))) jB))) (qP mH rfl M.int boot_int (jA (vC kS (pv 2) jD (vX _)) jB))))) jL) (jE (jR 4 zY.nd (jF aa hr (jA (pv 0) (jA (pv 1) jB)))) (jE (jV (jP aLs (pv 2) jD) (jC (jI (kQ (jA jO (jA (pv 4) jB))))) jL) (jE (jV (jP kS (pv 2) jD) (jC (jI (kQ (jA jO (jA (jW qG jD (jF aa hr (jA (pv 0) (jA jD jB)))) (jA (kQ (jA jO (jA (pv 4) jB))) jB)))))) jL) (jE (jV (jP kS (pv 1) jD) (jC (jI (kQ (jA jO (jA (pv 3) jB))))) jL) (jC (jI (kQ (jA jO (jA (kU ["_law_k"] ["_law_known","_law_at"] [1,4] rfl (vI rfl M.range (jA (jN (tJ rfl) rfl M.min boot_min (jA (pv 1) (jA (jW qG jD (jF aa hr (jA (pv 0) (jA jD jB)))) jB))) jB)) rfl ⟨rfl,⟨rfl,trivial⟩⟩ ⟨⟨rfl,rfl,rfl,_,rfl⟩,⟨⟨rfl,rfl,rfl,_,rfl⟩,trivial⟩⟩ (fun _ _ _ _=>(qD rfl)) (fun _ _ _ _=>kT) (fun _ _ _ _=>(jW xO (jW qG (pv 2) (pv 0)) (pv 1)))) jB)))))))))))),?_⟩;refine⟨_,rfl,p,8,rfl,by decide,by decide,hs,fun v1 H1 hv1 d1=>⟨_,rfl,p,4,rfl,by decide,by decide,d1.1,fun v2 H2 hv2 d2=>⟨_,_,rfl,rfl,?_⟩⟩⟩;have dd:=d1.trans d2;have al2:=Al.drawn hal dd;have ew:(1:Int)+(v2:Nat)=((1+v2:Nat):Int):=by omega
 have tup:∀{H0 H1:Hp}{t:Addr}{o:HO},Al xs H0->H0 t=none->upd H0 t o=H1->Al xs H1/\jJ H0 H1/\offs xs H1 t=some o:=fun al ht e=>by
  obtain⟨g,k⟩:=kY e ht;exact⟨al.same g,g,qI (al.new ht) k⟩
 dsimp only[yC];refine joinC (decide (v1<3\/n=0)) (H':=H2) ?_ (fun Q' hQ=>?_)
 ·by_cases hc:v1<3\/n=0
  ·refine vZ (decide_eq_true hc) ⟨_,rfl,xT,fun t1 ht1=>?_⟩;generalize e3:upd H2 t1 _=H3;obtain⟨al3,g3,k3⟩:=tup al2 ht1 e3;refine⟨_,rfl,p,6,rfl,by decide,by decide,jJ.st3 g3 d2.1,fun v3 H4 hv3 d4=>⟨_,_,rfl,rfl,_,rfl,xT,fun t2 ht2=>?_⟩⟩;have al4:=Al.drawn al3 d4;have k34:=d4.offs hpx _ _ k3;generalize e5:upd H4 t2 _=H5;obtain⟨al5,g5,k5⟩:=tup al4 ht2 e5;refine⟨aAc,fun t3 ht3=>?_⟩;generalize e6:upd H5 t3 _=H6;obtain⟨al6,g6,k6⟩:=tup al5 ht3 e6;refine⟨xT,fun l hl=>?_⟩;clear 1 l H7 g7 k7 hl;have D7:Drawn p H H7:=(((dd.keep g3).trans d4).keep ((g5.trans g6).trans g7));have s57:jJ (offs xs H5) (offs xs H7):=jZ (g6.trans g7);have s67:jJ (offs xs H6) (offs xs H7):=jZ g7;have s47:jJ (offs xs H4) (offs xs H7):=jZ ((g5.trans g6).trans g7);rw[ew]at k34 k5;have e3':(1:Int)+(v3:Nat)=((1+v3:Nat):Int):=by omega
   (try dsimp only at k6)
   rw[e3']at k6
   by_cases h2:v1=2
   ·refine⟨_,rfl,rfl,_,rfl,l,_,_,.ref t3,rfl,rfl,SqL.of k7,(by rw[if_pos (by rw[h2];decide)];rfl),q t3 (.many (1+v3) (.num (1+v2))) H7 D7 ⟨by omega,by omega,.inl ⟨1+v2,rfl,by omega,by omega⟩⟩ (.many (SqT.of (s67 _ _ k6)) (.num (SqT.of (s57 _ _ k5))))⟩
   ·refine⟨_,rfl,rfl,_,rfl,l,_,_,.ref t1,rfl,rfl,SqL.of k7,(by rw[if_neg (by simp;omega)];rfl),q t1 (.num (1+v2)) H7 D7 ⟨by omega,by omega⟩ (.num (SqT.of (s47 _ _ k34)))⟩
  ·have hv3 : 3<=v1:=by omega
   have hn0 : 0<n:=by omega
   refine qO (by rw[decide_eq_false hc];decide) ⟨_,rfl,_,rfl,p,n,rfl,by omega,by omega,dd.1,fun v3 H3 hv3' d3=>?_⟩;have d23:=dd.trans d3;have al3:=Al.drawn al2 d3;refine⟨_,rfl,_,_,rfl,rfl,_,rfl,xG (fun c=>?_) (fun c=>?_)⟩
   ·refine⟨_,rfl,xT,fun t ht=>?_⟩;generalize e4:upd H3 t _=H4;obtain⟨al4,g4,k4⟩:=tup al3 ht e4;exact q t (.nest v3) H4 (d23.keep g4) (by show v3<n;omega) (.nest (SqT.of k4))
   ·refine⟨_,rfl,rfl,_,rfl,xG (fun c=>?_) (fun c=>?_)⟩
    ·refine⟨_,rfl,p,6,rfl,by decide,by decide,d3.1,fun v4 H4 hv4 d4=>⟨_,_,rfl,rfl,_,rfl,xT,fun t2 ht2=>?_⟩⟩;have al4:=Al.drawn al3 d4;generalize e5:upd H4 t2 _=H5;obtain⟨al5,g5,k5⟩:=tup al4 ht2 e5;refine⟨aAc,fun t3 ht3=>?_⟩;generalize e6:upd H5 t3 _=H6;obtain⟨al6,g6,k6⟩:=tup al5 ht3 e6;have e4':(1:Int)+(v4:Nat)=((1+v4:Nat):Int):=by omega
     (try dsimp only at k6)
     rw[e4']at k6;exact q t3 (.many (1+v4) (.nest v3)) H6 ((d23.trans d4).keep (g5.trans g6)) ⟨by omega,by omega,.inr ⟨v3,rfl,by omega⟩⟩ (.many (SqT.of k6) (.nest (SqT.of (jZ g6 _ _ k5))))
    ·refine⟨_,rfl,rfl,_,rfl,xG (fun c=>?_) (fun c=>?_)⟩
     ·refine⟨_,rfl,xT,fun t ht=>?_⟩;generalize e4:upd H3 t _=H4;obtain⟨al4,g4,k4⟩:=tup al3 ht e4;rw[ew]at k4;exact q t (.num (1+v2)) H4 (d23.keep g4) ⟨by omega,by omega⟩ (.num (SqT.of k4))
     ·have hn1:n≠1:=fun z=>c (by rw[z];decide);refine⟨_,rfl,_,rfl,p,3,rfl,by decide,by decide,d3.1,fun v4 H4 hv4 d4=>⟨_,_,rfl,rfl,_,_,rfl,?_⟩⟩;have al4:=Al.drawn al3 d4;obtain⟨m,hm,hm2,hm4,hmn⟩ : ∃m:Nat,(if (2:Int)+(v4:Nat)<(n:Nat) then (2:Int)+(v4:Nat) else (n:Nat))=(m:Nat)/\2<=m/\m<=4/\m<=n:=by
       by_cases z:(2:Int)+(v4:Nat)<(n:Nat)
       ·exact⟨2+v4,by rw[if_pos z];omega,by omega,by omega,by omega⟩
       ·exact⟨n,by rw[if_neg z],by omega,by omega,ξ _⟩
      refine⟨_,rfl,(by rw[hm];omega),(by rw[hm];omega),?_⟩;rw[hm];refine yE (n:=m) (fun j ys H'=>H'=H4/\ys=((ir j).map fun k=>(v3+k) % n).map fun i:Nat=>V.int i) ⟨rfl,rfl⟩ (fun j ys H' _ z=>by rw[z.2,δ,δ,jx];exact ξ _) (kL (by omega)) (fun j ys H' hj z=>?_) (fun ys H' z l hl=>?_)
      ·obtain⟨rfl,rfl⟩:=z;refine⟨_,rfl,_,rfl,_,_,rfl,rfl,_,rfl,_,_,rfl,rfl,(by show(0:Int)<(n:Nat);omega),⟨rfl,?_⟩,_,rfl⟩;rw[sr,ρ,ρ]
       congr 1
       show[V.int (((v3:Nat)+(0+(j:Nat))) % (n:Nat))]=[V.int (((v3+j) % n:Nat):Int)]
       congr 2
       rw[qu,←su]
       first|exact(Int.natCast_emod _ _).symm|exact(Int.ofNat_emod _ _).symm|rfl
      ·obtain⟨rfl,rfl⟩:=z;generalize e5:upd H' l _=H5;obtain⟨al5,g5,k5⟩:=tup al4 hl e5;refine⟨xT,fun t ht=>?_⟩;generalize e6:upd H5 t _=H6;obtain⟨al6,g6,k6⟩:=tup al5 ht e6;refine q t (.pick ((ir m).map fun k=>(v3+k) % n)) H6 ((d23.trans d4).keep (g5.trans g6)) ⟨by rw[δ,jx];exact hm2,by rw[δ,jx];exact hm4,aIw hmn,fun i hi=>?_⟩ (.pick (SqT.of k6) (SqL.of (jZ g6 _ _ k5)));obtain⟨k,_,rfl⟩:=iw.mp hi;exact Nat.mod_lt _ hn0
 ·refine⟨_,rfl,_,_,rfl,rfl,_,rfl,xG (fun c=>?_) (fun c=>?_)⟩
  ·have c':(v1:Int)<3:=of_decide_eq_true c;rw[decide_eq_true (show v1<3\/n=0 from .inl (by omega))]at hQ;exact hQ
  ·have c':¬ (v1:Int)<3:=fun z=>c (decide_eq_true z);refine⟨_,rfl,rfl,_,rfl,?_⟩;rw[show decide (V.int (n:Nat)=V.int 0)=decide (v1<3\/n=0) by
    by_cases z:n=0
    ·rw[decide_eq_true (show v1<3\/n=0 from .inr z),z];decide
    ·rw[decide_eq_false (show ¬ (v1<3\/n=0) by omega),decide_eq_false];intro e;injection e with e;omega]
   exact hQ
theorem lE(F:Fun K "_law_kind_text" "_law_kind_text" yU f fd)(ak:j4 "_law_kind_text" (aLp K r)):j1 ["_law_kind_here","_law_shapes_here"] (aLp K (r+1)):=by
 w_cond lH;obtain⟨a,sl,kd,S,rfl,hlv,hf,hn,hlk,hlx,q⟩:=h;refine⟨_,(jE (jV (jP kS (jG jQ (pv 0) jD) jO) (jC (jI (jW qW jO (qP bY rfl M.str boot_str (jA (jG jQ (pv 0) jD) jB))))) jL) (jE (jV (jP kS (jG jQ (pv 0) jD) jO) (jC (jI (jW qW (jW qW (jW qW jO (qP bY rfl M.str boot_str (jA (jG jQ (pv 0) jD) jB))) jO) (jF ak hr (jA (jG jQ (pv 0) jD) (jA (pv 1) jB)))))) jL) (jE (jV (jP kS (jG jQ (pv 0) jD) jO) (jC (jI (aC oo sy tf iF jO (jA (jW bX (qT (jA jO jB)) (kU ["_law_at"] ["_law_shapes_here"] [1] rfl (qK (jG jQ (pv 0) jD)) rfl ⟨rfl,trivial⟩ ⟨⟨rfl,rfl,rfl,_,rfl⟩,trivial⟩ (fun _ _ _ _=>(qD rfl)) (fun _ _ _ _=>kT) (fun _ _ _ _=>(jG (uF K rfl) (jG (aCk K rfl) (pv 1) (pv 0)) jD)))) jB)))) jL) (jC (jI (jG jQ (jG jX (pv 1) (jG jQ (pv 0) jD)) jD)))))),?_⟩;have lg:∀i:Nat,i<=9->(((i:Nat):Int)).natAbs.log2<1920:=fun i hi=>vh (bH (by omega)) (by decide);have jc:∀(x:Str) (ys:List Str),ys≠[]->jo L2.spS (x::ys)=x++L2.spS++jo L2.spS ys:=fun x ys h=>mB h;obtain⟨w6,w5⟩:=aW hn hf;cases id hlk with
 | @num a w h1 =>
  have hw:w<=4:=hf.2;have d2:=(dig (w:=w) (by omega)).2.1;refine⟨_,rfl,a,_,_,_,rfl,rfl,h1,rfl,rfl,_,rfl,kO ⟨_,rfl,a,_,_,_,rfl,rfl,h1,rfl,_,rfl,lg w (by omega),_,_,rfl,rfl,(by show 4+(η (toString ((w:Nat):Int))).length<=τ;rw[d2];decide),?_⟩⟩;have q':=q H (jJ.refl _);rw[show(Kd.num w).words (kK S)=[η "num",η (toString ((w:Nat):Int))] from rfl,jc _ _ (by simp)]at q';exact q'
 | @many a b n k h1 h2 =>
  have hn6:n<=6:=hf.2.1;have d2:=(dig (w:=n) (by omega)).2.1;have hlk0:k.lv=0:=by rcases hf.2.2 with⟨w,rfl,_⟩|⟨i,rfl,_⟩ <;> rfl
  have kl:(jo L2.spS (k.words (kK S))).length<=100:=by
   obtain⟨v6,v5⟩:=aW hn hf.sub;have h3:(jo L2.spS (k.words (kK S))).length<=_:=pT (c:=32) (m:=6) v6;omega
  refine⟨_,rfl,a,_,_,_,rfl,rfl,h1,rfl,rfl,_,rfl,jU ⟨_,rfl,a,_,_,_,rfl,rfl,h1,rfl,rfl,_,rfl,kO ⟨_,rfl,a,_,_,_,rfl,rfl,h1,rfl,_,rfl,lg n (by omega),_,_,rfl,rfl,(by show 4+(η (toString ((n:Nat):Int))).length<=τ;rw[d2];decide),_,_,rfl,rfl,(by rw[il,kj];show 4+(η (toString ((n:Nat):Int))).length+1<=_;omega),_,rfl,a,_,_,_,rfl,rfl,h1,rfl,_,rfl,b,sl,k,S,rfl,(by rw[hlk0];have : 1<r+1:=hlv;omega),hf.sub,hn,h2,hlx,fun H' g=>⟨_,_,rfl,rfl,(by rw[il,kj,kj];show 4+(η (toString ((n:Nat):Int))).length+1+_<=_;omega),?_⟩⟩⟩⟩;have q':=q H' g;rw[show(Kd.many n k).words (kK S)=η "row" :: η (toString ((n:Nat):Int))::k.words (kK S) from rfl,jc _ _ (by simp),jc _ _ (Kd.words_ne _ _)]at q';rw[ud,ud];rw[ud,ud,←ud (η "row")]at q';exact q'
 | @pick a l is h1 h2 =>
  have hs4:=hf.2.1;have zl:(is.map fun n:Nat=>V.int n).length=is.length:=δ _;refine⟨_,rfl,a,_,_,_,rfl,rfl,h1,rfl,rfl,_,rfl,jU ⟨_,rfl,a,_,_,_,rfl,rfl,h1,rfl,rfl,_,rfl,jU ⟨_,rfl,a,_,_,_,rfl,rfl,h1,rfl,rfl,_,rfl,kO ⟨rfl,lP,fun l1 hl1=>?_⟩⟩⟩⟩;clear 1 l1 H1 g1 k1 hl1;refine⟨_,rfl,a,_,_,_,rfl,rfl,g1.tp h1,rfl,l,rfl,⟨_,g1.seq h2⟩,vV (xs:=is.map fun n:Nat=>V.int n) (fun j ys H'=>H'=H1/\ys=((is.take j).map (kK S)).map V.str) ⟨rfl,rfl⟩ (fun j ys H' _ z=>⟨by rw[z.1];exact g1.seq h2,by rw[z.2,δ,δ,ib];exact jy _ _⟩) (kL (by omega)) (fun j x ys H' hx z=>?_) (fun ys H' z p hp=>?_)⟩
  ·obtain⟨rfl,rfl⟩:=z;obtain⟨i,hi,rfl⟩:=iN hx;have hiS:=hf.2.2.2 i (ι hi);obtain⟨as,s,l',ps,m1,m2,m3,m4,m5⟩:=hlx.at hiS;refine⟨_,rfl,_,rfl,sl,_,_,_,rfl,rfl,g1.seq m1,xM m2,s,_,_,_,rfl,rfl,g1.tp m3,rfl,⟨rfl,?_⟩,_,rfl⟩;rw[qV hi,ρ,vJ (ζ hiS)];rfl
  ·obtain⟨rfl,rfl⟩:=z;rw[zl,kM];clear 1 p H2 g2 k2 hp;refine⟨l1,p,_,_,rfl,rfl,g2 _ _ k1,k2,(by rw[il,δ,δ];simp;omega),fun l3 hl3=>?_⟩;clear 1 l3 H3 g3 k3 hl3;refine⟨_,l3,η "pick" :: is.map (kK S),rfl,rfl,SqL.of k3,?_,q H3 ((g1.trans g2).trans g3)⟩;have hsum:((η "pick" :: is.map (kK S)).map (·.length)).sum<=(η "pick" :: is.map (kK S)).length*6:=gK w6;have hl5:(η "pick" :: is.map (kK S)).length<=5:=w5;have h1l:(η " ").length=1:=rfl;rw[h1l];omega
 | @nest a i h1 =>
  obtain⟨as,s,l',ps,m1,m2,m3,m4,m5⟩:=hlx.at hf;have q':=q H (jJ.refl _);rw[show jo L2.spS ((Kd.nest i).words (kK S))=kK S i from rfl,vJ (ζ hf)]at q';exact⟨_,rfl,a,_,_,_,rfl,rfl,h1,rfl,rfl,_,rfl,jU ⟨_,rfl,a,_,_,_,rfl,rfl,h1,rfl,rfl,_,rfl,jU ⟨_,rfl,a,_,_,_,rfl,rfl,h1,rfl,rfl,_,rfl,jU ⟨_,rfl,_,rfl,a,_,_,_,rfl,rfl,h1,rfl,sl,_,_,_,rfl,rfl,m1,xM m2,s,_,_,_,rfl,rfl,m3,rfl,q'⟩⟩⟩⟩
theorem aCh(F:Fun K "_law_text" "_law_text" fM f fd)(ak:j4 "_law_kind_text" (aLp K 2)):j1 ["_law_shapes_here"] (spTx K):=by
 w_cond xR;obtain⟨sl,S,rfl,hlx,hW,hne,q⟩:=h;refine⟨_,(jE (jR 1 xR.nd (qT jB)) (jE (qZ iy rfl (qK (pv 0)) (xL rfl (kH (kN 2 xR.nd) (kH (kN 3 xR.nd) qQ))) (jE (vM (aC li ny nz zF (pv 1) (jA (jW qW jO (pv 2)) jB))) (jC (qZ iy rfl (qK (pv 3)) (xL rfl (kH (kN 4 xR.nd) (kH (kN 5 xR.nd) qQ))) (jC (vM (aC li ny nz zF (pv 1) (jA (jW qW (jW qW (pv 4) jO) (jF ak hr (jA (pv 5) (jA (pv 0) jB)))) jB)))))))) (jC (jI (aC oo sy tf iF jO (jA (pv 1) jB)))))),?_⟩;obtain⟨as,ha,hLW⟩:=id hlx;obtain⟨h30,hrow,_⟩:=aKe hW hne;have hn:=wQ hW.nm;have jc:∀(x:Str) (ys:List Str),ys≠[]->jo L2.spS (x::ys)=x++L2.spS++jo L2.spS ys:=fun x ys h=>mB h;refine⟨lZ,fun ll hll=>?_⟩;clear 1 ll H1 g1 k1 hll;have zl:(as.map V.ref).length=S.length:=by rw[δ];exact hLW.len
 have few:∀A:List Itm,(∃B,vB S=A++B)->A.length<=40:=fun A ⟨B,e⟩=>by rw[e,ν]at h30;omega
 refine⟨_,rfl,sl,rfl,⟨_,g1.seq ha⟩,xI (xs:=as.map V.ref) (fun i σ H'=>∃o2 o3 o4 o5,σ = [some (.ref sl),some (.ref ll),o2,o3,o4,o5]/\But ll H1 H'/\H' ll=some (.lst (((vB (S.take i)).map (rX S)).map V.str))) ⟨_,_,_,_,rfl,But.refl,k1⟩ (fun i σ H' _ z=>?_) (fun i x σ H' hx z=>?_) (fun σ H' z=>?_)⟩
 ·obtain⟨o2,o3,o4,o5,rfl,g,_⟩:=z;exact(But.from g1 hll g).seq ha
 ·obtain⟨o2,o3,o4,o5,rfl,g,kl⟩:=z;obtain⟨s,hs,rfl⟩:=qF hx;obtain⟨sh,hS,l,ps,m1,m2,m3⟩:=hLW.get hs;have hsS:=ι hS;have hi:i<S.length:=(ε.mp hS).1;have gH:=But.from g1 hll g;have eS:vB S=vB (S.take i)++(hZ sh++vB (S.drop (i+1))):=by
   conv=>lhs;rw[(aBn hS).1]
   rw[zO];rfl
  have hnm:=hW.nm sh hsS;have hsl:=(vQ hnm).2;have l1:=few (vB (S.take i)) ⟨_,eS⟩;refine⟨s,_,rfl,gH.tp m1,rfl,_,_,rfl,_,_,rfl,rfl,_,rfl,.inl ⟨rfl,_,SqL.of kl⟩,_,rfl,_,_,rfl,rfl,(by show 6+sh.1.length<=τ;rw[il];omega),ll,_,_,rfl,rfl,kl,(by rw[δ,δ];exact kn l1 (by decide)),?_⟩;clear 0 ll H2 g2 k2;have gg2:=g.trans g2;have er:(η "shape " ++ sh.1:Str)=rX S (.sh sh.1):=by
   show _=jo L2.spS [η "shape",sh.1];rw[jc _ _ (by simp)];rfl
  have k2':H2 ll=some (.lst (((vB (S.take i)++(.sh sh.1::(sh.2.take 0).map fun f=>Itm.fd f.1 f.2)).map (rX S)).map V.str)):=by
   rw[k2,ρ,ρ];show some (HO.lst (_++[V.str (η "shape " ++ sh.1)]))=_;rw[er];rfl
  refine⟨_,rfl,l,rfl,⟨_,(But.from g1 hll gg2).seq m2⟩,xI (xs:=ps.map V.ref) (fun j σ H3=>∃o4 o5,σ = [some (.ref sl),some (.ref ll),some (.str sh.1),some (.ref l),o4,o5]/\But ll H1 H3/\H3 ll=some (.lst (((vB (S.take i)++(.sh sh.1::(sh.2.take j).map fun f=>Itm.fd f.1 f.2)).map (rX S)).map V.str))) ⟨_,_,rfl,gg2,k2'⟩ (fun j σ H3 _ z=>?_) (fun j x σ H3 hx z=>?_) (fun σ H3 z=>?_)⟩
  ·obtain⟨o4,o5,rfl,g3,_⟩:=z;exact(But.from g1 hll g3).seq m2
  ·obtain⟨o4,o5,rfl,g3,kl3⟩:=z;obtain⟨t,ht,rfl⟩:=qF hx;obtain⟨nm',kd',kk,hfs,htt,hko⟩:=m3.get ht;have hfm:=ι hfs;have hfit:kd'.Fit S.length:=(hW.good.fit i sh hS _ hfm).1.mono (kq hi);have hfn:=(vQ (hW.fnm sh hsS _ hfm)).2;have hfn':nm'.length<=6:=hfn;have gH3:=But.from g1 hll g3;have hit:Itm.fd nm' kd'∈vB S:=by
    rw[eS];refine ia _ (iu _ (Ψ _ ?_));exact iw.mpr ⟨_,hfm,rfl⟩
   have r100:(jo L2.spS (nm'::kd'.words (kK S))).length<=100:=(hrow _ hit).1;rw[jc _ _ (Kd.words_ne _ _),kj,kj]at r100;refine⟨t,_,rfl,gH3.tp htt,rfl,_,_,rfl,_,_,rfl,rfl,_,rfl,.inl ⟨rfl,_,SqL.of kl3⟩,_,rfl,_,_,rfl,rfl,(by show nm'.length+1<=τ;rw[il];omega),_,rfl,_,rfl,kk,sl,kd',S,rfl,(by have:=kd'.lv_le;omega),hfit,hn,hko.same gH3,hlx.same gH3,fun H4 g4=>⟨_,_,rfl,rfl,(by rw[il,kj];show nm'.length+1+_<=_;have:L2.spS.length=1:=rfl;omega),?_⟩⟩;have kl4:=g4 _ _ kl3;have l2:(vB (S.take i)++(.sh sh.1::(sh.2.take j).map fun f=>Itm.fd f.1 f.2)).length<=40:=few _ ⟨((sh.2.drop j).map fun f=>Itm.fd f.1 f.2)++vB (S.drop (i+1)),by
    rw[eS];unfold hZ
    conv=>lhs;rw[←ky j sh.2]
    rw[ρ];simp only[jr,qg]⟩
   refine⟨ll,_,_,rfl,rfl,kl4,(by rw[δ,δ];exact kn l2 (by decide)),?_⟩;clear 0 ll H5 g5 k5;refine⟨_,_,rfl,(g3.trans (But.of g4)).trans g5,?_⟩;rw[k5,qV hfs,←qg,←jr,ρ (l₂:=[Itm.fd nm' kd']),ρ (l₂:=List.map (rX S) [Itm.fd nm' kd'])];have er2:(nm'++η " " ++ jo L2.spS (kd'.words (kK S)):Str)=rX S (.fd nm' kd'):=by
    show _=jo L2.spS (nm'::kd'.words (kK S));rw[jc _ _ (Kd.words_ne _ _)];rfl
   show some (HO.lst (_++[V.str (nm'++η " " ++ jo L2.spS (kd'.words (kK S)))]))=_;rw[er2];rfl
  ·obtain⟨o4,o5,rfl,g3,kl3⟩:=z;refine⟨_,_,_,_,rfl,g3,?_⟩;rw[kl3,δ,m3.len,kM];have e6:S.take (i+1)=S.take i++[sh]:=by rw[jq,hS];rfl
   rw[e6,zO,show vB [sh]=hZ sh from qc ..];rfl
 ·obtain⟨o2,o3,o4,o5,rfl,g,kl⟩:=z;rw[zl,kM]at kl;refine⟨rfl,_,rfl,_,ll,(vB S).map (rX S),rfl,rfl,SqL.of kl,?_,?_⟩
  ·have hsum:(((vB S).map (rX S)).map (·.length)).sum<=((vB S).map (rX S)).length*100:=gK fun w hw=>by
    obtain⟨it,hit,rfl⟩:=iw.mp hw;exact(hrow it hit).1
   have h1l:(η "\n").length=1:=rfl;rw[δ]at hsum;rw[h1l,δ];omega
  ·have q':=q H' (But.from g1 hll g);rw[aKl]at q';exact q'
theorem uP(F:Fun K "_law_names" "_law_names" cZ f fd)(aa:j4 "_law_take" aQ):j1 ["_law_box_here"] (aPi K):=by
 w_cond xY;obtain⟨p,rfl,hs,q⟩:=h;refine⟨_,(PSx.h (xF (eQ (jR 1 xY.nd (jF aa hr (jA (pv 0) (jA jD jB))))) (xF (eQ (jR 2 xY.nd (jF aa hr (jA (pv 0) (jA jD jB))))) (xF (aHh (jP kS (pv 1) jD) (xF (aHs (i:=3) xY.nd rfl (Or.inr rfl) (aGo (kZ (qL jO) (kZ (qL jO) (kZ (qL jO) (kZ (qL jO) (kZ (qL jO) (kZ (qL jO) (kZ (qL jO) (kZ (qL jO) (kZ (qL jO) (kZ (qL jO) (kZ (qL jO) (kZ (qL jO) wZ qE) qE) qE) qE) qE) qE) qE) qE) qE) qE) qE) qE))) (iU (dH (qL (kU ["_law_k"] ["_law_words","_law_at"] [3,2] rfl (vI rfl M.range (jA jD jB)) rfl ⟨rfl,⟨rfl,trivial⟩⟩ ⟨⟨rfl,rfl,rfl,_,rfl⟩,⟨⟨rfl,rfl,rfl,_,rfl⟩,trivial⟩⟩ (fun _ _ _ _=>(qD rfl)) (fun _ _ _ _=>kT) (fun _ _ _ _=>(jW qW (jG (aCk K rfl) (pv 1) (jW xO (jW qG (pv 2) (pv 0)) jD)) jO))))))) jL) (xF (aHh (jP kS (pv 1) jD) (xF (eQ (jR 4 xY.nd (aC oo sy tf iF jO (jA (kU ["_law_k"] ["_law_box_here"] [0] rfl (vI rfl M.range (jA (jF aa hr (jA (pv 0) (jA jD jB))) jB)) rfl ⟨rfl,trivial⟩ ⟨⟨rfl,rfl,rfl,_,rfl⟩,trivial⟩ (fun _ _ _ _=>(qD rfl)) (fun _ _ _ _=>kT) (fun _ _ _ _=>(jG aFc jO (jF aa hr (jA (pv 1) (jA jD jB)))))) jB)))) (iU (dH (qL (kU ["_law_k"] ["_law_tail","_law_at"] [4,2] rfl (vI rfl M.range (jA jD jB)) rfl ⟨rfl,⟨rfl,trivial⟩⟩ ⟨⟨rfl,rfl,rfl,_,rfl⟩,⟨⟨rfl,rfl,rfl,_,rfl⟩,trivial⟩⟩ (fun _ _ _ _=>(qD rfl)) (fun _ _ _ _=>kT) (fun _ _ _ _=>(jW qW (jW qW (jG aFc jO (jW xO (jW qG (pv 2) (pv 0)) jD)) (pv 1)) jO))))))) jL) (iU (dH (qL (jW bX (kU ["_law_k"] ["_law_at"] [2] rfl (vI rfl M.range (jA jD jB)) rfl ⟨rfl,trivial⟩ ⟨⟨rfl,rfl,rfl,_,rfl⟩,trivial⟩ (fun _ _ _ _=>(qD rfl)) (fun _ _ _ _=>kT) (fun _ _ _ _=>(qX aNh jO vO (vN (jW qG jD (jW xO (jW qG (pv 1) (pv 0)) jD)))))) (qT (jA jO (jA jO (jA jO (jA jO (jA jO (jA jO jB qE) qE) qE) qE) qE) qE))))))))))),?_⟩;refine⟨_,rfl,p,3,rfl,by decide,by decide,hs,fun v1 H1 hv1 d1=>⟨_,rfl,p,12,rfl,by decide,by decide,d1.1,fun v2 H2 hv2 d2=>?_⟩⟩;have dd:=d1.trans d2;have h12:v2<12:=by omega
 refine⟨_,rfl,rfl,_,rfl,xG (fun c=>?_) (fun c=>?_)⟩
 ·refine⟨(by show 12<=τ;decide),fun l0 hl0=>?_⟩;clear 1 l0 H3 g3 k3 hl0;have k3':H3 l0=some (.lst (w0L.map V.str)):=k3;refine⟨12,rfl,by decide,by decide,yE (n:=12) (fun j ys H'=>H'=H3/\ys=((ir j).map fun k=>(w0L.getD ((v2+k) % 12) Str.empty)++η "q").map V.str) ⟨rfl,rfl⟩ (fun j ys H' _ z=>by rw[z.2,δ,δ,jx];exact ξ _) (by decide) (fun j ys H' hj z=>?_) (fun ys H' z l hl=>?_)⟩
  ·obtain⟨rfl,rfl⟩:=z;have hlt:(v2+j) % 12<w0L.length:=Nat.mod_lt _ (by decide);have hw:w0L[(v2+j) % 12]?=some (w0L.getD ((v2+j) % 12) Str.empty):=by rw[Ω,ζ hlt];rfl
   have hlen:∀i:Fin 12,(w0L.getD i.val Str.empty).length<=5:=by ac_rfl
   have hl5:=hlen ⟨(v2+j) % 12,hlt⟩;refine⟨_,rfl,_,rfl,_,rfl,_,_,rfl,rfl,_,_,rfl,rfl,(by show(0:Int)<12;decide),l0,_,_,_,rfl,rfl,SqL.of k3',(by rw[show(((v2:Nat):Int)+((0:Int)+(j:Nat))) % 12=(((v2+j) % 12:Nat):Int) from modc (n:=12)];exact pL hw),_,_,rfl,rfl,(by rw[il];have:(η "q").length=1:=rfl;have h5:(w0L.getD ((v2+j) % 12) Str.empty).length<=5:=hl5;omega),⟨rfl,?_⟩,_,rfl⟩;rw[sr,ρ,ρ];rfl
  ·obtain⟨rfl,rfl⟩:=z;clear 1 l H4 g4 k4 hl;exact q l (nm0 v2) H4 (dd.keep (g3.trans g4)) (dd.free (g3.free hl)) k4 (aQg h12) (nm0_c h12)
 ·refine⟨_,rfl,rfl,_,rfl,xG (fun c=>?_) (fun c=>?_)⟩
  ·refine⟨rfl,_,rfl,p,5,rfl,by decide,by decide,d2.1,fun v3 H3 hv3 d3=>⟨v3,rfl,by omega,by omega,yE (n:=v3) (fun j ys H'=>Drawn p H3 H'/\∃cs:List Nat,ys=cs.map (fun c=>V.str ⟨#[c]⟩)/\cs.length=j/\∀c∈cs,97<=c/\c<=122) ⟨Drawn.refl d3.1,[],rfl,rfl,fun c hc=>by cases hc⟩ (fun j ys H' _ z=>?_) (kL (by omega)) (fun j ys H' hj z=>?_) (fun ys H' z l hl=>?_)⟩⟩
   ·obtain⟨_,cs,rfl,hcl,_⟩:=z;rw[δ];omega
   ·obtain⟨d4,cs,rfl,hcl,hcs⟩:=z;refine⟨_,rfl,p,13,rfl,by decide,by decide,d4.1,fun v5 H5 hv5 d5=>?_⟩;have hz:∀i:Fin 13,∃c,(η "abdeilmnorstu").cps.toList[i.val]?=some c/\97<=c/\c<=122:=fun i=>by
     have:∀i:Fin 13,97<=(η "abdeilmnorstu").cps.toList.getD i.val 0/\(η "abdeilmnorstu").cps.toList.getD i.val 0<=122:=by ac_rfl
     have hl13:i.val<(η "abdeilmnorstu").cps.toList.length:=ω i.isLt (by decide);have e:(η "abdeilmnorstu").cps.toList[i.val]?=some ((η "abdeilmnorstu").cps.toList.getD i.val 0):=by rw[Ω,ζ hl13];rfl
     exact⟨_,e,this i⟩
    obtain⟨c',hc1,hc2⟩:=hz ⟨v5,by omega⟩;refine⟨_,_,c',rfl,rfl,by decide,vT hc1,⟨d4.trans d5,cs++[c'],by rw[ρ];rfl,by rw[ν,hcl];rfl,fun x hx=>?_⟩,_,rfl⟩;rcases je.mp hx with hx|hx
    ·exact hcs x hx
    ·rw[ο.mp hx];exact hc2
   ·obtain⟨d4,cs,rfl,hcl,hcs⟩:=z;clear 1 l H5 g5 k5 hl;have hcl4:cs.length<=4:=by omega
    have dd5:=(dd.trans (d3.trans d4)).keep g5;have k5':H5 l=some (.lst ((cs.map fun c=>(⟨#[c]⟩ : Str)).map V.str)):=by rw[k5,jp];rfl
    refine⟨_,l,cs.map fun c=>⟨#[c]⟩,rfl,rfl,SqL.of k5',?_,?_⟩
    ·rw[jp,δ];have:(cs.map ((fun x:Str=>x.length)∘fun c=>(⟨#[c]⟩ : Str))).sum<=cs.length*1:=gK fun c hc=>ξ _;have h0:(η "").length=0:=rfl;rw[h0];omega
    ·have tc:=aBt cs;generalize jo (η "") (cs.map fun c=>(⟨#[c]⟩ : Str))=tl at tc;have htl:tl.length=cs.length:=by rw[←tc];exact(lj).symm
     refine⟨12,rfl,by decide,by decide,yE (n:=12) (fun j ys H'=>H'=H5/\ys=((ir j).map fun k=>(⟨#[c1 v2 k]⟩ : Str)++tl++η "x").map V.str) ⟨rfl,rfl⟩ (fun j ys H' _ z=>by rw[z.2,δ,δ,jx];exact ξ _) (by decide) (fun j ys H' hj z=>?_) (fun ys H' z l hl=>?_)⟩
     ·obtain⟨rfl,rfl⟩:=z;have hlt:(v2+j) % 12<c1L.cps.toList.length:=ω (Nat.mod_lt _ (by decide)) (by decide);have hw:c1L.cps.toList[(v2+j) % 12]?=some (c1 v2 j):=by unfold c1;rw[Ω,ζ hlt];rfl
      refine⟨_,rfl,_,rfl,_,_,rfl,rfl,_,_,rfl,rfl,(by show(0:Int)<12;decide),_,_,c1 v2 j,rfl,rfl,by decide,(by rw[show(((v2:Nat):Int)+((0:Int)+(j:Nat))) % 12=(((v2+j) % 12:Nat):Int) from modc (n:=12)];exact vT hw),_,rfl,_,_,rfl,rfl,(by show 1+tl.length<=τ;rw[il];omega),_,_,rfl,rfl,(by rw[il,kj];show 1+tl.length+1<=_;omega),⟨rfl,?_⟩,_,rfl⟩;rw[sr,ρ,ρ];rfl
     ·obtain⟨rfl,rfl⟩:=z;clear 1 l H6 g6 k6 hl;exact q l (nm1 tl v2) H6 (dd5.keep g6) (dd5.free hl) k6 (aRq h12 (by omega) (by rw[tc];exact hcs)) nm1_c
  ·refine⟨6,rfl,by decide,by decide,yE (n:=6) (fun j ys H'=>H'=H2/\ys=((ir j).map fun k=>Txt.slice (η "zyxwvu") none (some (1+(((v2+k) % 6:Nat):Int)))).map V.str) ⟨rfl,rfl⟩ (fun j ys H' _ z=>by rw[z.2,δ,δ,jx];exact ξ _) (by decide) (fun j ys H' hj z=>?_) (fun ys H' z l hl=>?_)⟩
   ·obtain⟨rfl,rfl⟩:=z;refine⟨_,rfl,_,rfl,_,_,rfl,rfl,_,_,rfl,rfl,(by show(0:Int)<6;decide),_,_,rfl,rfl,_,rfl,_,rfl,by decide,⟨rfl,?_⟩,_,rfl⟩;rw[sr,ρ,ρ,show(((v2:Nat):Int)+((0:Int)+(j:Nat))) % 6=(((v2+j) % 6:Nat):Int) from modc (n:=6)];rfl
   ·obtain⟨rfl,rfl⟩:=z;clear 1 l H3 g3 k3 hl;refine⟨(by show 6<=τ;decide),fun l2 hl2=>?_⟩;clear 1 l2 H4 g4 k4 hl2;refine⟨l,l2,_,_,rfl,rfl,g4 _ _ k3,k4,(by rw[δ,δ,jx];show 6+6<=τ;decide),fun l3 hl3=>?_⟩;clear 1 l3 H5 g5 k5 hl3;refine q l3 (nm2 v2) H5 (dd.keep ((g3.trans g4).trans g5)) (dd.free ((g3.trans g4).free hl3)) ?_ (aRx h12) (nm2_c h12);rw[k5];unfold nm2;rw[ρ];rfl
theorem rR(F:Fun K "_law_shapes" "_law_shapes" cM f fd)(fc:j4 "_law_names" (aPi K))(aa:j4 "_law_take" aQ)(ft:j4 "_law_kind" (aPr K))(fu:j4 "_law_fits" (aLc K r)):j1 ["_law_box_here","_law_most"] (spSh K r):=by
 w_cond qS;obtain⟨p,rfl,hs,hr12,h8,q⟩:=h;refine⟨_,(jE (jR 2 qS.nd (jF fc hr (jA (pv 0) jB))) (jE (jR 3 qS.nd (jF aa hr (jA (pv 0) (jA jD jB)))) (jE (jR 4 qS.nd (qT jB)) (jE (qZ iy rfl (vI rfl M.range (jA (jW qG jD (jF aa hr (jA (pv 0) (jA (pv 1) jB)))) jB)) (kN 5 qS.nd) (jE (jR 6 qS.nd (qT jB)) (jE (qZ iy rfl (vI rfl M.range (jA (jW qG jD (jF aa hr (jA (pv 0) (jA jD jB)))) jB)) (kN 7 qS.nd) (jE (jR 8 qS.nd (kQ (jA (jG jX (pv 2) (jW xO (jW qG (jW qG (pv 3) (jW yF (pv 7) jD)) (pv 5)) jD)) (jA (jF ft hr (jA (pv 0) (jA (pv 5) jB))) jB)))) (jC (jV (kR (jF fu hr (jA (jW bX (pv 4) (qT (jA (kQ (jA (jG jX (pv 2) (pv 5)) (jA (jW bX (pv 6) (qT (jA (pv 8) jB))) jB))) jB))) jB))) (jC (vM (aC li ny nz zF (pv 6) (jA (pv 8) jB)))) jL)))) (jE (jV (jP (aKy hr.units) (pv 6) (qT jB)) (jC (jR 6 qS.nd (qT (jA (kQ (jA (jG jX (pv 2) (pv 3)) (jA (kQ (jA jO (jA (jW qG jD (jF aa hr (jA (pv 0) (jA jD jB)))) jB))) jB))) jB)))) jL) (jC (vM (aC li ny nz zF (pv 4) (jA (kQ (jA (jG jX (pv 2) (pv 5)) (jA (pv 6) jB))) jB)))))))) (jC (jI (pv 4))))))),?_⟩;refine⟨_,rfl,p,rfl,hs,fun nl ns H1 d1 hnl knl ⟨hn12,hnd,hnb⟩ hnc=>⟨_,rfl,p,12,rfl,by decide,by decide,d1.1,fun v2 H2 hv2 d2=>⟨lZ,fun sl hsl=>?_⟩⟩⟩;have nnp:nl≠p:=aGk hs hnl;have knl2:=d2.2 nl _ nnp knl;clear 1 sl H3 g3 k3 hsl;have nsp:sl≠p:=aGk d2.1 hsl;have nns:nl≠sl:=jS knl2 hsl;have hslH:H sl=none:=(d1.trans d2).free hsl;have nsAt:∀i,i<12->ns[i]?=some (ns.getD i Str.empty):=fun i hi=>by rw[Ω,ζ (by omega)];rfl
 have nsB:∀i,i<12->qA (ns.getD i Str.empty)=true:=fun i hi=>hnb _ (ι (nsAt i hi));have nsI:∀i j,i<12->j<12->ns.getD i Str.empty=ns.getD j Str.empty->i=j:=fun i j hi hj e=>by
  have hp:=qp.mp hnd;have ei:=ε.mp (nsAt i hi);have ej:=ε.mp (nsAt j hj);obtain⟨ai,bi⟩:=ei;obtain⟨aj,bj⟩:=ej;rcases Nat.lt_trichotomy i j with hl|hl|hl
  ·exact absurd (by rw[bi,bj];exact e) (hp i j ai aj hl)
  ·exact hl
  ·exact absurd (by rw[bi,bj];exact e.symm) (hp j i aj ai hl)
 refine⟨_,rfl,_,rfl,p,4,rfl,by decide,by decide,jJ.st3 g3 d2.1,fun v3 H4 hv3 d4=>⟨_,_,rfl,rfl,_,rfl,(by omega),(by omega),?_⟩⟩;have D4:Drawn p H H4:=((d1.trans d2).keep g3).trans d4;have knl4:=d4.2 nl _ nnp (g3 _ _ knl2);have ksl4:=d4.2 sl _ nsp k3;rw[show((1:Int)+(v3:Nat)).toNat=1+v3 by omega];refine bA (n:=1+v3) (fun i σ H'=>∃(o5 o6 o7 o8:Option V) (as:List Addr) (S:List Shp),σ = [some (.ref p),some (.int 4),some (.ref nl),some (.int v2),some (.ref sl),o5,o6,o7,o8]/\St3 H' p/\(∀b o,b≠p->b≠sl->H4 b=some o->H' b=some o)/\H' sl=some (.lst (as.map V.ref))/\LW K (offs [p,sl] H') as S/\S.length=i/\S.map (·.1)=ns.take i/\Wel S/\Cln S) ⟨_,_,_,_,[],[],rfl,d4.1,fun _ _ _ _ e=>e,ksl4,.nil,rfl,rfl,Wel.nil,fun s hs=>by cases hs⟩ (fun i σ H' hi z=>?_) (fun σ H' z=>?_)
 ·obtain⟨o5,o6,o7,o8,as,S,rfl,st,fr,ksl,hLW,hSl,hSn,hWS,hCl⟩:=z;rw[qu];have hi5:i<5:=by omega
  have knl':=fr nl _ nnp nns knl4;refine⟨lZ,fun fl hfl=>?_⟩;clear 1 fl H5 g5 k5 hfl;have nfp:fl≠p:=aGk st hfl;have nfs:fl≠sl:=lm (jS ksl hfl);have nfn:fl≠nl:=lm (jS knl' hfl);refine⟨_,rfl,p,6,rfl,by decide,by decide,jJ.st3 g5 st,fun v4 H6 hv4 d6=>⟨_,_,rfl,rfl,_,rfl,(by omega),(by omega),?_⟩⟩;have kfl6:=d6.2 fl _ nfp k5;have knl6:=d6.2 nl _ nnp (g5 _ _ knl');have ksl6:=d6.2 sl _ nsp (g5 _ _ ksl);have hsame6:jJ (offs [p,sl] H') (offs [p,sl,fl] H6):=fun b o e=>by
   have hb:b∉[p,sl]:=fun z=>by unfold offs at e;rw[if_pos z]at e;cases e
   have e':H' b=some o:=jM _ _ e;have hbf:b≠fl:=jS e' hfl;have hbp:b≠p:=fun z=>hb (by rw[z];simp);refine qI (fun z=>?_) (d6.2 b o hbp (g5 _ _ e'));simp only[Ξ,kg,or_false]at z hb;rcases z with z|z|z
   ·exact hb (.inl z)
   ·exact hb (.inr z)
   ·exact hbf z
  have hLW6:=hLW.same hsame6;rw[show((1:Int)+(v4:Nat)).toNat=1+v4 by omega];have nmi:=nsB i (by omega);have nmN:ns.getD i Str.empty∉S.map (·.1):=fun z=>by
   rw[hSn]at z;obtain⟨j,hj⟩:=jd.mp z;have hji:j<i:=by have:=(ε.mp hj).1;rw[ib]at this;omega
   rw[pe hji,nsAt j (by omega)]at hj;have:=nsI j i (by omega) (by omega) (jv hj);omega
  refine bA (n:=1+v4) (fun j σ H7=>∃(o7 o8:Option V) (ps:List Addr) (fs:List (Str×Kd)),σ = [some (.ref p),some (.int 4),some (.ref nl),some (.int v2),some (.ref sl),some (.int i),some (.ref fl),o7,o8]/\St3 H7 p/\(∀b o,b≠p->b≠fl->H6 b=some o->H7 b=some o)/\H7 fl=some (.lst (ps.map V.ref))/\LF K (offs [p,sl,fl] H7) ps fs/\fs.length<=j/\(∀g∈fs,(g.2.Fit S.length/\qA g.1=true)/\∃m,m<j/\g.1=ns.getD ((v2+m*5+i) % 12) Str.empty)/\(fs.map (·.1)).Nodup/\(fs≠[]->aAl (S++[(ns.getD i Str.empty,fs)]) S.length)) ⟨_,_,[],[],rfl,d6.1,fun _ _ _ _ e=>e,kfl6,.nil,ξ _,(fun g hg=>by cases hg),vg,fun z=>absurd rfl z⟩ (fun j σ H7 hj z=>?_) (fun σ H7 z=>?_)
  ·obtain⟨o7,o8,ps,fs,rfl,st7,fr7,kfl7,hLF,hfl7,hfs,hfn,hsm⟩:=z;rw[qu];have knl7:=fr7 nl _ nnp (lm nfn) knl6;have ksl7:=fr7 sl _ nsp (lm nfs) ksl6;have em:(((v2:Nat):Int)+((j:Nat):Int)*5+((i:Nat):Int)) % 12=(((v2+j*5+i) % 12:Nat):Int):=by omega
   have hm12:(v2+j*5+i) % 12<12:=Nat.mod_lt _ (by decide);have al7:Al [p,sl,fl] H7:=fun b hb=>by
    simp only[Ξ,kg,or_false]at hb;rcases hb with rfl|rfl|rfl
    ·exact dG st7
    ·exact⟨_,ksl7⟩
    ·exact⟨_,kfl7⟩
   refine⟨_,rfl,_,rfl,_,rfl,_,_,rfl,rfl,.inl ⟨by omega,by omega⟩,_,_,rfl,rfl,_,rfl,_,_,rfl,rfl,_,_,rfl,rfl,(by show(0:Int)<12;decide),nl,_,_,_,rfl,rfl,SqL.of knl7,(by rw[em];exact pL (nsAt _ hm12)),_,rfl,_,rfl,p,i,[p,sl,fl],rfl,by omega,st7,by simp,al7,fun a kd H8 d8 hfit lk=>?_⟩;rw[←hSl]at hfit;have al8:=Al.drawn al7 d8;refine⟨xT,fun t ht=>?_⟩;clear 1 t H9 g9 k9 ht;have al9:=al8.same g9;have kt:offs [p,sl,fl] H9 t=_:=qI (al8.new ht) k9;have s79:jJ (offs [p,sl,fl] H7) (offs [p,sl,fl] H9):=(d8.offs (by simp)).trans (jZ g9);have knl9:=g9 _ _ (d8.2 nl _ nnp knl7);have ksl9:=g9 _ _ (d8.2 sl _ nsp ksl7);have kfl9:=g9 _ _ (d8.2 fl _ nfp kfl7);have lk9:=lk.same (jZ g9);have hLF9:=(hLF.same s79).snoc (SqT.of kt) lk9;have s69:jJ (offs [p,sl,fl] H6) (offs [p,sl,fl] H9):=xV fun b o hb e=>by
    simp only[Ξ,kg,or_false,not_or]at hb;exact g9 _ _ (d8.2 b o hb.1 (fr7 b o hb.1 hb.2.2 e))
   have hLW9:=hLW6.same s69;have hpl:ps.length=fs.length:=hLF.len;have hal:=hLW.len;refine⟨_,rfl,_,rfl,_,rfl,nl,_,_,_,rfl,rfl,SqL.of knl9,pL (nsAt i (by omega)),_,rfl,_,rfl,lP,fun u1 hu1=>?_⟩;clear 1 u1 HA gA kA hu1;refine⟨fl,u1,_,_,rfl,rfl,gA _ _ kfl9,kA,(by rw[il,δ];simp;omega),fun u2 hu2=>?_⟩;clear 1 u2 HB gB kB hu2;refine⟨xT,fun u3 hu3=>?_⟩;clear 1 u3 HC gC kC hu3;refine⟨lP,fun u4 hu4=>?_⟩;clear 1 u4 HD gD kD hu4;have g9D:=((gA.trans gB).trans gC).trans gD;refine⟨sl,u4,_,_,rfl,rfl,g9D _ _ ksl9,kD,(by rw[il,δ];simp;omega),fun u5 hu5=>?_⟩;clear 1 u5 HE gE kE hu5;have g9E:=g9D.trans gE;have sE:jJ (offs [p,sl,fl] H9) HE:=jM.trans g9E;have kB':HB u2=some (.lst ((ps++[t]).map V.ref)):=by rw[kB,ρ];rfl
   have lsE:LS K HE u3 (ns.getD i Str.empty,fs++[(ns.getD ((v2+j*5+i) % 12) Str.empty,kd)]):=⟨u2,ps++[t],(gD.trans gE).tp (SqT.of kC),SqL.of ((gC.trans (gD.trans gE)) _ _ kB'),hLF9.same sE⟩;have lxE:LX K HE u5 (S++[(ns.getD i Str.empty,fs++[(ns.getD ((v2+j*5+i) % 12) Str.empty,kd)])]):=⟨as++[u3],SqL.of (by rw[kE,ρ];rfl),(hLW9.same sE).snoc lsE⟩;have hfs':∀f∈fs,f.2.Fit S.length/\qA f.1=true:=fun f hf=>(hfs f hf).1;have hnew:=nsB _ hm12;have hgd:=aJf (nm:=ns.getD i Str.empty) hWS hsm (by omega) hfs' (f:=(ns.getD ((v2+j*5+i) % 12) Str.empty,kd)) hfit hnew;refine⟨u5,_,S.length,rfl,(by rw[ν];rfl),lxE,hgd,(by omega),h8,fun b HF gF hb=>⟨_,rfl,?_⟩⟩;have g9F:=g9E.trans gF;have kflF:=g9F _ _ kfl9;have frF:∀b o,b≠p->b≠fl->H6 b=some o->HF b=some o:=fun b o h1 h2 e=>g9F _ _ (g9 _ _ (d8.2 b o h1 (fr7 b o h1 h2 e)));have stF:St3 HF p:=jJ.st3 (g9.trans g9F) d8.1;cases b with
   |false =>
    refine jU ⟨_,_,ps,fs,rfl,stF,frF,kflF,(hLF.same s79).same (jZ g9F),by omega,fun g hg=>?_,hfn,hsm⟩;obtain⟨a1,m,hm,e⟩:=hfs g hg;exact⟨a1,m,by omega,e⟩
   |true =>
    refine vZ rfl ⟨_,rfl,.inl ⟨rfl,_,SqL.of kflF⟩,_,rfl,fl,_,_,rfl,rfl,kflF,(by rw[δ];exact kn (show ps.length<=6 by omega) (by decide)),?_⟩;clear 0 fl HG gG kG;have sFG:jJ (offs [p,sl,fl] HF) (offs [p,sl,fl] HG):=xV fun b o hb e=>by
     simp only[Ξ,kg,or_false,not_or]at hb;exact gG b o hb.2.2 e
    have hnin:ns.getD ((v2+j*5+i) % 12) Str.empty∉fs.map (·.1):=fun z=>by
     obtain⟨g,hg,eg⟩:=iw.mp z;obtain⟨_,m,hm,e⟩:=hfs g hg;rw[e]at eg;have:=nsI _ _ (Nat.mod_lt _ (by decide)) hm12 eg;omega
    obtain⟨x3,y3,z3,est⟩:=stF;refine⟨_,_,ps++[t],fs++[(ns.getD ((v2+j*5+i) % 12) Str.empty,kd)],rfl,⟨x3,y3,z3,gG p _ (lm nfp) est⟩,fun b o h1 h2 e=>gG b o h2 (frF b o h1 h2 e),by rw[kG,ρ];rfl,(hLF9.same (jZ g9F)).same sFG,by rw[ν,jt];omega,fun g hg=>?_,?_,fun _=>hb rfl⟩
    ·rcases je.mp hg with hg|hg
     ·obtain⟨a1,m,hm,e⟩:=hfs g hg;exact⟨a1,m,by omega,e⟩
     ·rw[ο.mp hg];exact⟨⟨hfit,hnew⟩,j,by omega,rfl⟩
    ·rw[ρ,tx];refine⟨hfn,sd _ _,fun a ha b hb e=>hnin ?_⟩;rw[←show b=ns.getD ((v2+j*5+i) % 12) Str.empty from ο.mp hb,←e];exact ha
  ·obtain⟨o7,o8,ps,fs,rfl,st7,fr7,kfl7,hLF,hfl7,hfs,hfn,hsm⟩:=z;have knl7:=fr7 nl _ nnp (lm nfn) knl6;have ksl7:=fr7 sl _ nsp (lm nfs) ksl6;have s67:jJ (offs [p,sl,fl] H6) (offs [p,sl,fl] H7):=xV fun b o hb e=>by
    simp only[Ξ,kg,or_false,not_or]at hb;exact fr7 b o hb.1 hb.2.2 e
   have sub:jJ (offs [p,sl,fl] H7) (offs [p,sl] H7):=pS fun b hb=>by
    simp only[Ξ,kg,or_false]at hb ⊢;rcases hb with hb|hb
    ·exact .inl hb
    ·exact .inr (.inl hb)
   have hLW7:=(hLW6.same s67).same sub;have fr47:∀b o,b≠p->b≠sl->H' b=some o->H7 b=some o:=fun b o h1 h2 e=>fr7 b o h1 (jS e hfl) (d6.2 b o h1 (g5 _ _ e))
   (try dsimp only)
   refine aGc (fun σ' H8=>∃(o7 o8:Option V) (fl':Addr) (ps':List Addr) (fs':List (Str×Kd)),σ'=[some (.ref p),some (.int 4),some (.ref nl),some (.int v2),some (.ref sl),some (.int i),some (.ref fl'),o7,o8]/\St3 H8 p/\(∀b o,b≠p->b≠sl->H' b=some o->H8 b=some o)/\H8 sl=some (.lst (as.map V.ref))/\SqL K (offs [p,sl] H8) fl' (ps'.map V.ref)/\LF K (offs [p,sl] H8) ps' fs'/\LW K (offs [p,sl] H8) as S/\Wel (S++[(ns.getD i Str.empty,fs')])/\∀f∈fs',f.1∉bdN) (fun σ' H8 z=>?_) (fun nx hnx=>?_)
   ·obtain⟨o7,o8,fl',ps',fs',rfl,st8,fr8,ksl8,kfl8,hLF8,hLW8,hW8,hc8⟩:=z;have knl8:=fr8 nl _ nnp nns knl';refine⟨_,rfl,.inl ⟨rfl,_,SqL.of ksl8⟩,_,rfl,_,rfl,nl,_,_,_,rfl,rfl,SqL.of knl8,pL (nsAt i (by omega)),_,rfl,xT,fun t ht=>?_⟩;clear 1 t H9 g9 k9 ht;have al8:Al [p,sl] H8:=fun b hb=>by
     simp only[Ξ,kg,or_false]at hb;rcases hb with rfl|rfl
     ·exact dG st8
     ·exact⟨_,ksl8⟩
    have kt:offs [p,sl] H9 t=_:=qI (al8.new ht) k9;have s89:jJ (offs [p,sl] H8) (offs [p,sl] H9):=jZ g9;have hls:LS K (offs [p,sl] H9) t (ns.getD i Str.empty,fs'):=⟨fl',ps',SqT.of kt,s89.seq kfl8,hLF8.same s89⟩;have ksl9:=g9 _ _ ksl8;refine⟨sl,_,_,rfl,rfl,ksl9,(by rw[δ,hLW.len];exact kn (show S.length<=5 by omega) (by decide)),?_⟩;clear 0 sl HA gA kA;have s9A:jJ (offs [p,sl] H9) (offs [p,sl] HA):=xV fun b o hb e=>by
     simp only[Ξ,kg,or_false,not_or]at hb;exact gA b o hb.2 e
    obtain⟨x3,y3,z3,est⟩:=jJ.st3 g9 st8;refine⟨_,_,_,_,as++[t],_,rfl,⟨x3,y3,z3,gA p _ (lm nsp) est⟩,fun b o h1 h2 e=>gA b o h2 (g9 _ _ (fr8 b o h1 h2 (fr b o h1 h2 e))),by rw[kA,ρ];rfl,((hLW8.same s89).snoc hls).same s9A,by rw[ν,hSl];rfl,?_,hW8,hCl.snoc (hnc _ (ι (nsAt i (by omega)))) hc8⟩;rw[ρ,hSn,jq,nsAt i (by omega)];rfl
   ·refine⟨_,rfl,lZ,fun e he=>?_⟩;clear 1 e H8 g8 k8 he;have st8:=jJ.st3 g8 st7;refine⟨fl,e,_,rfl,rfl,SqL.of (g8 _ _ kfl7),SqL.of k8,_,rfl,xG (fun c=>?_) (fun c=>?_)⟩
    ·refine⟨_,rfl,_,rfl,nl,_,_,_,rfl,rfl,SqL.of (g8 _ _ knl7),pL (nsAt v2 (by omega)),_,rfl,p,4,rfl,by decide,by decide,st8,fun v5 H9 hv5 d9=>⟨_,_,rfl,rfl,xT,fun t1 ht1=>?_⟩⟩;have al9:Al [p,sl] H9:=fun b hb=>by
      simp only[Ξ,kg,or_false]at hb;rcases hb with rfl|rfl
      ·exact dG d9.1
      ·exact⟨_,d9.2 _ _ nsp (g8 _ _ ksl7)⟩
     clear 1 t1 HA gA kA ht1;refine⟨xT,fun t2 ht2=>?_⟩;clear 1 t2 HB gB kB ht2;refine⟨lP,fun l1 hl1=>?_⟩;clear 1 l1 HC gC kC hl1;have alA:=al9.same gA;have alB:=alA.same gB;have k1:offs [p,sl] HA t1=_:=qI (al9.new ht1) kA;have k2:offs [p,sl] HB t2=_:=qI (alA.new ht2) kB;have k3:offs [p,sl] HC l1=_:=qI (alB.new hl1) kC
     (try dsimp only at k1)
     rw[show(1:Int)+(v5:Nat)=((1+v5:Nat):Int) by omega]at k1;have sAC:jJ (offs [p,sl] HA) (offs [p,sl] HC):=jZ (gB.trans gC);have sBC:jJ (offs [p,sl] HB) (offs [p,sl] HC):=jZ gC;have s7C:jJ (offs [p,sl] H7) (offs [p,sl] HC):=(jZ g8).trans ((d9.offs (by simp)).trans (jZ ((gA.trans gB).trans gC)));have g9C:=(gA.trans gB).trans gC;have hs4:S.length<=3:=by omega
     refine hnx _ _ ⟨_,_,l1,[t2],[(ns.getD v2 Str.empty,Kd.num (1+v5))],rfl,jJ.st3 g9C d9.1,fun b o h1 h2 e=>g9C _ _ (d9.2 b o h1 (g8 _ _ (fr47 b o h1 h2 e))),g9C _ _ (d9.2 _ _ nsp (g8 _ _ ksl7)),SqL.of k3,.cons (SqT.of (sBC _ _ k2)) (.num (SqT.of (sAC _ _ k1))) .nil,hLW7.same s7C,hWS.snoc nmi nmN hs4 (by simp) (by show 1<=6;decide) (fun f hf=>?_) (sd _ _) (aMk (by omega)),fun f hf=>by rw[ο.mp hf];exact hnc _ (ι (nsAt v2 (by omega)))⟩;rw[ο.mp hf];exact⟨⟨by omega,by omega⟩,nsB v2 (by omega)⟩
    ·have hps:ps≠[]:=fun z=>c (by rw[z];rfl);have hfsne:fs≠[]:=fun z=>hps (rp.mp (by rw[hLF.len,z];rfl));have hflo:offs [p,sl] H8 fl=_:=qI (by simp only[Ξ,kg,or_false,not_or];exact⟨nfp,nfs⟩) (g8 _ _ kfl7);exact hnx _ _ ⟨_,_,fl,ps,fs,rfl,st8,fun b o h1 h2 e=>g8 _ _ (fr47 b o h1 h2 e),g8 _ _ ksl7,SqL.of hflo,(hLF.same sub).same (jZ g8),hLW7.same (jZ g8),hWS.snoc nmi nmN (by omega) hfsne (by omega) (fun f hf=>(hfs f hf).1) hfn (hsm hfsne),fun f hf=>by obtain⟨_,m,_,e⟩:=hfs f hf;rw[e];exact hnc _ (ι (nsAt _ (Nat.mod_lt _ (by decide))))⟩
 ·obtain⟨o5,o6,o7,o8,as,S,rfl,st,fr,ksl,hLW,hSl,hSn,hWS,hCl⟩:=z;have fD:Drawn p H H':=⟨st,fun b o h e=>by
   have hb:b≠sl:=jS e hslH;exact fr b o h hb (D4.2 b o h e)⟩
  exact⟨_,rfl,q sl S H' fD hslH ⟨as,SqL.of (qI (by simpa using nsp) ksl),hLW.same (pS fun b hb=>by simp only[Ξ,kg,or_false]at hb ⊢;exact .inl hb)⟩ hWS (fun z=>by rw[z]at hSl;simp at hSl;omega) hCl⟩
theorem aDm{k:Nat}(F:Fun K "bound_of" "bound_of" fF f fd):j1 ["width"] spBd:=by
 w_cond aDw;obtain⟨w,rfl,hw,q⟩:=h;refine⟨_,(jC (jI (jW uJ jD (jW yF jD (pv 0))))),?_⟩;have e:∀w:Fin 5,(1:Int)*2 ^ (8*((w.val:Nat):Int)).toNat=((256 ^ w.val:Nat):Int):=by decide
 have e':=e ⟨w,by omega⟩;refine⟨_,rfl,_,_,rfl,rfl,.inl ⟨by omega,by omega⟩,_,_,rfl,rfl,⟨by omega,by omega,by omega⟩,?_⟩;dsimp only at e' ⊢;rw[e'];exact q
theorem aEj(F:Fun K "is_word" "is_word" lB f fd)(cf:j4 "bound_of" spBd)(bv:j4 "is_between" spIB):j1 ["thing","width"] spWd:=by
 w_cond aFi;obtain⟨w,v,rfl,hw,hv,q⟩:=h;refine⟨_,(jC (jI (jF bv hr (jA (pv 0) (jA jD (jA (jW yR (jF cf hr (jA (pv 1) jB)) jD) jB)))))),?_⟩;refine⟨_,rfl,_,rfl,w,rfl,hw,_,_,rfl,rfl,v,0,_,rfl,(by omega),?_,q⟩;have:(v:Int)<((256 ^ w:Nat):Int):=by exact_mod_cast hv
 show(v:Int)<=((256 ^ w:Nat):Int)-1;omega
theorem nK(F:Fun K "is_number_of" "is_number_of" zP f fd)(bv:j4 "is_between" spIB):j1 ["pick","thing"] (aPt (j8 0) K):=by
 w_cond nG;obtain⟨a,j,is,sa,rfl,ho,hj,q⟩:=h;refine⟨_,(jC (jI (jF bv hr (jA (pv 1) (jA jD (jA (jW yR (jN kI rfl M.len jh (jA (kP (pv 0) rfl) jB)) jD) jB)))))),?_⟩;cases ho with
 |pick h1 h2 h3 h4 =>
  refine⟨_,rfl,_,rfl,a,Vd,_,_,_,rfl,h1,Ud.cl,Ud.nd,rfl,_,_,rfl,.inr h2,_,_,rfl,rfl,j,0,_,rfl,(by omega),?_,q⟩;rw[δ,h3];show(j:Int)<=(is.length:Int)-1;omega
theorem aDg(F:Fun K "_law_word" "_law_word" gQ f fd)(aa:j4 "_law_take" aQ):j1 ["_law_box_here","_law_width"] aPq:=by
 w_cond mG;obtain⟨p,w,rfl,h1,h4,hs,q⟩:=h;refine⟨_,(PSx.h (xF (eQ (jR 2 mG.nd (jW yR (jW uJ jD (jW yF jD (pv 1))) jD))) (iU (dH (aKp (kZ (qL jD) (kZ (qL (pv 2)) (kZ (qL jD) (kZ (qL (jW xO jD (jW qG (pv 2) jD))) (kZ (qL (jF aa hr (jA (pv 0) (jA (jW qG (pv 2) jD) jB)))) (kZ (qL (jF aa hr (jA (pv 0) (jA (jW qG (pv 2) jD) jB)))) wZ nV) nV) pK) qE) qJ) qE) (qL (jF aa hr (jA (pv 0) (jA jD jB)))) (fun _ _=>rfl)))))),?_⟩;have e:∀w:Fin 5,(1:Int)*2 ^ (8*((w.val:Nat):Int)).toNat=((256 ^ w.val:Nat):Int)/\256 ^ w.val<=4294967296/\(1<=w.val->256<=256 ^ w.val):=by decide
 obtain⟨e',b1,b2⟩:=e ⟨w,by omega⟩;have b2':=b2 h1;dsimp only at e' b1 b2';generalize 256 ^ w=M at *;refine⟨_,rfl,_,_,rfl,rfl,.inl ⟨by omega,by omega⟩,_,_,rfl,rfl,⟨by omega,by omega,by omega⟩,_,_,rfl,rfl,?_⟩
 (try dsimp only)
 rw[e'];have eM:(M:Int)-1+1=M:=by omega
 refine⟨_,rfl,_,rfl,_,_,rfl,rfl,_,_,rfl,rfl,(by rw[eM];omega),_,rfl,_,rfl,_,_,rfl,rfl,p,_,rfl,(by rw[eM];omega),(by rw[eM];omega),hs,fun v1 H1 hv1 d1=>⟨_,rfl,_,rfl,_,_,rfl,rfl,p,_,rfl,(by rw[eM];omega),(by rw[eM];omega),d1.1,fun v2 H2 hv2 d2=>⟨(by show 6<=τ;decide),fun ml hml=>?_⟩⟩⟩;clear 1 ml H3 g3 k3 hml;have nm:ml≠p:=aGk d2.1 hml;refine⟨_,rfl,p,6,rfl,by decide,by decide,jJ.st3 g3 d2.1,fun v3 H4 hv3 d4=>?_⟩;have k4:=d4.2 ml _ nm k3;have D4:Drawn p H H4:=((d1.trans d2).keep g3).trans d4;have m256:∃n:Nat,(256:Int) % (M-1+1)=n/\n<M:=⟨256 % M,by rw[eM];exact(Int.natCast_emod 256 M).symm,Nat.mod_lt _ (by omega)⟩;obtain⟨n3,e3',l3⟩:=m256;obtain⟨n,hat,hn⟩ : ∃n:Nat,atI [V.int 0,V.int ((M:Int)-1),V.int 1,V.int (256 % ((M:Int)-1+1)),V.int v1,V.int v2] (v3:Int)=some (.int n)/\n<M:=by
  rw[e3',show(M:Int)-1=((M-1:Nat):Int) by omega]
  match v3,hv3 with
  |0,_=>exact⟨0,rfl,by omega⟩
  |1,_=>exact⟨M-1,rfl,by omega⟩
  |2,_=>exact⟨1,rfl,by omega⟩
  |3,_=>exact⟨n3,rfl,l3⟩
  |4,_=>exact⟨v1,rfl,by omega⟩
  |5,_=>exact⟨v2,rfl,by omega⟩
  |n+6,h=>exact absurd h (by omega)
 exact⟨ml,_,_,_,rfl,rfl,SqL.of k4,hat,q n H4 hn D4⟩
theorem wV{k r:Nat}(F:Fun K "_law_drawn" "_law_drawn" dD f fd)(fv:j4 "_law_word" aPq)(aa:j4 "_law_take" aQ)(aw:j4 "_law_drawn" (tN K r)):j1 ["_law_box_here","_law_kind_here","_law_shapes_here"] (tN K (r+1)):=by
 w_cond xU;obtain⟨p,a,sl,kd,S,r0,ys,er,rfl,hs,hpy,al,hk,hf,hlkO,hlxO,hW,q⟩:=h;cases er;refine⟨_,(jE (jV (jP kS (jG jQ (pv 1) jD) jO) (jC (jI (jF fv hr (jA (pv 0) (jA (jG jQ (pv 1) jD) jB))))) jL) (jE (jV (jP kS (jG jQ (pv 1) jD) jO) (jC (jI (kU ["_law_k"] ["_law_box_here","_law_shapes_here","_law_kind_here"] [0,2,1] rfl (vI rfl M.range (jA (jG jQ (pv 1) jD) jB)) rfl ⟨rfl,⟨rfl,⟨rfl,trivial⟩⟩⟩ ⟨⟨rfl,rfl,rfl,_,rfl⟩,⟨⟨rfl,rfl,rfl,_,rfl⟩,⟨⟨rfl,rfl,rfl,_,rfl⟩,trivial⟩⟩⟩ (fun _ _ _ _=>(qD rfl)) (fun _ _ _ _=>kT) (fun _ _ _ _=>(jF aw hr (jA (pv 1) (jA (jG (uF K rfl) (pv 3) jD) (jA (pv 2) jB)))))))) jL) (jE (jV (jP kS (jG jQ (pv 1) jD) jO) (jE (jR 3 xU.nd (jF aa hr (jA (pv 0) (jA (jN kI rfl M.len jh (jA (jG jQ (pv 1) jD) jB)) jB)))) (jC (jI (kQ (jA (pv 3) (jA (jF aw hr (jA (pv 0) (jA (kQ (jA jO (jA (jG jX (jG jQ (pv 1) jD) (pv 3)) jB))) (jA (pv 2) jB)))) jB)))))) jL) (jE (jR 4 xU.nd pO) (jE (qZ iy rfl (qK (jG jQ (jG jX (pv 2) (jG jQ (pv 1) jD)) jD)) (xL rfl (kH (kN 5 xU.nd) (kH (kN 6 xU.nd) qQ))) (jC (eN hr.units1 (pv 4) (pv 5) (jF aw hr (jA (pv 0) (jA (pv 6) (jA (pv 2) jB)))) rfl))) (jC (jI (pv 4)))))))),?_⟩;cases id hlkO with
 | @num a w h1O =>
  have h1:=jM.tp h1O;refine⟨_,rfl,a,_,_,_,rfl,rfl,h1,rfl,rfl,_,rfl,kO ⟨_,rfl,_,rfl,a,_,_,_,rfl,rfl,h1,rfl,p,w,rfl,hf.1,hf.2,hs,fun v H1 hv d1=>q (.int v) (.int v) [] H1 d1 (.int v) ?_ (fun b hb=>by cases hb)⟩⟩;cases r <;> exact⟨v,rfl,hv⟩
 | @pick a ll is h1O h2O =>
  have h1:=jM.tp h1O;have h2:=jM.seq h2O;cases r with
  |zero=>exact(wf _ (hk _ (mw (show 0<is.length by have:=hf.1;omega)))).elim
  |succ r =>
  have hlen:=hf.2.1;have hlen2:=hf.1;refine⟨_,rfl,a,_,_,_,rfl,rfl,h1,rfl,rfl,_,rfl,jU ⟨_,rfl,a,_,_,_,rfl,rfl,h1,rfl,rfl,_,rfl,jU ⟨_,rfl,a,_,_,_,rfl,rfl,h1,rfl,rfl,_,rfl,kO ⟨_,rfl,_,rfl,a,_,_,_,rfl,rfl,h1,rfl,ll,_,rfl,.inl h2,?_⟩⟩⟩⟩;rw[δ];refine⟨p,is.length,rfl,by omega,by omega,hs,fun j H1 hj d1=>?_⟩;have hjl:j<is.length:=by exact_mod_cast hj
  obtain⟨i',hi'⟩ : ∃s,is[j]?=some s:=⟨_,ζ hjl⟩;have hil:i'<S.length:=hf.2.2.2 i' (ι hi');have hki:=hk i' (ι hi');have s1:jJ (offs ys H) (offs ys H1):=d1.offs hpy;have al1:=Al.drawn al d1;refine⟨_,rfl,_,rfl,_,rfl,a,_,_,_,rfl,rfl,jM.tp (s1.tp h1O),rfl,_,rfl,ll,_,_,_,rfl,rfl,jM.seq (s1.seq h2O),tO hi',xT,fun tk htk=>?_⟩;clear 1 tk H2 g2 k2 htk;have s2:=s1.trans (jZ (xs:=ys) g2);refine⟨_,rfl,p,tk,sl,.nest i',S,r,ys,rfl,rfl,jJ.st3 g2 d1.1,hpy,al1.same g2,(by show 2*i'+2<=r;omega),hil,.nest (SqT.of (qI (al1.new htk) k2)),hlxO.same s2,hW,fun v d fs H3 d3 hdt hcn hfr=>⟨xT,fun t ht=>?_⟩⟩;clear 1 t H4 g4 k4 ht;have D3:Drawn p H H3:=(d1.keep g2).trans d3;exact q (.ref t) (.tuple [.int j,d]) fs H4 (D3.keep g4) (.tup (SqT.of (qI ((Al.drawn al D3).new ht) k4)) (hdt.same (jZ g4))) ⟨j,i',d,hi',rfl,hcn⟩ (fun b hb=>(d1.keep g2).free (hfr b hb))
 | @many a b n k h1O h2O =>
  have h1:=jM.tp h1O;cases r with
  |zero=>exact(aNb (.inr ⟨_,_,rfl⟩) hk).elim
  |succ r =>
  have hpd:(Kd.many n k).Pd:=.inr ⟨_,_,rfl⟩;have hn6:n<=6:=hf.2.1;have pl:((Kd.many n k).parts S).length=n:=by show((ir n).map _).length=n;rw[δ,jx]
  refine⟨_,rfl,a,_,_,_,rfl,rfl,h1,rfl,rfl,_,rfl,jU ⟨_,rfl,a,_,_,_,rfl,rfl,h1,rfl,rfl,_,rfl,kO ⟨_,rfl,a,_,_,_,rfl,rfl,h1,rfl,n,rfl,by omega,by omega,mS (n:=n) (fun j zs H'=>Drawn p H H'/\∃es gs,Trs true K (offs ys H') zs es gs/\aS (Can S r) (((Kd.many n k).parts S).take j) es/\New H gs) ⟨⟨hs,fun _ _ _ z=>z⟩,[],[],.nil,ju,fun b hb=>by cases hb⟩ (fun j zs H' hj z=>?_) (kL (by omega)) (fun j zs H' hj z=>?_) (fun zs H' z l hl hns=>?_)⟩⟩⟩
  ·obtain⟨_,es,gs,hdt,hcl,_⟩:=z;rw[hdt.len,←hcl.len,ib];omega
  ·obtain⟨D,es,gs,hdt,hcl,hnw⟩:=z;have hps:((Kd.many n k).parts S)[j]?=some (η (toString j),k):=by
    show((ir n).map _)[j]?=_;rw[υ,nr hj];rfl
   obtain⟨p1,p2,_⟩:=Kd.parts_ok hW.good hf hk (ι hps);have sO:jJ (offs ys H) (offs ys H'):=D.offs hpy;refine⟨_,rfl,_,rfl,a,_,_,_,rfl,rfl,jM.tp (sO.tp h1O),rfl,_,rfl,p,b,sl,k,S,r,ys,rfl,rfl,D.1,hpy,Al.drawn al D,p1,p2,h2O.same sO,hlxO.same sO,hW,fun v d g3 H3 d3 hdv hcn hfr=>⟨⟨D.trans d3,es++[d],gs++g3,Trs.snoc hdv (hdt.same (d3.offs hpy)) ((aAp hfr).dis hdt.mu),?_,hnw.app fun b hb=>D.free (hfr b hb)⟩,_,rfl⟩⟩;rw[jq,hps];exact hcl.app ⟨hcn,ju⟩
  ·obtain⟨D,es,gs,hdt,hcl,hnw⟩:=z;clear 1 l H3 g3 k3 hl;rw[mz (by rw[pl];exact ξ _)]at hcl;exact q (.ref l) (.list es) (l::gs) H3 (D.keep g3) (.lst (qI ((Al.drawn al D).new hl) k3) (hdt.same (jZ g3)) (hdt.mu.not (aHw hl))) ⟨es,rfl,hcl⟩ (New.cons (D.free hl) hnw)
 | @nest a i h1O =>
  have h1:=jM.tp h1O;cases r with
  |zero=>exact(aNb (.inl ⟨_,rfl⟩) hk).elim
  |succ r =>
  have hi:i<S.length:=hf;have hS:S[i]?=some S[i]:=ζ hi;have ep:=vG hS;obtain⟨as,s,lf,ps,m1,m2,m3,m4,m5⟩:=hlxO.at hi;have few:=hW.good.few i _ hS;refine⟨_,rfl,a,_,_,_,rfl,rfl,h1,rfl,rfl,_,rfl,jU ⟨_,rfl,a,_,_,_,rfl,rfl,h1,rfl,rfl,_,rfl,jU ⟨_,rfl,a,_,_,_,rfl,rfl,h1,rfl,rfl,_,rfl,jU (fun l0 hl0=>?_)⟩⟩⟩;clear 1 l0 H1 g1 k1 hl0;have n0y:l0∉ys:=al.new hl0;have n0p:l0≠p:=fun z=>n0y (z ▸ hpy);have alB:∀{H':Hp}{o0:HO},aHy p l0 H1 H'->H' l0=some o0->St3 H' p->Al (l0::ys) H':=fun {H' o0} g k0 st b hb=>by
   rcases Ξ.mp hb with rfl|hb
   ·exact⟨_,k0⟩
   ·by_cases hbl:b=p
    ·exact hbl ▸ dG st
    ·obtain⟨o,ho'⟩:=al b hb;exact⟨o,g b o hbl (fun z=>n0y (z ▸ hb)) (g1 _ _ ho')⟩
  refine⟨_,rfl,_,rfl,a,_,_,_,rfl,rfl,g1.tp h1,rfl,sl,_,_,_,rfl,rfl,g1.seq (jM.seq m1),xM m2,s,_,_,_,rfl,rfl,g1.tp (jM.tp m3),rfl,lf,rfl,⟨_,g1.seq (jM.seq m4)⟩,xI (xs:=ps.map V.ref) (fun j σ H'=>∃(o3 o5 o6:Option V) (es:List θ) (zs:List V) (gs:List Addr),σ = [some (.ref p),some (.ref a),some (.ref sl),o3,some (.ref l0),o5,o6]/\aHy p l0 H1 H'/\St3 H' p/\H' l0=some (.dK (kz ((((Kd.nest i).parts S).map (·.1)).take j) zs))/\zs.length=j/\Trs true K (offs (l0::ys) H') zs es gs/\aS (Can S r) (((Kd.nest i).parts S).take j) es/\New H gs) ⟨_,_,_,[],[],[],rfl,fun _ _ _ _ z=>z,jJ.st3 g1 hs,k1,rfl,.nil,ju,fun b hb=>by cases hb⟩ (fun j σ H' _ z=>?_) (fun j x' σ H' hx z=>?_) (fun σ H' z=>?_)⟩
  ·obtain⟨o3,o5,o6,es,zs,gs,rfl,g,_⟩:=z;exact jM.seq ((aHy.offs g1 hl0 hpy g).seq m4)
  ·obtain⟨o3,o5,o6,es,zs,gs,rfl,g,st,k0,hzj,hdt,hcl,hnw⟩:=z;obtain⟨t0,ht0,rfl⟩:=qF hx;obtain⟨nm',kd',kk,hfs,htt,hko⟩:=m5.get ht0;have hps:((Kd.nest i).parts S)[j]?=some (nm',kd'):=by rw[ep];exact hfs
   obtain⟨p1,p2,_⟩:=Kd.parts_ok hW.good hf hk (ι hps);have sO:=aHy.offs g1 hl0 hpy g;have hjl:j<((Kd.nest i).parts S).length:=(ε.mp hps).1;have hkl:((((Kd.nest i).parts S).map (·.1)).take j).length=zs.length:=by rw[ib,δ,hzj];omega
   have nk:(((Kd.nest i).parts S).map (·.1))[j]?=some nm':=by rw[υ,hps];rfl
   refine⟨t0,_,rfl,jM.tp (sO.tp htt),rfl,_,_,rfl,_,_,rfl,rfl,_,rfl,_,rfl,_,rfl,p,kk,sl,kd',S,r,l0::ys,rfl,rfl,st,Ψ _ hpy,alB g k0 st,p1,p2,hko.same sO,hlxO.same sO,hW,fun v d g3 H3 d3 hdv hcn hfr=>?_⟩;have k3:=d3.2 l0 _ n0p k0;refine⟨_,rfl,_,rfl,l0,_,rfl,.inl ⟨_,.inr nm',k3,rfl,(by rw[yX hkl,hkl,hzj];rw[ep]at hjl;exact ω hjl (iq few (by decide))),rfl⟩,?_⟩;rw[aEo (v:=v) (hW.pnd hf i rfl) hzj nk];clear 0 l0 H4 g4 k4;have s34:jJ (offs (l0::ys) H3) (offs (l0::ys) H4):=xV fun b o hb e=>g4 b o (fun z=>hb (by rw[z];simp)) e;obtain⟨x3,y3,z3,est⟩:=d3.1;refine⟨o3,some (.str nm'),some (.ref kk),es++[d],zs++[v],gs++g3,rfl,fun b o h1 h2 e=>g4 b o h2 (d3.2 b o h1 (g b o h1 h2 e)),⟨x3,y3,z3,g4 p _ (lm n0p) est⟩,k4,by rw[ν,hzj];rfl,(Trs.snoc hdv (hdt.same (d3.offs (Ψ _ hpy))) ((aAp hfr).dis hdt.mu)).same s34,?_,hnw.app fun b hb=>?_⟩
   ·rw[jq,hps];exact hcl.app ⟨hcn,ju⟩
   ·cases eb:H b with
    |none=>rfl
    |some o =>
     have h1:=hfr b hb
     by_cases z:b=p
     ·obtain⟨o',h'⟩:=dG st;rw[z,h']at h1;cases h1
     ·have:=g b o z (jS eb hl0) (g1 _ _ eb);rw[this]at h1;cases h1
  ·obtain⟨o3,o5,o6,es,zs,gs,rfl,g,st,k0,hzj,hdt,hcl,hnw⟩:=z;have en:(ps.map V.ref).length=((Kd.nest i).parts S).length:=by rw[ep,δ,m5.len]
   rw[en,kM]at hcl;rw[en,←δ (·.1),kM]at k0;have D:Drawn p H H':=⟨st,fun b o h e=>g b o h (jS e hl0) (g1 _ _ e)⟩;exact⟨_,rfl,q (.ref l0) (.dict (nA ((Kd.nest i).parts S) es)) (l0::gs) H' D (by rw[aY];exact .dct (qI n0y k0) (by rw[δ,hzj,en]) (hdt.same aOg) (hdt.mu.not (by unfold offs;rw[if_pos (Δ ..)]))) ⟨es,rfl,hcl⟩ (New.cons hl0 hnw)⟩
theorem aAn{k:Nat}(F:Fun K "is_whole" "is_whole" gV f fd):j1 ["thing"] aIe:=by
 w_cond aAi;obtain⟨v,rfl,q⟩:=h;refine⟨_,(jC (jI (vY (jN kW rfl M.isinstance ip (jA (pv 0) (jA (qM (v:=.ty "int") rfl M.int boot_int rfl) jB))) (xP (aJl (jN kW rfl M.isinstance ip (jA (pv 0) (jA (qM (v:=.ty "bool") rfl M.bool boot_bool rfl) jB)))))))),?_⟩;exact⟨_,rfl,.int v,_,"int",rfl,by decide,.inl rfl,_,rfl,vZ rfl ⟨_,rfl,.int v,_,"int",rfl,by decide,.inl rfl,_,rfl,q⟩⟩
theorem rS(F:Fun K "is_between" "is_between" bP f fd)(cg:j4 "is_whole" aIe):j1 ["thing","low","high"] spIB:=by
 w_cond sG;obtain⟨v,lo,hi,rfl,h1,h2,q⟩:=h;refine⟨_,(jC (jI (vY (jF cg hr (jA (pv 0) jB)) (xP (aDv iB iB (pv 1) (pv 0) (pv 2)))))),?_⟩;refine⟨_,rfl,v,rfl,_,rfl,vZ rfl ⟨_,rfl,_,rfl,_,_,rfl,rfl,_,rfl,vZ (decide_eq_true h1) ⟨_,rfl,_,_,rfl,rfl,?_⟩⟩⟩;exact(congrArg (fun b=>Q (V.bl b) H) (decide_eq_true h2)).mpr q
theorem mM(F:Fun K "may_have" "may_have" gR f fd)(KS:KdS K (j8 0))(gp:j4 "is_word" spWd)(du:j4 "has_fields" (cP (j8 0) K r Kd.isNest))(ff:j4 "has_count" (cP (j8 0) K r Kd.isMany))(fg:j4 "is_choice" (cP (j8 0) K r Kd.isPick)):j1 ["kind","thing"] (cP (j8 0) K r aNc):=by
 w_cond aBu;obtain⟨a,x,kd,sa,S,d,e,rfl,hF,hk,hf,ho,hw,hW,hd,hc,q⟩:=h;refine⟨_,(jE (jV (kR (jN (dM (K:=K) rfl) rfl M.isinstance ip (jA (pv 0) (jA (vD (v:=.ref Va) rfl Ua.m rfl) jB)))) (jC (jI (jF gp hr (jA (pv 1) (jA (kP (pv 0) rfl) jB))))) jL) (jE (jV (kR (jN (dM (K:=K) rfl) rfl M.isinstance ip (jA (pv 0) (jA (vD (v:=.ref Vb) rfl Ub.m rfl) jB)))) (jC (jI (jF du hr (jA (pv 0) (jA (pv 1) jB))))) jL) (jE (jV (kR (jN (dM (K:=K) rfl) rfl M.isinstance ip (jA (pv 0) (jA (vD (v:=.ref Vc) rfl Uc.m rfl) jB)))) (jC (jI (jF ff hr (jA (pv 0) (jA (pv 1) jB))))) jL) (jC (jI (jF fg hr (jA (pv 0) (jA (pv 1) jB)))))))),?_⟩;cases kd with
 |num w =>
  obtain⟨v,rfl,rfl,hv⟩ : ∃v:Nat,d=.int v/\e=.int v/\v<256 ^ w:=by cases r <;> exact hc
  cases hd;refine⟨_,rfl,.ref a,Va,_,_,rfl,KS.ty ho,KS.kit _ (.num 0),_,rfl,vZ rfl ?_⟩;cases ho with
  |num h1=>exact⟨_,rfl,_,rfl,a,Va,_,_,_,rfl,h1,Ua.cl,Ua.nd,rfl,w,v,rfl,hf.2,hv,q H (jJ.refl _)⟩
 |nest i=>exact⟨_,rfl,.ref a,Va,_,_,rfl,KS.ty ho,KS.kit _ (.num 0),_,rfl,qO π ⟨_,rfl,.ref a,Vb,_,_,rfl,KS.ty ho,KS.kit _ (.nest 0),_,rfl,vZ rfl ⟨_,rfl,_,rfl,a,x,_,sa,S,d,e,rfl,rfl,hk,hf,ho,hw,hW,hd,hc,q⟩⟩⟩
 |many n k=>exact⟨_,rfl,.ref a,Va,_,_,rfl,KS.ty ho,KS.kit _ (.num 0),_,rfl,qO π ⟨_,rfl,.ref a,Vb,_,_,rfl,KS.ty ho,KS.kit _ (.nest 0),_,rfl,qO π ⟨_,rfl,.ref a,Vc,_,_,rfl,KS.ty ho,KS.kit _ (.many 0 (.num 0)),_,rfl,vZ rfl ⟨_,rfl,_,rfl,a,x,_,sa,S,d,e,rfl,rfl,hk,hf,ho,hw,hW,hd,hc,q⟩⟩⟩⟩
 |pick is=>exact⟨_,rfl,.ref a,Va,_,_,rfl,KS.ty ho,KS.kit _ (.num 0),_,rfl,qO π ⟨_,rfl,.ref a,Vb,_,_,rfl,KS.ty ho,KS.kit _ (.nest 0),_,rfl,qO π ⟨_,rfl,.ref a,Vc,_,_,rfl,KS.ty ho,KS.kit _ (.many 0 (.num 0)),_,rfl,qO π ⟨_,rfl,_,rfl,a,x,_,sa,S,d,e,rfl,rfl,hk,hf,ho,hw,hW,hd,hc,q⟩⟩⟩⟩
theorem rG(F:Fun K "has_fields" "has_fields" bQ f fd)(bc:j4 "may_have" (cP (j8 0) K r aNc)):j1 ["kind","thing"] (cP (j8 0) K (r+1) Kd.isNest):=by
 w_cond fB;obtain⟨a,x,kd,sa,S,d,e,rfl,hF,hk,hf,ho,hw,hW,hd,hc,q⟩:=h;refine⟨_,(jE (jR 2 fB.nd (kP (kP (pv 0) rfl) rfl)) (jE (jV (PW.pt (yP (vL (kR (jN kW rfl M.isinstance ip (jA (pv 1) (jA (qM (v:=.ty "dict") rfl M.dict boot_dict rfl) jB))))) (yA (jP yB (jN aIb rfl M.len jh (jA (pv 1) jB)) (jN kI rfl M.len jh (jA (pv 2) jB)))))) (jC (jI cO)) jL) (jE (jV (vL (kR (jN (dI rfl) rfl M.all boot_all (jA (kU ["name","inner"] ["thing"] [1] rfl (xQ (pv 2)) rfl ⟨rfl,trivial⟩ ⟨⟨rfl,rfl,rfl,_,rfl⟩,trivial⟩ (fun _ _ _ _=>(zW (K:=K) (n:=2) rfl rfl (kH (qD rfl) (kH (dP rfl) qQ)))) (fun _ _ _ _=>kT) (fun _ _ _ _=>(aRt (aRz hr.units1 (pv 0) (pv 2))))) jB)))) (jC (jI cO)) jL) (jC (jI (jN (dI rfl) rfl M.all boot_all (jA (kU ["name","inner"] ["thing"] [1] rfl (xQ (pv 2)) rfl ⟨rfl,trivial⟩ ⟨⟨rfl,rfl,rfl,_,rfl⟩,trivial⟩ (fun _ _ _ _=>(zW (K:=K) (n:=2) rfl rfl (kH (qD rfl) (kH (dP rfl) qQ)))) (fun _ _ _ _=>kT) (fun _ _ _ _=>(jF bc hr (jA (pv 1) (jA (yL hr.units1 (pv 2) (pv 0) (fun _ _=>rfl)) jB))))) jB))))))),?_⟩;cases id ho with
 | @nest a dx s i e0 h1 =>
  obtain⟨sh,hs,so⟩:=hw.at e0;obtain⟨dx2,t,ps,k1,k2,k3⟩:=id so;have pn:=vG hs;have hm:=ι hs;have zl:(ps.map V.ref).length=sh.2.length:=by rw[δ];exact k3.len
  have few:=hW.good.few i sh hs;have h6:(ps.map V.ref).length<τ:=kL (by omega);obtain⟨ds,es,ks,es',rfl,rfl,l,p0,hR⟩:=hc;have D:=aHt (xJ hW.fnd i) l p0 hR;have hkl:=D.p.length_eq;rw[δ,pn]at hkl;obtain⟨ad,xs,rfl,hdk,l2,dts⟩:=sY hd l;have hy:∀(j:Nat) (f:Str×Kd),sh.2[j]?=some f->∃v d e,aO (kz ks xs) (.inr f.1)=some v/\Dt false K H v e/\Rec S r f.2 d e:=fun j f hf'=>by
   obtain⟨v,d,e,_,z2,z3,z4⟩:=aNz (xJ hW.fnd i) D l2 dts (i:=j) (f:=f) (by rw[pn];exact hf');exact⟨v,d,e,z2,z3,z4⟩
  refine⟨_,rfl,a,Vb,_,_,_,rfl,h1,Ub.cl,Ub.nd,rfl,s,Ve,_,_,_,rfl,k1,Ue.cl,Ue.nd,rfl,?_⟩;refine⟨_,rfl,.ref ad,_,"dict",rfl,by decide,.inr ⟨rfl,ad,_,rfl,hdk⟩,_,rfl,jU ⟨_,rfl,ad,_,rfl,hdk,_,rfl,t,_,rfl,.inr k2,rfl,_,rfl,?_⟩⟩;have hll:(kz ks xs).length=sh.2.length:=by rw[yX l2];exact hkl
  refine qO (by rw[zl];simp;omega) ⟨_,rfl,t,rfl,⟨_,k2⟩,zH (xs:=ps.map V.ref) (fun j ys H'=>H'=H/\ys=((sh.2.take j).map fun f=>(aO (kz ks xs) (.inr f.1)).isSome).map V.bl) ⟨rfl,rfl⟩ (fun j ys H' _ z=>⟨by rw[z.1];exact k2,by rw[z.2,δ,δ,ib];exact jy _ _⟩) h6 (fun j x ys H' os ho' hx z=>?_) (fun ys H' z p hp=>?_)⟩
  ·obtain⟨rfl,rfl⟩:=z;obtain⟨o1,o2,rfl⟩:=uS ho';obtain⟨u,hu,rfl⟩:=qF hx;obtain⟨nm,kd,k,hf2,ht,_⟩:=k3.get hu;refine⟨u,_,rfl,ht,rfl,_,_,rfl,_,_,rfl,rfl,_,rfl,_,rfl,ad,_,rfl,zD.k (k:=.inr nm) hdk,⟨rfl,?_⟩,[_,_],rfl,rfl⟩;rw[qV hf2,ρ];rfl
  ·obtain⟨rfl,rfl⟩:=z;clear 1 p H1 g1 kp hp;rw[zl,kM]at kp;refine⟨p,_,rfl,SqL.of kp,_,rfl,?_⟩;rw[hU (fun f hf=>by obtain⟨j,hj⟩:=jd.mp hf;obtain⟨v,d,e,hv,_⟩:=hy j f hj;rw[hv];rfl)];refine jU ⟨_,rfl,t,rfl,⟨_,g1.tp k2⟩,zH (xs:=ps.map V.ref) (fun j ys H2=>jJ H1 H2/\ys=((sh.2.take j).map fun _=>true).map V.bl) ⟨jJ.refl _,rfl⟩ (fun j ys H2 _ z=>⟨z.1.tp (g1.tp k2),by rw[z.2,δ,δ,ib];exact jy _ _⟩) h6 (fun j x ys H2 os ho' hx z=>?_) (fun ys H2 z p2 hp2=>?_)⟩
   ·obtain⟨g2,rfl⟩:=z;obtain⟨o1,o2,rfl⟩:=uS ho';obtain⟨u,hu,rfl⟩:=qF hx;obtain⟨nm,kd,k,hf2,ht,hko⟩:=k3.get hu;obtain⟨v,d,e,hv,hdt,hcn⟩:=hy j _ hf2;have g12:=g1.trans g2;have hko':=hko.more (sa.drop i);rw[ky]at hko';obtain⟨p1,p2,_⟩:=Kd.parts_ok hW.good hf hk (f:=(nm,kd)) (by rw[pn];exact ι hf2);refine⟨u,_,rfl,g12.tp ht,rfl,_,_,rfl,_,_,rfl,rfl,_,rfl,_,rfl,_,rfl,ad,v,rfl,(by rw[←hv];exact zD.k (k:=.inr nm) (g12 _ _ hdk)),k,v,kd,sa,S,d,e,rfl,rfl,p1,p2,hko'.same g12,hw.same g12,hW,hdt.same g12,hcn,fun H3 g3=>⟨⟨g2.trans g3,?_⟩,[_,_],rfl,rfl⟩⟩;rw[qV hf2,ρ];rfl
   ·obtain⟨g2,rfl⟩:=z;clear 1 p2 H3 g3 kp3 hp2;rw[zl,kM]at kp3;refine⟨p2,_,rfl,SqL.of kp3,?_⟩;rw[hU (fun f hf=>rfl)];exact q H3 ((g1.trans g2).trans g3)
 |_=>cases hF
theorem wA(F:Fun K "has_count" "has_count" dY f fd)(bc:j4 "may_have" (cP (j8 0) K r aNc)):j1 ["kind","thing"] (cP (j8 0) K (r+1) Kd.isMany):=by
 w_cond uH;obtain⟨a,x,kd,sa,S,d,e,rfl,hF,hk,hf,ho,hw,hW,hd,hc,q⟩:=h;refine⟨_,(jE (jV (PW.pt (yP (vL (kR (jN kW rfl M.isinstance ip (jA (pv 1) (jA (qM (v:=.ty "list") rfl M.list boot_list rfl) jB))))) (yA (jP yB (jN kI rfl M.len jh (jA (pv 1) jB)) (kP (pv 0) rfl))))) (jC (jI cO)) jL) (jC (jI (jN (dI rfl) rfl M.all boot_all (jA (kU ["item"] ["kind"] [0] rfl (qK (pv 1)) rfl ⟨rfl,trivial⟩ ⟨⟨rfl,rfl,rfl,_,rfl⟩,trivial⟩ (fun _ _ _ _=>(qD rfl)) (fun _ _ _ _=>kT) (fun _ _ _ _=>(jF bc hr (jA (iI (K:=K) rfl (pv 1) rfl) (jA (pv 0) jB))))) jB))))),?_⟩;cases id ho with
 | @many a dx b' n k h1 h2 =>
  obtain⟨ds,es,rfl,rfl,hR⟩:=hc;have hl:n=es.length:=by have:=hR.len.2;rw[←this];show _=((ir n).map _).length;rw[δ,jx]
  cases hd with
  | @lst ad xs _ hx hz dts =>
   have lx:=dts.length;have hn:n<=6:=hf.2.1;refine⟨_,rfl,.ref ad,_,"list",rfl,by decide,.inl (.inl ⟨rfl,_,hx⟩),_,rfl,jU ⟨_,rfl,ad,xs,rfl,.inl hx,_,rfl,a,Vc,_,_,_,rfl,h1,Uc.cl,Uc.nd,rfl,rfl,_,rfl,qO (by rw[lx,←hl];simp) ⟨_,rfl,ad,rfl,⟨_,hx⟩,vV (xs:=xs) (fun j ys H'=>jJ H H'/\ys=((es.take j).map fun _=>true).map V.bl) ⟨jJ.refl _,rfl⟩ (fun j ys H' _ z=>⟨z.1.seq hx,by rw[z.2,δ,δ,ib];exact jy _ _⟩) (kL (by omega)) (fun j v ys H' hv z=>?_) (fun ys H' z p hp=>?_)⟩⟩⟩
   ·obtain⟨g,rfl⟩:=z;have hj:j<es.length:=by rw[←lx];exact(ε.mp hv).1
    have hpj:((Kd.many n k).parts S)[j]?=some (η (toString j),k):=by
     show((ir n).map _)[j]?=_;rw[υ,nr (by omega)];rfl
    obtain⟨d1,e1,hd1,he1,hR1⟩:=hR.get hpj;obtain⟨v',hv',hdt⟩:=dts.get he1;rw[hv]at hv';cases hv';obtain⟨p1,p2,_⟩:=Kd.parts_ok hW.good hf hk (ι hpj);refine⟨_,rfl,a,Vc,_,_,_,rfl,g _ _ h1,Uc.cl,Uc.nd,rfl,_,rfl,b',v,k,sa,S,d1,e1,rfl,rfl,p1,p2,h2.same g,hw.same g,hW,hdt.same g,hR1,fun H3 g3=>⟨⟨g.trans g3,?_⟩,_,rfl⟩⟩;rw[qV he1,ρ];rfl
   ·obtain⟨g,rfl⟩:=z;clear 1 p H3 g3 kp3 hp;rw[lx,kM]at kp3;refine⟨p,_,rfl,SqL.of kp3,?_⟩;rw[hU (fun f hf=>rfl)];exact q H3 (g.trans g3)
 |_=>cases hF
theorem tW(F:Fun K "is_choice" "is_choice" dR f fd)(cy:j4 "is_number_of" (aPt (j8 0) K))(ay:j4 "is_record" (tY (j8 0) K r)):j1 ["kind","thing"] (cP (j8 0) K (r+1) Kd.isPick):=by
 w_cond tX;obtain⟨a,x,kd,sa,S,d,e,rfl,hF,hk,hf,ho,hw,hW,hd,hc,q⟩:=h;refine⟨_,(jE (jV (PW.pt (yP (vL (kR (jN kW rfl M.isinstance ip (jA (pv 1) (jA (qM (v:=.ty "tuple") rfl M.tuple qy rfl) jB))))) (yA (jP yB (jN kI rfl M.len jh (jA (pv 1) jB)) jD)))) (jC (jI cO)) jL) (jC (jI (vY (jF cy hr (jA (pv 0) (jA (jG jQ (pv 1) jD) jB))) (xP (jF ay hr (jA (jG jQ (kP (pv 0) rfl) (jG jQ (pv 1) jD)) (jA (jG jQ (pv 1) jD) jB)))))))),?_⟩;cases id ho with
 | @pick a dx t is ss h1 h2 h3 h4 =>
  obtain⟨j,i,a0,b0,hi,rfl,rfl,hce⟩ : ∃(j i:Nat) (a b:θ),is[j]?=some i/\d=.tuple [.int j,a]/\e=.tuple [.int j,b]/\Rec S r (.nest i) a b:=hc;cases hd with
  | @tup ad xs _ hx dts =>
   cases dts with
   |cons hd0 dts =>
    cases dts with
    | @cons x1 _ _ _ hd1 dts =>
     cases dts;cases hd0;have hj:j<is.length:=(ε.mp hi).1;have hsj:ss[j]?=some ss[j]:=ζ (by omega);have hsa:=h4 j i _ hi hsj;refine⟨_,rfl,.ref ad,_,"tuple",rfl,by decide,.inl (.inr ⟨rfl,_,hx⟩),_,rfl,jU ⟨_,rfl,ad,_,rfl,.inr hx,rfl,_,rfl,qO (by simp) ⟨_,rfl,_,rfl,ad,_,_,_,rfl,rfl,hx,rfl,a,j,is,sa,rfl,ho,hj,_,rfl,vZ rfl ?_⟩⟩⟩;refine⟨_,rfl,a,Vd,_,_,_,rfl,h1,Ud.cl,Ud.nd,rfl,_,rfl,ad,_,_,_,rfl,rfl,hx,rfl,t,_,_,_,rfl,rfl,h2,?_,_,rfl,ad,_,_,_,rfl,rfl,hx,rfl,ss[j],x1,i,sa,S,a0,b0,rfl,hsa,?_,hw,hW,hd1,hce,q⟩
     ·exact xM hsj
     ·have:=hk i (ι hi);omega
 |_=>cases hF
theorem hJ(F:Fun K "is_record" "is_record" dQ f fd)(ac:j5 cIv (tP Vb "shape"))(bc:j4 "may_have" (cP (j8 0) K r aNc)):j1 ["shape","thing"] (tY (j8 0) K r):=by
 w_cond uW;obtain⟨s,x,i,sa,S,d,e,rfl,e0,hi,hw,hW,hd,hc,q⟩:=h;refine⟨_,(jC (jI (jF bc hr (jA (yW Ub ac hr0 rfl qR (jA (pv 0) jB)) (jA (pv 1) jB))))),?_⟩;have hil:i<S.length:=by rw[←hw.1];exact(ε.mp e0).1
 refine⟨_,rfl,fun y dx hy hdx _=>⟨y,dx,.ref s,H,rfl,jT,cN hy hdx,hy,fun H1 g1 k1=>⟨rfl,_,rfl,y,x,.nest i,sa,S,d,e,rfl,rfl,hi,hil,.nest e0 k1,hw.same g1,hW,hd.same g1,hc,fun H2 g2=>q H2 (g1.trans g2)⟩⟩⟩
theorem aIi(F:Fun K "copied" "copied" oQ f fd)(bw:j4 "copied" (aGm K r)):j1 ["record"] (aGm K (r+1)):=by
 w_cond aIl;obtain⟨x,e,fs,r0,er,rfl,ht,hx,q⟩:=h;cases er;refine⟨_,(jE (jV (kR (jN kW rfl M.isinstance ip (jA (pv 0) (jA (qM (v:=.ty "dict") rfl M.dict boot_dict rfl) jB)))) (jC (jI (aGv (aCs ["name"] ["record"] [0] rfl (aNu (pv 0)) rfl ⟨rfl,trivial⟩ ⟨⟨rfl,rfl,rfl,_,rfl⟩,trivial⟩ (fun _ _ _ _=>(qD rfl)) (fun _ _ _ _=>kT) (fun _ _ _ _=>(pv 0)) (fun _ _ _ _=>(jF bw hr (jA (yL hr.units1 (pv 1) (pv 0) (fun _ _=>rfl)) jB))))))) jL) (jE (jV (kR (jN kW rfl M.isinstance ip (jA (pv 0) (jA (qM (v:=.ty "list") rfl M.list boot_list rfl) jB)))) (jC (jI (kU ["item"] [] [] rfl (qK (pv 0)) rfl trivial trivial (fun _ _ _ _=>(qD rfl)) (fun _ _ _ _=>kT) (fun _ _ _ _=>(jF bw hr (jA (pv 0) jB)))))) jL) (jE (jV (kR (jN kW rfl M.isinstance ip (jA (pv 0) (jA (qM (v:=.ty "tuple") rfl M.tuple qy rfl) jB)))) (jC (jI (qP yM rfl M.tuple qy (jA (kU ["item"] [] [] rfl (xQ (pv 0)) rfl trivial trivial (fun _ _ _ _=>(qD rfl)) (fun _ _ _ _=>kT) (fun _ _ _ _=>(jF bw hr (jA (pv 0) jB)))) jB)))) jL) (jC (jI (pv 0)))))),?_⟩;cases hx with
 |int i=>exact⟨_,rfl,.int i,_,"int",rfl,by decide,.inl rfl,_,rfl,jU ⟨_,rfl,.int i,_,"int",rfl,by decide,.inl rfl,_,rfl,jU ⟨_,rfl,.int i,_,"int",rfl,by decide,.inl rfl,_,rfl,jU ⟨_,rfl,q _ [] H (jJ.refl _) (fun b hb=>by cases hb) (.int i)⟩⟩⟩⟩
 | @lst a xs ds fs h t n =>
  cases r with
  |zero=>exact ht.elim
  |succ r =>
  obtain⟨_,few,hts⟩:=ht;have lx:=t.len;refine⟨_,rfl,.ref a,_,"list",rfl,by decide,.inl (.inl ⟨rfl,_,SqL.of h⟩),_,rfl,jU ⟨_,rfl,.ref a,_,"list",rfl,by decide,.inl (.inl ⟨rfl,_,SqL.of h⟩),_,rfl,kO ⟨_,rfl,a,rfl,⟨_,SqL.of h⟩,vV (xs:=xs) (fun j ys H'=>jJ H H'/\∃gs,Trs true K H' ys (ds.take j) gs/\New H gs) ⟨jJ.refl _,[],.nil,fun b hb=>by cases hb⟩ (fun j ys H' _ z=>⟨SqL.of (z.1 _ _ h),?_⟩) (kL (by omega)) (fun j x ys H' hx z=>?_) (fun ys H' z p hp=>?_)⟩⟩⟩
  ·obtain⟨_,gs,h1,_⟩:=z;rw[h1.len];exact List.length_take_le _ _
  ·obtain⟨g,gs,htr,hnew⟩:=z;obtain⟨d,g1,hd,hxd,_⟩:=t.at hx;refine⟨_,rfl,x,d,g1,r,rfl,rfl,hts d (ι hd),hxd.same g,fun v g3 H3 s3 hn3 h3=>⟨⟨g.trans s3,gs++g3,?_,hnew.app (hn3.back g)⟩,_,rfl⟩⟩;rw[jq,hd];exact Trs.snoc h3 (htr.same s3) (hn3.dis htr.mu)
  ·obtain⟨g,gs,htr,hnew⟩:=z;rw[lx,kM]at htr;clear 1 p H3 g3 k3 hp;exact q (.ref p) (p::gs) H3 (g.trans g3) (New.cons (g.free hp) hnew) (.lst k3 (htr.same g3) (htr.mu.not hp))
 | @tup a i x1 d fs h t =>
  cases r with
  |zero=>exact ht.elim
  |succ r =>
  have ht':Tre r d:=ht.1;refine⟨_,rfl,.ref a,_,"tuple",rfl,by decide,.inl (.inr ⟨rfl,_,h⟩),_,rfl,jU ⟨_,rfl,.ref a,_,"tuple",rfl,by decide,.inl (.inr ⟨rfl,_,h⟩),_,rfl,jU ⟨_,rfl,.ref a,_,"tuple",rfl,by decide,.inl (.inr ⟨rfl,_,h⟩),_,rfl,kO ⟨_,rfl,a,rfl,⟨_,h⟩,gZ (xs:=[.int i,x1]) (fun j ys H'=>jJ H H'/\∃gs,Trs true K H' ys ([.int i,d].take j) gs/\New H gs) ⟨jJ.refl _,[],.nil,fun b hb=>by cases hb⟩ (fun j ys H' _ z=>⟨z.1.tp h,?_⟩) (by show 2<τ;decide) (fun j x ys H' hx z=>?_) (fun ys H' z p hp=>?_)⟩⟩⟩⟩
  ·obtain⟨_,gs,h1,_⟩:=z;rw[h1.len];exact List.length_take_le _ _
  ·obtain⟨g,gs,htr,hnew⟩:=z;obtain⟨d1,g1,hd,hx1,hr1⟩ : ∃d1 g1,[.int i,d][j]?=some d1/\Tr false K H x d1 g1/\Tre r d1:=by
    match j,hx with
    |0,hx=>cases hx;exact⟨_,[],rfl,.int i,aAe⟩
    |1,hx=>cases hx;exact⟨_,_,rfl,t,ht'⟩
    |j+2,hx=>cases hx
   refine⟨_,rfl,x,d1,g1,r,rfl,rfl,hr1,hx1.same g,fun v g3 H3 s3 hn3 h3=>⟨⟨g.trans s3,gs++g3,?_,hnew.app (hn3.back g)⟩,_,rfl⟩⟩;rw[jq,hd];exact Trs.snoc h3 (htr.same s3) (hn3.dis htr.mu)
  ·obtain⟨g,gs,htr,hnew⟩:=z;clear 1 p H3 g3 k3 hp;refine⟨p,ys,rfl,.inl ⟨SqL.of k3,fun t5 ht5=>?_⟩⟩;clear 1 t5 H5 g5 k5 ht5;cases htr with
   |cons q1 htr=>cases htr with
    |cons q2 htr=>cases htr with
     |nil =>
      cases q1;rw[uq,ly]at hnew;exact q (.ref t5) _ H5 ((g.trans g3).trans g5) hnew (.tup (SqT.of k5) (q2.same (g3.trans g5)))
 | @dct a ks xs ds fs h l t n =>
  cases r with
  |zero=>exact ht.elim
  |succ r =>
  obtain⟨ks',ds',ek,l',nd,few,hts⟩:=ht;have lx:=t.len;obtain⟨rfl,rfl⟩:=xW (l.trans lx) l' ek;refine⟨_,rfl,.ref a,_,"dict",rfl,by decide,.inr ⟨rfl,a,_,rfl,h⟩,_,rfl,kO ⟨_,rfl,a,_,rfl,h,fun o=>?_⟩⟩;generalize e1:upd H a _=H1;obtain⟨b1,k1⟩:=xS e1;have kl:(kz ks xs).length=ks.length:=yX l;refine aFz (fun D j ys H'=>∃(vs:List V) (gs:List Addr),ys=kz (ks.take j) vs/\vs.length=j/\jJ H1 H'/\H1 D=none/\H' D=some (.dK ys)/\Trs true K H' vs (ds.take j) gs/\New H1 gs/\D∉gs) (fun D hD=>⟨[],[],rfl,rfl,(jJ.refl H1).putn hD,hD,jT,.nil,(fun b hb=>by cases hb),fun hb=>by cases hb⟩) (fun D j ys H' _ z=>?_) (fun D j kv ys H' hkv z=>?_) (fun D ys H' z=>?_)
  ·obtain⟨vs,gs,_,_,g,_⟩:=z;exact g _ _ k1
  ·obtain⟨vs,gs,rfl,hvl,g,hD,kD,htr,hnew,nD⟩:=z;obtain⟨key,x⟩:=kv;obtain⟨hx,y,hy,rfl⟩:=L2.zip_get hkv;obtain⟨d,g1,hd,hxd,hsub⟩:=t.at hx;have na:a∉g1:=fun z=>n (hsub a z);have hx1:Tr false K H1 x d g1:=by rw[←e1];exact hxd.put na (.inr ⟨_,h⟩)
   have hj:j<ks.length:=(ε.mp hy).1;refine⟨_,rfl,_,rfl,_,rfl,a,x,rfl,.inl ⟨_,.inr y,.inr ⟨o,g _ _ k1⟩,rfl,(mJ nd l hy hx).symm⟩,x,d,g1,r,rfl,rfl,hts d (ι hd),hx1.same g,fun v g3 H3 s3 hn3 h3=>?_⟩;have kD3:=s3 _ _ kD;have nD3:D∉g3:=fun z=>by have:=hn3 D z;rw[kD]at this;cases this
   refine⟨.inr y,rfl,kD3,?_,⟨vs++[v],gs++g3,aEo nd hvl hy,(by rw[ν,hvl];rfl),(g.trans s3).putn hD,hD,jT,?_,hnew.app (hn3.back g),fun z=>(je.mp z).elim nD nD3⟩,_,rfl⟩
   ·rw[yX (by rw[ib,hvl];omega),ib];exact kn (iq (vt _ _) few) (by decide)
   ·rw[jq,hd];exact(Trs.snoc h3 (htr.same s3) (hn3.dis htr.mu)).put (fun z=>(je.mp z).elim nD nD3) (.inr ⟨_,kD3⟩)
  ·obtain⟨vs,gs,rfl,hvl,g,hD,kD,htr,hnew,nD⟩:=z;rw[kl,kM]at kD;rw[kl,show ks.length=ds.length from l.trans lx,kM]at htr;refine .inr ⟨a,o,_,g _ _ k1,(fun o' u' z=>by have z':H a=some (.frz o' u'):=z;rw[h]at z';cases z'),?_⟩;have naD:D≠a:=fun z=>by rw[z,k1]at hD;cases hD
   have nag:a∉gs:=fun z=>by have:=hnew a z;rw[k1]at this;cases this
   clear 0 a H5 b5 k5;have hH:jJ H H5:=fun b u e=>by
    by_cases z:b=a
    ·subst z;rw[h]at e;cases e;exact k5
    ·exact b5 _ _ z (g _ _ (b1 _ _ z e))
   have htr5:Trs true K H5 vs ds gs:=htr.frN (H:=H') (H':=H5) (ms:=[a]) (fun b u nb e=>b5 _ _ (fun z=>nb (by rw[z];exact ο.mpr rfl)) e) (fun b hb=>by rw[ο.mp hb];have:=g _ _ k1;exact⟨(fun _ z=>by rw[this]at z;cases z),(fun _ _ z=>by rw[this]at z;cases z)⟩) fun b hb z=>nag (by rw[←ο.mp z];exact hb);refine q (.ref D) (D::gs) H5 hH (New.cons ?_ fun b hb=>?_) (.dct (b5 _ _ naD kD) (by rw[hvl];exact kl.symm) htr5 nD)
   ·exact b1.none k1 hD
   ·exact b1.none k1 (hnew b hb)
theorem sC(F:Fun K "_law_spoilt" "_law_spoilt" cK f fd)(aq:j4 "_law_spoilt" (aGq K r)):j1 ["_law_thing"] (aGq K (r+1)):=by
 w_cond aJ;obtain⟨x,e,fs,r0,er,rfl,ht,hx,q⟩:=h;cases er;refine⟨_,(jE (jV (kR (jN kW rfl M.isinstance ip (jA (pv 0) (jA (qM (v:=.ty "dict") rfl M.dict boot_dict rfl) jB)))) (jC (qZ iy rfl (qK (qP (pC rfl) rfl M.list boot_list (jA (pv 0) jB))) (kN 1 aJ.nd) (jE (vM (jF aq hr (jA (yL hr.units1 (pv 0) (pv 1) (fun _ _=>rfl)) jB))) (jC (eN hr.units1 (pv 0) (pv 1) vA rfl))))) jL) (jE (jV (kR (jN kW rfl M.isinstance ip (jA (pv 0) (jA (qM (v:=.ty "list") rfl M.list boot_list rfl) jB)))) (jE (qZ iy rfl (qK (pv 0)) (kN 2 aJ.nd) (jC (vM (jF aq hr (jA (pv 2) jB))))) (jC (vM (aRj li PySem.F.slot_list_clear PySem.F.type_list_clear aKi (pv 0))))) jL) (jC (jV (kR (jN kW rfl M.isinstance ip (jA (pv 0) (jA (qM (v:=.ty "tuple") rfl M.tuple qy rfl) jB)))) (jC (vM (jF aq hr (jA (jG jQ (pv 0) jD) jB)))) jL)))),?_⟩;cases hx with
 |int i=>exact⟨_,rfl,.int i,_,"int",rfl,by decide,.inl rfl,_,rfl,jU ⟨_,rfl,.int i,_,"int",rfl,by decide,.inl rfl,_,rfl,jU ⟨_,rfl,.int i,_,"int",rfl,by decide,.inl rfl,_,rfl,jU (q H Fr.refl)⟩⟩⟩
 | @lst a xs ds fs h t n =>
  cases r with
  |zero=>exact ht.elim
  |succ r =>
  obtain⟨_,few,hts⟩:=ht;have lx:=t.len;refine⟨_,rfl,.ref a,_,"list",rfl,by decide,.inl (.inl ⟨rfl,_,SqL.of h⟩),_,rfl,jU ⟨_,rfl,.ref a,_,"list",rfl,by decide,.inl (.inl ⟨rfl,_,SqL.of h⟩),_,rfl,kO ⟨_,rfl,a,rfl,⟨_,SqL.of h⟩,xI (xs:=xs) (fun j σ H'=>∃o1 o2,σ = [some (.ref a),o1,o2]/\Fr fs H H'/\H' a=some (.lst xs)/\∃f2,Trs true K H' (xs.drop j) (ds.drop j) f2/\∀b∈f2,b∈fs) ⟨_,_,rfl,Fr.refl,h,fs,t,fun b hb=>hb⟩ (fun j σ H' _ z=>?_) (fun j x σ H' hx z=>?_) (fun σ H' z=>?_)⟩⟩⟩
  ·obtain⟨o1,o2,rfl,_,ha,_⟩:=z;exact SqL.of ha
  ·obtain⟨o1,o2,rfl,f,ha,f2,htr,hsub⟩:=z;obtain⟨hj,rfl⟩:=ε.mp hx;have hjd:j<ds.length:=by omega
   rw[jl hj,jl hjd]at htr;cases htr with
   | @cons _ _ _ _ fx fr h1 h2 h3 =>
    refine⟨_,rfl,xs[j],ds[j],fx,r,rfl,rfl,hts _ (mw hjd),h1,fun H3 f3=>?_⟩;exact⟨_,_,rfl,f.trans (f3.mono fun b hb=>hsub b (iu _ hb)),f3 _ _ (fun z=>n (hsub a (iu _ z))) ha,fr,h2.fr f3 h1.mu (fun b hb z=>h3 rfl b z hb),fun b hb=>hsub b (ia _ hb)⟩
  ·obtain⟨o1,o2,rfl,f,ha,_⟩:=z;refine⟨_,rfl,.inl ⟨rfl,_,SqL.of ha⟩,a,_,rfl,rfl,ha,?_⟩;clear 0 a H3 g3 k3;refine⟨_,rfl,.ref a,_,"list",rfl,by decide,.inl (.inl ⟨rfl,_,SqL.of k3⟩),_,rfl,jU (q H3 ?_)⟩;exact(f.mono fun b hb=>Ψ _ hb).trans fun b o nb e=>g3 _ _ (fun z=>nb (by rw[z];exact Δ ..)) e
 | @tup a i x1 d fs h t =>
  cases r with
  |zero=>exact ht.elim
  |succ r=>exact⟨_,rfl,.ref a,_,"tuple",rfl,by decide,.inl (.inr ⟨rfl,_,h⟩),_,rfl,jU ⟨_,rfl,.ref a,_,"tuple",rfl,by decide,.inl (.inr ⟨rfl,_,h⟩),_,rfl,jU ⟨_,rfl,.ref a,_,"tuple",rfl,by decide,.inl (.inr ⟨rfl,_,h⟩),_,rfl,kO ⟨_,rfl,a,_,_,_,rfl,rfl,h,rfl,x1,d,fs,r,rfl,rfl,ht.1,t,fun H3 f3=>q H3 f3⟩⟩⟩⟩
 | @dct a ks xs ds fs h l t n =>
  cases r with
  |zero=>exact ht.elim
  |succ r =>
  have lx:=t.len;obtain⟨nd,few,hts⟩:=aPs (l.trans lx) ht;have kl:(kz ks xs).length=ks.length:=yX l;refine⟨_,rfl,.ref a,_,"dict",rfl,by decide,.inr ⟨rfl,a,_,rfl,h⟩,_,rfl,kO ⟨_,rfl,a,_,rfl,h,(by rw[kl];omega),fun kl' hkl=>?_⟩⟩;rw[aNa l];generalize e1:upd H kl' _=H1;obtain⟨g1,k1⟩:=kY e1 hkl;have na:a≠kl':=jS h hkl;have nf:kl'∉fs:=t.mu.not hkl;refine⟨kl',rfl,⟨_,SqL.of k1⟩,xI (xs:=ks.map V.str) (fun j σ H'=>∃o1 o2,σ = [some (.ref a),o1,o2]/\Fr (a::fs) H H'/\H' kl'=some (.lst (ks.map V.str))/\∃vs f2,H' a=some (.dK (kz ks vs))/\ks.length=vs.length/\vs.drop j=xs.drop j/\Trs true K H' (xs.drop j) (ds.drop j) f2/\∀b∈f2,b∈fs) ⟨_,_,rfl,Fr.of g1,k1,xs,fs,g1 _ _ h,l,rfl,t.same g1,fun b hb=>hb⟩ (fun j σ H' _ z=>?_) (fun j x σ H' hx z=>?_) (fun σ H' z=>?_)⟩
  ·obtain⟨o1,o2,rfl,_,hk,_⟩:=z;exact SqL.of hk
  ·obtain⟨o1,o2,rfl,f,hk,vs,f2,ha,lv,hdr,htr,hsub⟩:=z;obtain⟨y,hy,rfl⟩:=zK hx;have hj:j<ks.length:=(ε.mp hy).1;have hjx:j<xs.length:=by omega
   have hjd:j<ds.length:=by omega
   rw[jl hjx]at hdr;have hvx:vs[j]?=some xs[j]:=by rw[←List.head?_drop,hdr];rfl
   have hdr':vs.drop (j+1)=xs.drop (j+1):=by rw[←List.tail_drop,hdr];rfl
   rw[jl hjx,jl hjd]at htr;cases htr with
   | @cons _ _ _ _ fx fr h1 h2 h3 =>
    refine⟨_,rfl,_,rfl,a,xs[j],rfl,(by rw[←mJ nd lv hy hvx];exact zD.k (k:=.inr y) ha),xs[j],ds[j],fx,r,rfl,rfl,hts _ (mw hjd),h1,fun H3 f3=>?_⟩;have ax:a∉fx:=fun z=>n (hsub a (iu _ z));have ar:a∉fr:=fun z=>n (hsub a (ia _ z));have ha3:=f3 _ _ ax ha;have hk3:=f3 _ _ (fun z=>nf (hsub _ (iu _ z))) hk;refine⟨_,rfl,_,rfl,a,_,rfl,wX.k (k:=ol y) ha3 (by rw[yX lv];exact kn few (by decide)),?_⟩;have ev:=aQl hvx;have ltk:(vs.take j).length=j:=by rw[ib];omega
    have ep:putK (kz ks vs) (.inr y) .non=kz ks (vs.take j++V.non::vs.drop (j+1)):=by
     conv=>lhs;rw[ev]
     exact aKq nd (by rw[←ev];exact lv) (by rw[ltk];exact hy)
    rw[ep];generalize e4:upd H3 a _=H4;obtain⟨g4,k4⟩:=xS e4;have h24:Trs true K H4 (xs.drop (j+1)) (ds.drop (j+1)) fr:=by rw[←e4];exact(h2.fr f3 h1.mu (fun b hb z=>h3 rfl b z hb)).put ar (.inr ⟨_,ha3⟩)
    refine⟨_,_,rfl,(f.trans (f3.mono fun b hb=>Ψ _ (hsub b (iu _ hb)))).trans (fun b o nb e=>g4 _ _ (fun z=>nb (by rw[z];exact Δ ..)) e),g4 _ _ (lm na) hk3,_,fr,k4,?_,?_,h24,fun b hb=>hsub b (ia _ hb)⟩
    ·rw[ν,ltk,Γ,rl];omega
    ·have:=aDn (vs.take j) V.non (vs.drop (j+1));rw[ltk]at this;rw[this];exact hdr'
  ·obtain⟨o1,o2,rfl,f,hk,vs,f2,ha,_⟩:=z;exact⟨_,rfl,.ref a,_,"dict",rfl,by decide,.inr ⟨rfl,a,_,rfl,ha⟩,_,rfl,jU ⟨_,rfl,.ref a,_,"dict",rfl,by decide,.inr ⟨rfl,a,_,rfl,ha⟩,_,rfl,jU (q H' f)⟩⟩
theorem aCp(F:Fun K "_law_twin" "_law_twin" gM f fd)(be:j4 "_law_twin" (aHi K r)):j1 ["_law_thing"] (aHi K (r+1)):=by
 w_cond aB;obtain⟨x,e,fs,r0,er,rfl,ht,hx,q⟩:=h;cases er;refine⟨_,(jE (jV (kR (jN kW rfl M.isinstance ip (jA (pv 0) (jA (qM (v:=.ty "list") rfl M.list boot_list rfl) jB)))) (jC (jI (jW aQo (qT (jA (jF be hr (jA (jG jX (pv 0) jD) jB)) jB)) (jN kI rfl M.len jh (jA (pv 0) jB))))) jL) (jE (jV (kR (jN kW rfl M.isinstance ip (jA (pv 0) (jA (qM (v:=.ty "tuple") rfl M.tuple qy rfl) jB)))) (jC (jI (kQ (jA (jG jQ (pv 0) jD) (jA (jF be hr (jA (jG jQ (pv 0) jD) jB)) jB))))) jL) (jE (jV (kR (jN kW rfl M.isinstance ip (jA (pv 0) (jA (qM (v:=.ty "dict") rfl M.dict boot_dict rfl) jB)))) (jE (jR 1 aB.nd pO) (jE (qZ iy rfl (aLv (pv 0)) (xL rfl (kH (kN 2 aB.nd) (kH (kN 3 aB.nd) qQ))) (jC (eN hr.units1 (pv 1) (pv 2) (jF be hr (jA (pv 3) jB)) rfl))) (jC (jI (aGv (pv 1)))))) jL) (jC (jI (pv 0)))))),?_⟩;cases hx with
 |int i=>exact⟨_,rfl,.int i,_,"int",rfl,by decide,.inl rfl,_,rfl,jU ⟨_,rfl,.int i,_,"int",rfl,by decide,.inl rfl,_,rfl,jU ⟨_,rfl,.int i,_,"int",rfl,by decide,.inl rfl,_,rfl,jU ⟨_,rfl,q _ [] H (jJ.refl _) (fun b hb=>by cases hb) (by rw[show twn r (.int i)=.int i by cases r <;> rfl];exact .int i)⟩⟩⟩⟩
 | @lst a xs ds fs h t n =>
  cases r with
  |zero=>exact ht.elim
  |succ r =>
  obtain⟨hne,few,hts⟩:=ht;have lx:=t.len;obtain⟨d0,ds',rfl⟩ : ∃d ds',ds=d::ds':=by
   cases ds with
   |nil=>exact absurd rfl hne
   |cons d ds'=>exact⟨d,ds',rfl⟩
  obtain⟨x0,hx0⟩ : ∃x,xs[0]?=some x:=⟨_,ζ (by rw[lx];show 0<_+1;omega)⟩;obtain⟨d1,f1,hd1,ht1,_⟩:=t.at hx0;cases hd1;refine⟨_,rfl,.ref a,_,"list",rfl,by decide,.inl (.inl ⟨rfl,_,SqL.of h⟩),_,rfl,kO ⟨_,rfl,a,xs,_,x0,rfl,rfl,SqL.of h,vT (j:=0) hx0,x0,d0,f1,r,rfl,rfl,hts _ (Δ ..),ht1,fun v gs H3 g3 hn3 h3=>⟨lP,fun l1 hl1=>?_⟩⟩⟩;clear 1 l1 H4 g4 k4 hl1;refine⟨_,rfl,a,xs,rfl,.inl (SqL.of (g4 _ _ (g3 _ _ h))),l1,_,_,rfl,rfl,k4,(by omega),(by omega),(by rw[Int.toNat_natCast,il];show 1*_<=_;omega),fun p hp=>?_⟩;generalize e5:upd H4 p _=H5;obtain⟨g5,k5⟩:=kY e5 hp;rw[Int.toNat_natCast,List.flatten_replicate_singleton,lx]at k5;obtain⟨f9,h9,s9⟩:=Trs.rep (h3.same (g4.trans g5)) (d0::ds').length;have hn9:New H f9:=fun b hb=>hn3 b (s9 b hb);refine q (.ref p) (p::f9) H5 ((g3.trans g4).trans g5) (New.cons ((g3.trans g4).free hp) hn9) (.lst k5 h9 fun z=>?_);exact((h3.same g4).mu.not hp) (s9 p z)
 | @tup a i x1 d fs h t =>
  cases r with
  |zero=>exact ht.elim
  |succ r =>
  refine⟨_,rfl,.ref a,_,"tuple",rfl,by decide,.inl (.inr ⟨rfl,_,h⟩),_,rfl,jU ⟨_,rfl,.ref a,_,"tuple",rfl,by decide,.inl (.inr ⟨rfl,_,h⟩),_,rfl,kO ⟨_,rfl,a,_,_,_,rfl,rfl,h,rfl,_,rfl,a,_,_,_,rfl,rfl,h,rfl,x1,d,fs,r,rfl,rfl,ht.1,t,fun v gs H3 g3 hn3 h3=>⟨xT,fun t5 ht5=>?_⟩⟩⟩⟩;generalize e5:upd H3 t5 _=H5;obtain⟨g5,k5⟩:=kY e5 ht5;exact q (.ref t5) gs H5 (g3.trans g5) hn3 (.tup (SqT.of k5) (h3.same g5))
 | @dct a ks xs ds fs h l t n =>
  cases r with
  |zero=>exact ht.elim
  |succ r =>
  have lx:=t.len;obtain⟨nd,few,hts⟩:=aPs (l.trans lx) ht;have kl:(kz ks xs).length=ks.length:=yX l;refine⟨_,rfl,.ref a,_,"dict",rfl,by decide,.inr ⟨rfl,a,_,rfl,h⟩,_,rfl,jU ⟨_,rfl,.ref a,_,"dict",rfl,by decide,.inr ⟨rfl,a,_,rfl,h⟩,_,rfl,jU ⟨_,rfl,.ref a,_,"dict",rfl,by decide,.inr ⟨rfl,a,_,rfl,h⟩,_,rfl,kO (fun D hD=>?_)⟩⟩⟩;clear 1 D H1 g1 k1 hD;have nDa:D≠a:=lm (jS h hD);have nDf:D∉fs:=t.mu.not hD;refine⟨_,rfl,a,_,rfl,g1 _ _ h,fun o=>?_⟩;clear 0 a H2 b2 k2;refine aJb (kvs:=kz ks xs) (fun j σ H'=>∃o2 o3 vs gs,σ = [some (.ref a),some (.ref D),o2,o3]/\But D H2 H'/\H' D=some (.dK (kz (ks.take j) vs))/\vs.length=j/\Trs false K H' vs ((ds.take j).map (twn r)) gs/\New H gs/\D∉gs) ⟨_,_,[],[],rfl,But.refl,b2 _ _ nDa k1,rfl,.nil,(fun b hb=>by cases hb),fun hb=>by cases hb⟩ (fun j σ H' _ z=>?_) (fun j kv σ H' p hkv z hp=>?_) (fun σ H' z=>?_)
  ·obtain⟨o2,o3,vs,gs,rfl,g,_⟩:=z;exact g _ _ (lm nDa) k2
  ·obtain⟨o2,o3,vs,gs,rfl,g,kD,hvl,htr,hnew,nDg⟩:=z;obtain⟨key,x⟩:=kv;obtain⟨hx,y,hy,rfl⟩:=L2.zip_get hkv;clear 1 p H3 g3 k3 hp;obtain⟨d,f1,hd,hxd,hsub⟩:=t.at hx;have hfr:Fr [a,D] H H3:=fun b u nb e=>g3 _ _ (g _ _ (fun z=>nb (by rw[z];simp)) (b2 _ _ (fun z=>nb (by rw[z];simp)) (g1 _ _ e)));have hx3:Tr true K H3 x d f1:=hxd.frN hfr (fun b hb=>by
    rcases Ξ.mp hb with rfl|hb
    ·exact⟨(fun _ z=>by rw[h]at z;cases z),(fun _ _ z=>by rw[h]at z;cases z)⟩
    ·rw[ο.mp hb];exact⟨(fun _ z=>by rw[hD]at z;cases z),(fun _ _ z=>by rw[hD]at z;cases z)⟩) fun b hb z=>by
    rcases Ξ.mp z with rfl|z
    ·exact n (hsub _ hb)
    ·exact nDf (hsub _ (by rw[←ο.mp z];exact hb))
   have hj:j<ks.length:=(ε.mp hy).1;refine⟨p,_,rfl,SqT.of k3,rfl,_,_,rfl,_,_,rfl,rfl,_,rfl,x,d,f1,r,rfl,rfl,hts d (ι hd),hx3,fun v g4 H4 s4 hn4 h4=>?_⟩;have kD4:=s4 _ _ (g3 _ _ kD);have nD4:D∉g4:=fun z=>by have:=hn4 D z;rw[g3 _ _ kD]at this;cases this
   refine⟨_,rfl,_,rfl,D,_,rfl,wX.k (k:=ol y) kD4 ?_,?_⟩
   ·rw[yX (by rw[ib,hvl];omega),ib];exact kn (iq (vt _ _) few) (by decide)
   rw[aEo nd hvl hy];generalize e5:upd H4 D _=H5;obtain⟨b5,k5⟩:=xS e5;refine⟨_,_,vs++[v],gs++g4,rfl,(g.trans (But.of (g3.trans s4))).trans b5,k5,by rw[ν,hvl];rfl,?_,hnew.app (fun b hb=>?_),fun z=>(je.mp z).elim nDg nD4⟩
   ·rw[jq,hd,ρ,←e5];exact(Trs.snocF h4 (htr.same (g3.trans s4))).put (fun z=>(je.mp z).elim nDg nD4) (.inr ⟨_,kD4⟩)
   ·have q1:H2 b=none:=g.none kD (g3.free (hn4 b hb));exact g1.free (b2.none k2 q1)
  ·obtain⟨o2,o3,vs,gs,rfl,g,kD,hvl,htr,hnew,nDg⟩:=z;rw[kl,kM]at kD;rw[kl,show ks.length=ds.length from l.trans lx,kM]at htr;refine⟨_,rfl,.inr ⟨a,o,_,g _ _ (lm nDa) k2,(fun o' u' z=>by have z':H a=some (.frz o' u'):=z;rw[h]at z';cases z'),?_⟩⟩;have nag:a∉gs:=fun z=>by have:=hnew a z;rw[h]at this;cases this
   generalize e5:upd H' a _=H5;obtain⟨b5,k5⟩:=xS e5;have hH:jJ H H5:=fun b u e=>by
    by_cases z:b=a
    ·subst z;rw[h]at e;cases e;exact k5
    ·exact b5 _ _ z (g _ _ (fun z=>by rw[z,hD]at e;cases e) (b2 _ _ z (g1 _ _ e)))
   have htr5:Trs false K H5 vs (ds.map (twn r)) gs:=htr.frN (H:=H') (H':=H5) (ms:=[a]) (fun b u nb e=>b5 _ _ (fun z=>nb (by rw[z];exact ο.mpr rfl)) e) (fun b hb=>by rw[ο.mp hb];have:=g _ _ (lm nDa) k2;exact⟨(fun _ z=>by rw[this]at z;cases z),(fun _ _ z=>by rw[this]at z;cases z)⟩) fun b hb z=>nag (by rw[←ο.mp z];exact hb);refine q (.ref D) (D::gs) H5 hH (New.cons hD hnew) ?_;have et:twn (r+1) (.dict (kvD ks ds))=.dict (kvD ks (ds.map (twn r))):=congrArg se (lR _ _ _);rw[et];exact .dct (b5 _ _ nDa kD) (by rw[hvl];exact kl.symm) htr5 nDg
theorem aDp(F:Fun K "is_count" "is_count" gL f fd)(cg:j4 "is_whole" aIe):j1 ["thing"] aJh:=by
 w_cond aAo;obtain⟨j,rfl,q⟩:=h;refine⟨_,(jC (jI (vY (jF cg hr (jA (pv 0) jB)) (xP (vC aAs (pv 0) jD (vX _)))))),?_⟩;exact⟨_,rfl,_,rfl,_,rfl,vZ rfl ⟨_,rfl,_,_,rfl,rfl,by simpa using q⟩⟩
theorem aEs{k r:Nat}(F:Fun K "led" "Num.led" lF f fd):j1 ["self","step"] (bL (j8 0) K Kd.isNum):=by
 w_cond aEw;obtain⟨a,st,kd,q0,sa,S,rfl,hF,hs,hf,ho,hw,hW,q⟩:=h;refine⟨_,(jC (jI vA)),?_⟩;cases hs <;> cases hF
theorem aCf{r:Nat}(F:Fun K "led" "Many.led" fH f fd)(fw:j4 "is_count" aJh):j1 ["self","step"] (bL (j8 0) K Kd.isMany):=by
 w_cond aCm;obtain⟨a,st,kd,q0,sa,S,rfl,hF,hs,hf,ho,hw,hW,q⟩:=h;refine⟨_,(jC (jI (oE (kR (jF fw hr (jA (pv 1) jB))) (kP (pv 0) rfl) vA))),?_⟩;cases hs with
 | @row c j q1 hj =>
  cases ho with
  | @many _ dx b _ _ h1 h2 =>
   exact⟨_,rfl,j,rfl,_,rfl,vZ rfl ⟨_,rfl,a,Vc,_,_,_,rfl,h1,Uc.cl,Uc.nd,rfl,q b H (jJ.refl _) h2⟩⟩
 |_=>cases hF
theorem sB{k r:Nat}(F:Fun K "led" "Nested.led" bT f fd):j1 ["self","step"] (bL (j8 0) K Kd.isNest):=by
 w_cond aK;obtain⟨a,st,kd,q0,sa,S,rfl,hF,hs,hf,ho,hw,hW,q⟩:=h;refine⟨_,(jE (qZ iy rfl (xQ (kP (kP (pv 0) rfl) rfl)) (xL rfl (kH (kN 2 aK.nd) (kH (kN 3 aK.nd) qQ))) (jC (jV (jP kS (pv 2) (pv 1)) (jC (jI (pv 3))) jL))) (jC (jI vA))),?_⟩;cases hs with
 | @fld i j0 wd _ hp =>
  cases id ho with
  | @nest _ dx s _ e h1 =>
  obtain⟨sh,hS,dx2,t,ps,k1,k2,k3⟩:=hw.at e;have hpn:=vG hS;rw[hpn]at hp;have hnd:=hW.fnd _ (ι hS);have hj0:=(ε.mp hp).1;refine⟨_,rfl,a,Vb,_,_,_,rfl,h1,Ub.cl,Ub.nd,rfl,s,Ve,_,_,_,rfl,k1,Ue.cl,Ue.nd,rfl,t,rfl,⟨_,k2⟩,eK (xs:=ps.map V.ref) (fun j σ H'=>H'=H/\(∃o2 o3,σ = [some (.ref a),some (.str wd),o2,o3])/\j<=j0) ⟨rfl,⟨_,_,rfl⟩,ij _⟩ (fun j σ H' _ z=>?_) (fun j x σ H' hx z=>?_) (fun σ H' z=>?_)⟩
  ·obtain⟨e',_⟩:=z;rw[e'];exact k2
  ·obtain⟨e',⟨o2,o3,rfl⟩,hle⟩:=z;subst e';obtain⟨p,hp2,rfl⟩:=qF hx;obtain⟨nm,kd,kk,hfs,kt,hko⟩:=k3.get hp2;refine⟨p,_,rfl,kt,rfl,_,_,rfl,_,_,rfl,rfl,_,rfl,_,rfl,rfl,_,rfl,xG (fun c=>?_) (fun c=>?_)⟩
   ·have ew:nm=wd:=by simpa using c
    subst ew;have ej:j=j0:=(tu (by rw[δ];exact(ε.mp hfs).1) hnd).mp (by rw[υ,hfs,υ,hp];rfl);subst ej;rw[hfs]at hp;cases hp;exact⟨_,rfl,q kk H' (jJ.refl _) (by have:=hko.more (sa.drop i);rwa [ky]at this)⟩
   ·have ew:¬ nm=wd:=by simpa using c
    have nj:j≠j0:=fun z=>by subst z;rw[hfs]at hp;cases hp;exact ew rfl
    exact⟨rfl,⟨_,_,rfl⟩,by omega⟩
  ·obtain⟨e',⟨o2,o3,rfl⟩,hle⟩:=z;rw[δ,k3.len]at hle;omega
 |_=>cases hF
theorem aCo{r:Nat}(F:Fun K "led" "Pick.led" fR f fd)(ac:j5 cIv (tP Vb "shape")):j1 ["self","step"] (bL (j8 0) K Kd.isPick):=by
 w_cond mT;obtain⟨a,st,kd,q0,sa,S,rfl,hF,hs,hf,ho,hw,hW,q⟩:=h;refine⟨_,(jE (qZ iy rfl (xQ (kP (pv 0) rfl)) (kN 2 mT.nd) (jC (jV (jP kS (kP (pv 2) rfl) (pv 1)) (jC (jI (yW Ub ac hr0 rfl qR (jA (pv 2) jB)))) jL))) (jC (jI vA))),?_⟩;cases hs with
 | @pick is m0 i0 s0 hi0 hs0 =>
  cases id ho with
  | @pick _ dx t _ ss h1 k2 hl hall =>
  have hm0:=(ε.mp hi0).1;refine⟨_,rfl,a,Vd,_,_,_,rfl,h1,Ud.cl,Ud.nd,rfl,t,rfl,⟨_,k2⟩,eK (xs:=ss.map V.ref) (fun j σ H'=>H'=H/\(∃o2,σ = [some (.ref a),some (.str s0.1),o2])/\j<=m0) ⟨rfl,⟨_,rfl⟩,ij _⟩ (fun j σ H' _ z=>?_) (fun j x σ H' hx z=>?_) (fun σ H' z=>?_)⟩
  ·obtain⟨e',_⟩:=z;rw[e'];exact k2
  ·obtain⟨e',⟨o2,rfl⟩,hle⟩:=z;subst e';obtain⟨s,hs,rfl⟩:=qF hx;have hj:j<is.length:=by rw[←hl];exact(ε.mp hs).1
   have hi:is[j]?=some is[j]:=ζ hj;have hsa:=hall j _ s hi hs;obtain⟨sh,hS,dx2,t2,ps,k1,_⟩:=hw.at hsa;refine⟨_,rfl,s,Ve,_,_,_,rfl,k1,Ue.cl,Ue.nd,rfl,_,rfl,rfl,_,rfl,xG (fun c=>?_) (fun c=>?_)⟩
   ·have ew:sh.1=s0.1:=by simpa using c
    have ei:is[j]=i0:=(tu (by rw[δ];exact(ε.mp hS).1) hW.nd).mp (by rw[υ,hS,υ,hs0];exact congrArg some ew);exact⟨_,rfl,fun x dx hx hdx _=>⟨x,dx,.ref s,H',rfl,jT,cN hx hdx,hx,fun H1 g1 k1=>⟨rfl,q x H1 g1 (by rw[←ei];exact .nest hsa k1)⟩⟩⟩
   ·have ew:¬ sh.1=s0.1:=by simpa using c
    have nj:j≠m0:=fun z=>by
     subst z;rw[hi]at hi0;cases hi0;rw[hS]at hs0;cases hs0;exact ew rfl
    exact⟨rfl,⟨_,rfl⟩,by omega⟩
  ·obtain⟨e',⟨o2,rfl⟩,hle⟩:=z;rw[δ,hl]at hle;omega
 |_=>cases hF
theorem aCa{k r:Nat}(F:Fun K "word" "Num.word" fW f fd):j1 ["self"] (dL (j8 0) K Kd.isNum):=by
 w_cond aCi;obtain⟨a,kd,sa,rfl,hF,ho,q⟩:=h;refine⟨_,(jC (jI jO)),?_⟩;cases kd with
 |num _=>exact q
 |_=>cases hF
theorem aAq{k r:Nat}(F:Fun K "text" "Num.text" fO f fd):j1 ["self"] (lI (j8 0) K Kd.isNum):=by
 w_cond aCc;obtain⟨a,kd,sa,S,rfl,hF,hf,ho,hw,hg,q⟩:=h;refine⟨_,(jC (jI (aGh (aJu (aFu (kP (pv 0) rfl) aMo))))),?_⟩;cases id ho with
 | @num a dx n h1 =>
  have hn:n<=9:=by have:=hf.2;omega
  obtain⟨_,d2,_,_⟩:=dig hn;have q':=q H (jJ.refl _);have e0:Str.empty++η "num " = η "num ":=cE _;refine⟨by rw[e0,il];decide,_,rfl,a,Va,_,_,_,rfl,h1,Ua.cl,Ua.nd,rfl,η (toString (n:Int)),(by show(if ((n:Int)).natAbs<2 ^ 100 then some (η (toString (n:Int))) else none)=_;rw[if_pos (by rw[Int.natAbs_natCast];exact kn hn (by decide))]),by rw[d2,il];decide,by rw[e0,kj,d2,il];decide,by rw[e0,kj,d2,il];decide,?_⟩;rw[e0];exact q'
 |_=>cases hF
theorem pB{k r:Nat}(F:Fun K "word" "Nested.word" aU f fd):j1 ["self"] (dL (j8 0) K Kd.isNest):=by
 w_cond rA;obtain⟨a,kd,sa,rfl,hF,ho,q⟩:=h;refine⟨_,(jC (jI jO)),?_⟩;cases kd with
 |nest _=>exact q
 |_=>cases hF
theorem oH{k r:Nat}(F:Fun K "text" "Nested.text" aH f fd):j1 ["self"] (lI (j8 0) K Kd.isNest):=by
 w_cond pM;obtain⟨a,kd,sa,S,rfl,hF,hf,ho,hw,hg,q⟩:=h;refine⟨_,(jC (jI (kP (kP (pv 0) rfl) rfl))),?_⟩;cases id ho with
 | @nest a dx s i e h1 =>
  obtain⟨sh,hS,dx2,t,ps,k1,k2,k3⟩:=hw.at e;have q':=q H (jJ.refl _);have e1:(V.str (jo spS ((Kd.nest i).words (kK S))))=V.str sh.1:=by
   show V.str (kK S i)=_;rw[vJ hS]
  rw[e1]at q';exact⟨_,rfl,a,Vb,_,_,_,rfl,h1,Ub.cl,Ub.nd,rfl,s,Ve,_,_,_,rfl,k1,Ue.cl,Ue.nd,rfl,q'⟩
 |_=>cases hF
theorem tU{k r:Nat}(F:Fun K "word" "Pick.word" dB f fd):j1 ["self"] (dL (j8 0) K Kd.isPick):=by
 w_cond wY;obtain⟨a,kd,sa,rfl,hF,ho,q⟩:=h;refine⟨_,(jC (jI jO)),?_⟩;cases kd with
 |pick _=>exact q
 |_=>cases hF
theorem uG{k r:Nat}(F:Fun K "text" "Pick.text" dO f fd):j1 ["self"] (lI (j8 0) K Kd.isPick):=by
 w_cond wS;obtain⟨a,kd,sa,S,rfl,hF,hf,ho,hw,hg,q⟩:=h;refine⟨_,(jC (jI (aC oo sy tf iF jO (jA (jW bX (qT (jA jO jB)) (kU ["shape"] [] [] rfl (xQ (kP (pv 0) rfl)) rfl trivial trivial (fun _ _ _ _=>(qD rfl)) (fun _ _ _ _=>kT) (fun _ _ _ _=>(iI (K:=K) rfl (pv 0) rfl)))) jB)))),?_⟩;obtain⟨w6,w5⟩:=aW hg.2 hf;cases id ho with
 | @pick a dx t is ss h1 k2 hl hall =>
  have hs4:=hf.2.1;have zl:(ss.map V.ref).length=is.length:=by rw[δ,hl]
  refine⟨rfl,lP,fun l1 hl1=>?_⟩;clear 1 l1 H1 g1 k1 hl1;refine⟨_,rfl,a,Vd,_,_,_,rfl,g1 _ _ h1,Ud.cl,Ud.nd,rfl,t,rfl,⟨_,g1.tp k2⟩,gZ (xs:=ss.map V.ref) (fun j ys H'=>H'=H1/\ys=((is.take j).map (kK S)).map V.str) ⟨rfl,rfl⟩ (fun j ys H' _ z=>⟨by rw[z.1];exact g1.tp k2,by rw[z.2,δ,δ,ib];exact jy _ _⟩) (kL (by omega)) (fun j x ys H' hx z=>?_) (fun ys H' z p hp=>?_)⟩
  ·obtain⟨e',rfl⟩:=z;subst e';obtain⟨s,hs,rfl⟩:=qF hx;have hj:j<is.length:=by rw[←hl];exact(ε.mp hs).1
   have hi:is[j]?=some is[j]:=ζ hj;generalize is[j]=i at hi;obtain⟨sh,hS,dx2,t2,ps,m1,_⟩:=hw.at (hall j i s hi hs);refine⟨_,rfl,s,Ve,_,_,_,rfl,g1 _ _ m1,Ue.cl,Ue.nd,rfl,⟨rfl,?_⟩,_,rfl⟩;rw[qV hi,ρ,vJ hS];rfl
  ·obtain⟨e',rfl⟩:=z;subst e';rw[zl,rn];generalize e2:upd H' p _=H2;obtain⟨g2,k2'⟩:=kY e2 hp;refine⟨l1,p,_,_,rfl,rfl,g2 _ _ k1,k2',(by rw[il,δ,δ];simp;omega),fun l3 hl3=>?_⟩;clear 1 l3 H3 g3 k3 hl3;refine⟨_,l3,η "pick" :: is.map (kK S),rfl,rfl,SqL.of k3,?_,q H3 ((g1.trans g2).trans g3)⟩;have hsum:((η "pick" :: is.map (kK S)).map (·.length)).sum<=(η "pick" :: is.map (kK S)).length*6:=gK w6;have hl5:(η "pick" :: is.map (kK S)).length<=5:=w5;have h1l:(η " ").length=1:=rfl;rw[h1l];omega
 |_=>cases hF
theorem nJ{k r:Nat}(F:Fun K "need_element" "need_element" zQ f fd)(KS:KdS K (j8 0)):j1 ["kind","step"] (aJj (j8 0) K):=by
 w_cond nH;obtain⟨a,st,kd,q0,sa,S,rfl,hs,ho,q⟩:=h;refine⟨_,(jC (jV (PW.pt (zJ (kR (jN (dM (K:=K) rfl) rfl M.isinstance ip (jA (pv 0) (jA (vD (v:=.ref Vc) rfl Uc.m rfl) jB)))) (yJ (jP aAs (pv 1) (kP (pv 0) rfl))))) (jC qY) jL)),?_⟩;cases hs with
 | @row c j _ hj =>
  cases id ho with
  | @many _ dx b _ _ h1 h2 =>
  exact⟨_,rfl,.ref a,Vc,_,_,rfl,KS.ty ho,KS.kit _ (.many 0 (.num 0)),_,rfl,vZ rfl ⟨_,rfl,_,rfl,a,Vc,_,_,_,rfl,h1,Uc.cl,Uc.nd,rfl,_,_,rfl,rfl,_,rfl,qO (by simp;omega) q⟩⟩
 |fld _=>exact⟨_,rfl,.ref a,Vc,_,_,rfl,KS.ty ho,KS.kit _ (.many 0 (.num 0)),_,rfl,qO π (eW q)⟩
 |pick _ _=>exact⟨_,rfl,.ref a,Vc,_,_,rfl,KS.ty ho,KS.kit _ (.many 0 (.num 0)),_,rfl,qO π (eW q)⟩
theorem pU{k r:Nat}(F:Fun K "need_chosen" "need_chosen" aE f fd):j1 ["pick","number","step"] (aMq (j8 0) K):=by
 w_cond pJ;obtain⟨a,is,m,i,s,sa,S,rfl,ho,hi,hs,hw,q⟩:=h;refine⟨_,(jC (jV (jP yB (kP (jG jQ (kP (pv 0) rfl) (pv 1)) rfl) (pv 2)) (jC qY) jL)),?_⟩;cases id ho with
 | @pick _ dx t _ ss h1 k2 hl hall =>
  have hm:=(ε.mp hi).1;have hsm:ss[m]?=some ss[m]:=ζ (by omega);have hsa:=hall m _ _ hi hsm;obtain⟨sh,hS,dx2,t2,ps,k1,_⟩:=hw.at hsa;rw[hs]at hS;cases hS;exact⟨_,rfl,a,Vd,_,_,_,rfl,h1,Ud.cl,Ud.nd,rfl,_,rfl,t,_,_,_,rfl,rfl,k2,xM hsm,ss[m],Ve,_,_,_,rfl,k1,Ue.cl,Ue.nd,rfl,_,rfl,rfl,_,rfl,qO (by simp) q⟩
theorem aFr{r:Nat}(F:Fun K "stepped" "stepped" lX f fd)(KS:KdS K (j8 0))(dj:j4 "need_chosen" (aMq (j8 0) K))(cz:j4 "need_element" (aJj (j8 0) K)):j1 ["kind","value","step"] (aJq (j8 0) K):=by
 w_cond gN;obtain⟨a,y,v,st,kd,q0,sa,S,rfl,hs,hc,ho,hw,q⟩:=h;refine⟨_,(jE (jV (kR (jN (dM (K:=K) rfl) rfl M.isinstance ip (jA (pv 0) (jA (vD (v:=.ref Vd) rfl Ud.m rfl) jB)))) (jE (eI (pv 1) (xL rfl (kH (kN 3 gN.nd) (kH (kN 4 gN.nd) qQ)))) (jE (vM (jF dj hr (jA (pv 0) (jA (pv 3) (jA (pv 2) jB))))) (jC (jI (pv 4))))) jL) (jE (vM (jF cz hr (jA (pv 0) (jA (pv 2) jB)))) (jC (jI (aFt (jG jX (pv 1) (pv 2)) (yL hr.units1 (pv 1) (pv 2) (fun _ _=>rfl))))))),?_⟩;cases hc with
 | @row c j _ y xs _ hx hv hj =>
  exact⟨_,rfl,.ref a,Vd,_,_,rfl,KS.ty ho,KS.kit _ (.pick []),_,rfl,qO π ⟨_,rfl,_,rfl,a,_,_,_,sa,S,rfl,hs,ho,_,rfl,_,rfl,.inl ⟨_,_,_,_,rfl,rfl,hx,vT hv,q⟩⟩⟩
 | @fld i j m _ y ks xs w _ hp hx hl hn hk hv =>
  refine⟨_,rfl,.ref a,Vd,_,_,rfl,KS.ty ho,KS.kit _ (.pick []),_,rfl,qO π ⟨_,rfl,_,rfl,a,_,_,_,sa,S,rfl,hs,ho,_,rfl,_,rfl,.inr ⟨_,v,rfl,?_,q⟩⟩⟩;have:=zD.k (k:=.inr w) hx
  rwa [mJ hn hl hk hv]at this
 | @pick is m i s y _ hx hi hS =>
  exact⟨_,rfl,.ref a,Vd,_,_,rfl,KS.ty ho,KS.kit _ (.pick []),_,rfl,vZ rfl ⟨_,rfl,y,_,rfl,hx,rfl,_,_,rfl,_,_,rfl,rfl,_,rfl,_,rfl,_,rfl,a,is,m,i,s,sa,S,rfl,ho,hi,hS,hw,_,rfl,q⟩⟩
theorem aEv(F:Fun K "kind_at" "kind_at" lC f fd)(ac:j5 cIv (tP Vb "shape"))(dv:∀C sp,T4 (j8 0) (bL (j8 0) K) C sp->xE P w K mg base CX0 k "led" C sp):j1 ["shape","steps"] (tS (j8 0) K):=by
 w_cond cB;obtain⟨s,t,i,k',ws,sa,S,rfl,e0,ht,hp,hw,hW,q⟩:=h;refine⟨_,(jE (jV (vL (kR (jN kW rfl M.isinstance ip (jA (pv 1) (jA (qM (v:=.ty "tuple") rfl M.tuple qy rfl) jB))))) (jC qY) jL) (jE (jR 2 cB.nd (yW Ub ac hr0 rfl qR (jA (pv 0) jB))) (jE (qZ iy rfl (xQ (pv 1)) (kN 3 cB.nd) (jE (jR 2 cB.nd (iM (pv 2) dv hr qR (jA (pv 3) jB))) (jC (jV (jP aFf (pv 2) vA) (jC qY) jL)))) (jC (jI (pv 2)))))),?_⟩;have hil:i<S.length:=by rw[←hw.1];exact(ε.mp e0).1
 refine⟨_,rfl,.ref t,_,"tuple",rfl,by decide,.inl (.inr ⟨rfl,_,ht⟩),_,rfl,qO π ⟨_,rfl,fun x dx hx hdx _=>⟨x,dx,.ref s,H,rfl,jT,cN hx hdx,hx,fun H1 g1 k1=>⟨rfl,_,rfl,t,rfl,⟨_,g1.tp ht⟩,eK (xs:=ws.map Stp.v) (fun j σ H'=>jJ H H'/\∃b o kd,σ = [some (.ref s),some (.ref t),some (.ref b),o]/\KO (j8 0) K H' sa b kd/\kd.Fit S.length/\KP S kd (ws.drop j) k') ⟨g1,_,_,_,rfl,.nest e0 k1,hil,hp⟩ (fun j σ H' _ z=>z.1.tp ht) (fun j x σ H' hx z=>?_) (fun σ H' z=>?_)⟩⟩⟩⟩
 ·obtain⟨g,b,o,kd,rfl,ho,hf,hp⟩:=z;rw[υ]at hx;obtain⟨st,hst,rfl⟩:=lr.mp hx;obtain⟨hj,e1⟩:=ε.mp hst;rw[jl hj,e1]at hp;obtain⟨q1,hs,hp⟩:=hp;obtain⟨C1,d1,f1,sp1,m1,l1,t1,F1,hF1,rfl⟩:=aPc (c:=(j8 0)) (sp4:=bL (j8 0) K) (m:="led") (fun _ _=>⟨rfl,rfl,rfl,rfl⟩) ho;refine⟨_,rfl,b,C1,d1,f1,_,rfl,m1,l1,t1,_,rfl,b,st,kd,q1,sa,S,rfl,hF1,hs,hf,ho,hw.same g,hW,fun b2 H2 g2 ho2=>⟨_,rfl,rfl,_,rfl,qO (fun z=>by cases of_decide_eq_true z) ⟨g.trans g2,_,_,q1,rfl,ho2,?_,hp⟩⟩⟩;exact cA hW.good hs hf
 ·obtain⟨g,b,o,kd,rfl,ho,hf,hp⟩:=z;rw[δ,uc]at hp;cases hp;exact⟨_,rfl,q b H' g ho⟩
theorem rZ(F:Fun K "asked_kind" "asked_kind" bO f fd)(bp:j4 "kind_at" (tS (j8 0) K))(dc:∀C sp,T3k (j8 0) (dL (j8 0) K) C sp->xE P w K mg base CX0 k "word" C sp):j1 ["shape","steps","word"] (aMz (j8 0) K):=by
 w_cond eY;obtain⟨s,t,i,k',ws,sa,S,rfl,hm,e0,ht,hp,hw,hW,q⟩:=h;refine⟨_,(jE (jR 3 eY.nd (jF bp hr (jA (pv 0) (jA (pv 1) jB)))) (jE (jV (jP yB (xB (pv 3) dc hr qR) (pv 2)) (jC qY) jL) (jC (jI (pv 3))))),?_⟩;refine⟨_,rfl,_,rfl,s,t,i,k',ws,sa,S,rfl,e0,ht,hp,hw,hW,fun b H1 g1 ho=>?_⟩;obtain⟨C1,d1,f1,sp1,m1,l1,t1,F1,hF1,rfl⟩:=aEf (c:=(j8 0)) (sp3:=dL (j8 0) K) (m:="word") (fun _ _=>⟨rfl,rfl,rfl,rfl⟩) ho hm;exact⟨_,rfl,b,C1,d1,f1,_,rfl,m1,l1,t1,b,k',sa,rfl,hF1,ho,_,rfl,rfl,_,rfl,qO (by simp) ⟨_,rfl,q b H1 g1 ho⟩⟩
theorem aEq(F:Fun K "reached" "reached" lK f fd)(ac:j5 cIv (tP Vb "shape"))(dv:∀C sp,T4 (j8 0) (bL (j8 0) K) C sp->xE P w K mg base CX0 k "led" C sp)(gq:j4 "stepped" (aJq (j8 0) K)):j1 ["shape","record","steps"] (aFg (j8 0) K):=by
 w_cond yG;obtain⟨s,t,x,i,k',e,e',ws,us,sa,S,I,rfl,e0,ht,hp,hw,hW,L,hI,q⟩:=h;refine⟨_,(jE (jR 3 yG.nd (yW Ub ac hr0 rfl qR (jA (pv 0) jB))) (jE (jR 4 yG.nd (pv 1)) (jE (qZ iy rfl (xQ (pv 2)) (kN 5 yG.nd) (jE (jR 4 yG.nd (jF gq hr (jA (pv 3) (jA (pv 4) (jA (pv 5) jB))))) (jC (jR 3 yG.nd (iM (pv 3) dv hr qR (jA (pv 5) jB)))))) (jC (jI (pv 4)))))),?_⟩;have hil:i<S.length:=by rw[←hw.1];exact(ε.mp e0).1
 refine⟨_,rfl,fun y dx hy hdx _=>⟨y,dx,.ref s,H,rfl,jT,cN hy hdx,hy,fun H1 g1 k1=>⟨rfl,_,rfl,_,rfl,t,rfl,⟨_,g1.tp ht⟩,eK (xs:=ws.map Stp.v) (fun j σ H'=>jJ H H'/\∃b v o kd e1,σ = [some (.ref s),some x,some (.ref t),some (.ref b),some v,o]/\KO (j8 0) K H' sa b kd/\kd.Fit S.length/\Pth S kd e1 (ws.drop j) k' e'/\I H' (us++ws.take j) v e1) ⟨g1,_,_,_,_,_,rfl,.nest e0 k1,hil,hp,by rw[List.take_zero,ly];exact L.same g1 hI⟩ (fun j σ H' _ z=>z.1.tp ht) (fun j x σ H' hx z=>?_) (fun σ H' z=>?_)⟩⟩⟩
 ·obtain⟨g,b,v,o,kd,e1,rfl,ho,hf,hp,hI⟩:=z;rw[υ]at hx;obtain⟨st,hst,rfl⟩:=lr.mp hx;obtain⟨hj,ej⟩:=ε.mp hst;rw[jl hj,ej]at hp;obtain⟨q1,v2,e2,hs,hc,hp,hI⟩:=L.go hp hI;obtain⟨C1,d1,f1,sp1,m1,l1,t1,F1,hF1,rfl⟩:=aPc (c:=(j8 0)) (sp4:=bL (j8 0) K) (m:="led") (fun _ _=>⟨rfl,rfl,rfl,rfl⟩) ho;refine⟨_,rfl,_,rfl,_,rfl,b,v,v2,st,kd,q1,sa,S,rfl,hs,hc,ho,hw.same g,_,rfl,b,C1,d1,f1,_,rfl,m1,l1,t1,_,rfl,b,st,kd,q1,sa,S,rfl,hF1,hs,hf,ho,hw.same g,hW,fun b2 H2 g2 ho2=>⟨g.trans g2,_,_,_,q1,e2,rfl,ho2,?_,hp,?_⟩⟩
  ·exact cA hW.good hs hf
  ·rw[jq,hst,←jr];exact L.same g2 hI
 ·obtain⟨g,b,v,o,kd,e1,rfl,ho,hf,hp,hI⟩:=z;rw[δ,uc]at hp;rw[δ,rn]at hI;cases hp;exact⟨_,rfl,q v H' g hI⟩
theorem aAk(F:Fun K "found_at" "found_at" fJ f fd)(ay:j4 "is_record" (tY (j8 0) K r))(dw:j4 "asked_kind" (aMz (j8 0) K))(ck:j4 "reached" (aFg (j8 0) K)):j1 ["shape","record","steps","word"] (wO (j8 0) K r):=by
 w_cond aDo;obtain⟨s,t,x,i,sa,S,d,e,ws,k',e',rfl,hm,A,q⟩:=h;refine⟨_,(jE (jV (vL (kR (jF ay hr (jA (pv 0) (jA (pv 1) jB))))) (jC qY) jL) (jC (jI (kQ (jA (jF dw hr (jA (pv 0) (jA (pv 2) (jA (pv 3) jB)))) (jA (jF ck hr (jA (pv 0) (jA (pv 1) (jA (pv 2) jB)))) jB)))))),?_⟩;refine⟨_,rfl,_,rfl,s,x,i,sa,S,d,e,rfl,A.sh,A.rk,A.w,A.W,A.dt,A.rc,fun H1 g1=>⟨_,rfl,qO (by simp) ⟨_,rfl,_,rfl,_,rfl,s,t,i,k',ws,sa,S,rfl,hm,A.sh,g1.tp A.st,A.p.kp,A.w.same g1,A.W,fun b H2 g2 ho=>⟨_,rfl,_,rfl,_,rfl,s,t,x,i,k',e,e',ws,[],sa,S,_,rfl,A.sh,g2.tp (g1.tp A.st),A.p,(A.w.same g1).same g2,A.W,aJw,(A.dt.same g1).same g2,fun y H3 g3 hy=>⟨xT,fun p hp=>?_⟩⟩⟩⟩⟩;clear 1 p H4 g4 k4 hp;exact q p b y H4 (g1.trans (g2.trans (g3.trans g4))) (SqT.of k4) (ho.same (g3.trans g4)) (hy.same g4)
theorem aEe(F:Fun K "look_at" "look_at" lQ f fd)(bf:j4 "found_at" (wO (j8 0) K r)):j1 ["shape","record","steps"] (aMp (j8 0) K r):=by
 w_cond fX;obtain⟨s,t,x,i,sa,S,d,e,ws,n,v,rfl,A,q⟩:=h;refine⟨_,(jE (eI (jF bf hr (jA (pv 0) (jA (pv 1) (jA (pv 2) (jA jO jB))))) (xL rfl (kH (kN 3 fX.nd) (kH (kN 4 fX.nd) qQ)))) (jC (jI (pv 4)))),?_⟩;refine⟨_,rfl,_,rfl,_,rfl,s,t,x,i,sa,S,d,e,ws,.num n,.int v,rfl,rfl,A,fun p b y H1 g1 hp ho hy=>?_⟩;obtain rfl:=hy.intI;exact⟨p,_,rfl,hp,rfl,_,_,rfl,_,_,rfl,rfl,_,rfl,q H1 g1⟩
theorem aDi(F:Fun K "which_at" "which_at" gO f fd)(bf:j4 "found_at" (wO (j8 0) K r)):j1 ["shape","record","steps"] (aMj (j8 0) K r):=by
 w_cond eA;obtain⟨s,t,x,i,sa,S,d,e,ws,is,v,e1,rfl,A,q⟩:=h;refine⟨_,(jE (eI (jF bf hr (jA (pv 0) (jA (pv 1) (jA (pv 2) (jA jO jB))))) (xL rfl (kH (kN 3 eA.nd) (kH (kN 4 eA.nd) qQ)))) (jC (jI (jG jQ (pv 4) jD)))),?_⟩;refine⟨_,rfl,_,rfl,_,rfl,s,t,x,i,sa,S,d,e,ws,.pick is,.tuple [.int v,e1],rfl,rfl,A,fun p b y H1 g1 hp ho hy=>?_⟩;obtain⟨a,x1,rfl,hx,_⟩:=hy.pickI;exact⟨p,_,rfl,hp,rfl,_,_,rfl,_,_,rfl,rfl,_,rfl,a,_,_,_,rfl,rfl,hx,rfl,q H1 g1⟩
theorem aCg{r:Nat}(F:Fun K "replaced" "replaced" fP f fd)(bw:j4 "copied" (aGm K (r+1)))(ck:j4 "reached" (aFg (j8 0) K)):j1 ["shape","record","steps","value"] (aJi (j8 0) K r):=by
 w_cond dU;obtain⟨s,t,x,i,sa,S,d,e,ws,n,v,u,rfl,A,q⟩:=h;refine⟨_,(jE (jR 4 dU.nd (jF bw hr (jA (pv 1) jB))) (jE (jR 5 dU.nd (jF ck hr (jA (pv 0) (jA (pv 4) (jA (qX wG (pv 2) vO (vN (eB zS jD))) jB))))) (jE (aQb (eI (pv 3) (wT (pv 5) (jG jQ (pv 2) (eB zS jD)) set_list)) (eN hr.units1 (pv 5) (jG jQ (pv 2) (eB zS jD)) (pv 3) rfl)) (jC (jI (pv 4)))))),?_⟩;obtain⟨us,st,k1,e1,rfl,hp1,hs1⟩:=aQq A.p (fun _ z=>by cases z);have hst:=A.st;rw[ρ]at hst;obtain⟨fs0,htr0⟩:=A.tr;refine⟨_,rfl,x,e,fs0,_,rfl,rfl,A.tre,htr0,fun z gs H1 g1 hn1 ht1=>?_⟩;refine⟨_,rfl,_,rfl,_,rfl,_,rfl,_,rfl,t,_,rfl,g1.tp hst,?_,fun t2 ht2=>?_⟩
 ·intro c;have:=c.2;have e9:HT.sIx (us.map Stp.v++[st].map Stp.v).length (us.map Stp.v++[st].map Stp.v).length (some (-1))=us.length:=by
   show(if (-1:Int)<0 then ((-1:Int)+((us.map Stp.v++[st].map Stp.v).length:Int)).toNat else min (-1:Int).toNat (us.map Stp.v++[st].map Stp.v).length)=_;rw[if_pos (by decide),ν,δ];show((-1:Int)+((us.length+1:Nat):Int)).toNat=_;omega
  rw[e9,ν,δ]at this;have:us.length=us.length+1:=this;omega
 clear 1 t2 H2 g2 k2 ht2;rw[show yN (us.map Stp.v++[st].map Stp.v) none (some (-1))=us.map Stp.v from aRs]at k2;refine⟨s,t2,z,i,k1,e,e1,us,[],sa,S,_,rfl,A.sh,SqT.of k2,hp1,(A.w.same g1).same g2,A.W,aRn,⟨gs,Hol.refl (ht1.same g2)⟩,fun y H3 g3 hy=>?_⟩;obtain⟨f1,hy⟩:=hy;rw[uq]at hy;have hst3:=g3.tp (g2.tp (g1.tp hst));have g03:=(g1.trans g2).trans g3;have fin:∀{a:Addr}{o:HO}{e3:θ},a∈gs->Put (.int u) e (us++[st]) e3->Tr true K (upd H3 a o) z e3 gs->Q z (upd H3 a o):=fun ha p t4=>q z _ gs _ (Fr.same g03 (Fr.upd ha) hn1) hn1 t4 p;have ix:atI (us.map Stp.v++[st].map Stp.v) (-1)=some st.v:=aMu _ _;cases hs1 with
 | @row c j q1 _ es e1 _ _ hj he hnl =>
  cases hnl;obtain⟨a,xs,rfl,ha,hl⟩:=hy.tr.lstX;obtain⟨e3,p3,t3⟩:=hy.setR (v:=u) ha he;have ja:a∈gs:=hy.sub a (by obtain⟨_,_,e8,_⟩:=hy.tr.rowI;rw[e8];exact Δ ..);exact .inl ⟨_,rfl,_,rfl,_,rfl,_,rfl,t,_,_,_,rfl,rfl,hst3,ix,a,xs,_,j,rfl,rfl,ha,aOj (by rw[hl];exact(ε.mp he).1),_,rfl,fin ja p3 t3⟩
 | @fld i2 j m q1 _ ks es w e1 _ _ hp hk he hn hl hnl =>
  cases hnl;obtain⟨a,rfl⟩:=hy.tr.dctX hl;obtain⟨xs,ha,l2,e3,p3,t3⟩:=hy.setF (v:=u) hl hn hk he;have ja:a∈gs:=hy.sub a (by obtain⟨_,_,e8,_⟩:=hy.tr.fldI hl;rw[e8];exact Δ ..);have hx:xs[m]?=some (xs[m]'(by rw[←l2];exact(ε.mp hk).1)):=ζ _;obtain⟨n',d',_,hf1,hr1,hrec⟩:=hp1.rec' A.W.good A.W.fnd (show i<S.length by rw[←A.w.1];exact(ε.mp A.sh).1) A.rk A.rc;have few:ks.length<=6:=by
   have hT:=aA A.W.good A.W.fnd hf1 hr1 hrec;cases n' with
   |zero=>exact hT.elim
   |succ n' =>
    obtain⟨ks2,ds2,ek,l3,_,few,_⟩:=hT;obtain⟨rfl,_⟩:=xW hl l3 ek;exact few
  refine .inr ⟨_,rfl,_,rfl,_,rfl,_,rfl,t,_,_,_,rfl,rfl,hst3,ix,a,_,rfl,.inl ⟨_,.inr w,ha,rfl,(by rw[yX l2,il];omega),rfl⟩,_,rfl,?_⟩;rw[show putK (ig (fun k v=>((.inr k:Key),v)) ks xs) (.inr w) (.int u)=_ from aHm hn l2 hk hx];exact fin ja p3 t3
 |pick _ _ hnl=>cases hnl
theorem aJa(F:Fun K "stored" "stored" oM f fd)(bf:j4 "found_at" (wO (j8 0) K r))(cf:j4 "bound_of" spBd)(fz:j4 "replaced" (aJi (j8 0) K r)):j1 ["shape","record","steps","word"] (aLt (j8 0) K r):=by
 w_cond lV;obtain⟨s,t,x,i,sa,S,d,e,ws,n,v,u,rfl,A,hn4,q⟩:=h;refine⟨_,(jE (eI (jF bf hr (jA (pv 0) (jA (pv 1) (jA (pv 2) (jA jO jB))))) (xL rfl (kH (kN 4 lV.nd) (kH (kN 5 lV.nd) qQ)))) (jC (jI (jF fz hr (jA (pv 0) (jA (pv 1) (jA (pv 2) (jA (jW xO (pv 3) (jF cf hr (jA (kP (pv 4) rfl) jB))) jB)))))))),?_⟩;refine⟨_,rfl,_,rfl,_,rfl,s,t,x,i,sa,S,d,e,ws,.num n,.int v,rfl,rfl,A,fun p b y H1 g1 hp ho hy=>?_⟩;cases ho with
 | @num a dx _ h1 =>
  have hz:(0:Int)<((256 ^ n:Nat):Int):=by have:=Nat.pow_pos (n:=n) (show 0<256 by decide);omega
  exact⟨p,_,rfl,hp,rfl,_,_,rfl,_,_,rfl,rfl,_,rfl,_,rfl,_,rfl,_,rfl,_,rfl,b,Va,_,_,_,rfl,h1,Ua.cl,Ua.nd,rfl,n,rfl,hn4,_,_,rfl,rfl,hz,s,t,x,i,sa,S,d,e,ws,n,v,_,rfl,A.same g1,fun z e2 gs H2 g2 hn ht hpu=>q z e2 gs H2 (g1.trans g2) (hn.back g1) ht hpu⟩
theorem uQ{k:Nat}(F:Fun K "_law_whole" "_law_whole" dX f fd):j1 ["_law_found"] aIe:=by
 w_cond wP;obtain⟨v,rfl,q⟩:=h;refine⟨_,(jC (jI (vY (jN kW rfl M.isinstance ip (jA (pv 0) (jA (qM (v:=.ty "int") rfl M.int boot_int rfl) jB))) (xP (aJl (jN kW rfl M.isinstance ip (jA (pv 0) (jA (qM (v:=.ty "bool") rfl M.bool boot_bool rfl) jB)))))))),?_⟩;exact⟨_,rfl,.int v,_,"int",rfl,by decide,.inl rfl,_,rfl,vZ rfl ⟨_,rfl,.int v,_,"int",rfl,by decide,.inl rfl,_,rfl,q⟩⟩
theorem sI(F:Fun K "_law_behind" "_law_behind" bM f fd)(bo:j4 "_law_whole" aIe):j1 ["_law_kind_here","_law_shapes_here","_law_step"] (pF K):=by
 w_cond yK;obtain⟨a,sl,st,kd,q0,S,ys,rfl,al,hs,hf,hlk',hlx',hW,q⟩:=h;refine⟨_,(jE (jV (PW.pt (zJ (jP kS (jG jQ (pv 0) jD) jO) (zJ (kR (jF bo hr (jA (pv 2) jB))) (yJ (jP aAs (pv 2) jD))))) (jC (jI (jG jQ (pv 0) jD))) jL) (jE (jV (jP kS (jG jQ (pv 0) jD) jO) (jC (qZ iy rfl (qK (jG jQ (pv 0) jD)) (kN 3 yK.nd) (jC (jV (jP kS (jG (uF K rfl) (jG jX (pv 1) (pv 3)) jD) (pv 2)) (jC (jI (kQ (jA jO (jA (pv 3) jB))))) jL)))) jL) (jE (jV (jP kS (jG jQ (pv 0) jD) jO) (jC (qZ iy rfl (qK (jG jQ (jG jX (pv 1) (jG jQ (pv 0) jD)) jD)) (xL rfl (kH (kN 4 yK.nd) (kH (kN 5 yK.nd) qQ))) (jC (jV (jP kS (pv 4) (pv 2)) (jC (jI (pv 5))) jL)))) jL) (jC (jI vA))))),?_⟩;have hlx:=hlx'.same jM;cases hs with
 | @row c j q1 hj =>
  cases hlk' with
  | @many _ b _ _ h1' h2 =>
  have h1:=jM.tp h1';exact⟨_,rfl,a,_,_,_,rfl,rfl,h1,rfl,rfl,_,rfl,kO ⟨_,rfl,_,rfl,_,rfl,vZ rfl ⟨_,rfl,_,_,rfl,rfl,_,rfl,vZ (by simp) ⟨_,rfl,a,_,_,_,rfl,rfl,h1,rfl,q b H (jJ.refl _) h2⟩⟩⟩⟩
 | @pick is m0 i0 s0 hi0 hs0 =>
  cases hlk' with
  | @pick _ l _ h1' h2' =>
  have h1:=jM.tp h1';have h2:=jM.seq h2';have hm0:=(ε.mp hi0).1;refine⟨_,rfl,a,_,_,_,rfl,rfl,h1,rfl,rfl,_,rfl,jU (eW ⟨_,rfl,a,_,_,_,rfl,rfl,h1,rfl,rfl,_,rfl,kO ⟨_,rfl,a,_,_,_,rfl,rfl,h1,rfl,l,rfl,⟨_,h2⟩,xI (xs:=is.map fun n:Nat=>V.int n) (fun j σ H'=>H'=H/\(∃o1 o2 o3,σ = [some (.ref a),some (.ref sl),some (.str s0.1),o1,o2,o3])/\j<=m0) ⟨rfl,⟨_,_,_,rfl⟩,ij _⟩ (fun j σ H' _ z=>?_) (fun j x σ H' hx z=>?_) (fun σ H' z=>?_)⟩⟩)⟩
  ·rw[z.1];exact h2
  ·obtain⟨e',⟨o1,o2,o3,rfl⟩,hle⟩:=z;subst e';obtain⟨i,hi,rfl⟩:=iN hx;have hil:i<S.length:=hf.2.2.2 i (ι hi);obtain⟨as,s,l2,ps,m1,m2,m3,m4,m5⟩:=hlx.at hil;have hS:S[i]?=some S[i]:=ζ hil;refine⟨_,rfl,_,rfl,sl,_,_,_,rfl,rfl,m1,xM m2,s,_,_,_,rfl,rfl,m3,rfl,_,rfl,rfl,_,rfl,xG (fun c=>?_) (fun c=>?_)⟩
   ·have ew:(S[i]).1=s0.1:=by simpa using c
    have ei:i=i0:=(tu (by rw[δ];exact hil) hW.nd).mp (by rw[υ,hS,υ,hs0];exact congrArg some ew);refine⟨_,rfl,xT,fun t ht=>?_⟩;have nq:=al.new ht;clear 1 t H3 g3 k3 ht;exact q t H3 g3 (by rw[←ei];exact .nest (SqT.of (qI nq k3)))
   ·have ew:¬ (S[i]).1=s0.1:=by simpa using c
    have nj:j≠m0:=fun z=>by
     subst z;rw[hi]at hi0;cases hi0;rw[hS]at hs0;cases hs0;exact ew rfl
    exact⟨rfl,⟨_,_,_,rfl⟩,by omega⟩
  ·obtain⟨_,_,hle⟩:=z;rw[δ]at hle;omega
 | @fld i j0 wd _ hp =>
  cases hlk' with
  | @nest _ _ h1' =>
  have h1:=jM.tp h1';have hil:i<S.length:=hf;obtain⟨as,s,l,ps,m1',m2,m3',m4',m5⟩:=hlx'.at hil;have m1:=jM.seq m1';have m3:=jM.tp m3';have m4:=jM.seq m4';have hS:S[i]?=some S[i]:=ζ hil;rw[vG hS]at hp;have hnd:=hW.fnd _ (ι hS);have hj0:=(ε.mp hp).1;refine⟨_,rfl,a,_,_,_,rfl,rfl,h1,rfl,rfl,_,rfl,jU (eW ⟨_,rfl,a,_,_,_,rfl,rfl,h1,rfl,rfl,_,rfl,jU ⟨_,rfl,a,_,_,_,rfl,rfl,h1,rfl,rfl,_,rfl,kO ⟨_,rfl,_,rfl,a,_,_,_,rfl,rfl,h1,rfl,sl,_,_,_,rfl,rfl,m1,xM m2,s,_,_,_,rfl,rfl,m3,rfl,l,rfl,⟨_,m4⟩,xI (xs:=ps.map V.ref) (fun j σ H'=>H'=H/\(∃o1 o2 o3,σ = [some (.ref a),some (.ref sl),some (.str wd),o1,o2,o3])/\j<=j0) ⟨rfl,⟨_,_,_,rfl⟩,ij _⟩ (fun j σ H' _ z=>?_) (fun j x σ H' hx z=>?_) (fun σ H' z=>?_)⟩⟩⟩)⟩
  ·rw[z.1];exact m4
  ·obtain⟨e',⟨o1,o2,o3,rfl⟩,hle⟩:=z;subst e';obtain⟨p,hp2,rfl⟩:=qF hx;obtain⟨nm,kd,kk,hfs,kt',hko⟩:=m5.get hp2;have kt:=jM.tp kt';refine⟨p,_,rfl,kt,rfl,_,_,rfl,_,_,rfl,rfl,_,rfl,_,rfl,rfl,_,rfl,xG (fun c=>?_) (fun c=>?_)⟩
   ·have ew:nm=wd:=by simpa using c
    subst ew;have ej:j=j0:=(tu (by rw[δ];exact(ε.mp hfs).1) hnd).mp (by rw[υ,hfs,υ,hp];rfl);subst ej;rw[hfs]at hp;cases hp;exact⟨_,rfl,q kk H' (jJ.refl _) hko⟩
   ·have ew:¬ nm=wd:=by simpa using c
    have nj:j≠j0:=fun z=>by subst z;rw[hfs]at hp;cases hp;exact ew rfl
    exact⟨rfl,⟨_,_,_,rfl⟩,by omega⟩
  ·obtain⟨_,_,hle⟩:=z;rw[δ,m5.len]at hle;omega
theorem aEb(F:Fun K "_law_led" "_law_led" iY f fd)(af:j4 "_law_behind" (pF K)):j1 ["_law_kind_here","_law_shapes_here","_law_steps_here"] (aLa K):=by
 w_cond fY;obtain⟨a,sl,t,ws,kd,q0,S,ys,rfl,al,ht,hp,hf,hlk,hlx,hW,q⟩:=h;refine⟨_,(jE (jV (vL (kR (jN kW rfl M.isinstance ip (jA (pv 2) (jA (qM (v:=.ty "tuple") rfl M.tuple qy rfl) jB))))) (jC (jI vA)) jL) (jE (qZ iy rfl (xQ (pv 2)) (kN 3 fY.nd) (jC (jV (jP nW (pv 0) vA) (jC (jR 0 fY.nd (jF af hr (jA (pv 0) (jA (pv 1) (jA (pv 3) jB)))))) jL))) (jC (jI (pv 0))))),?_⟩;refine⟨_,rfl,.ref t,_,"tuple",rfl,by decide,.inl (.inr ⟨rfl,_,ht⟩),_,rfl,qO π ⟨_,rfl,t,rfl,⟨_,ht⟩,eK (xs:=ws.map Stp.v) (fun j σ H'=>jJ H H'/\∃b o kd,σ = [some (.ref b),some (.ref sl),some (.ref t),o]/\LK K (offs ys H') b kd/\kd.Fit S.length/\KP S kd (ws.drop j) q0) ⟨jJ.refl _,_,_,_,rfl,hlk,hf,hp⟩ (fun j σ H' _ z=>z.1.tp ht) (fun j x σ H' hx z=>?_) (fun σ H' z=>?_)⟩⟩
 ·obtain⟨g,b,o,kd,rfl,ho,hf,hp⟩:=z;rw[υ]at hx;obtain⟨st,hst,rfl⟩:=lr.mp hx;obtain⟨hj,e1⟩:=ε.mp hst;rw[jl hj,e1]at hp;obtain⟨q1,hs,hp⟩:=hp;refine⟨_,rfl,rfl,_,rfl,vZ (by simp) ⟨_,rfl,_,rfl,_,rfl,b,sl,st,kd,q1,S,ys,rfl,al.same g,hs,hf,ho,hlx.same (jZ g),hW,fun b2 H2 g2 ho2=>⟨g.trans g2,b2,_,q1,rfl,ho2,cA hW.good hs hf,hp⟩⟩⟩
 ·obtain⟨g,b,o,kd,rfl,ho,hf,hp⟩:=z;rw[δ,uc]at hp;cases hp;exact⟨_,rfl,q b H' g ho⟩
theorem aAv(F:Fun K "_law_walk" "_law_walk" fZ f fd)(af:j4 "_law_behind" (pF K)):j1 ["_law_kind_here","_law_shapes_here","_law_value_here","_law_steps_here"] (aMe K):=by
 w_cond yO;obtain⟨a,sl,t,x,ws,kd,q0,e,e',S,rfl,ht,hp,hf,hlk,hlx,hW,hd,q⟩:=h;refine⟨_,(jE (qZ iy rfl (xQ (pv 3)) (kN 4 yO.nd) (jE (jV (PW.pt (zJ (jP kS (jG jQ (pv 0) jD) jO) (yJ (jP aAs (pv 4) (jG jQ (pv 0) jD))))) (jC (jI (kQ (jA jO (jA (pv 4) jB))))) jL) (jE (jV (PW.pt (zJ (jP kS (jG jQ (pv 0) jD) jO) (yJ (jP yB (jG jQ (jG jX (pv 1) (jG jX (jG jQ (pv 0) jD) (jG jQ (pv 2) jD))) jD) (pv 4))))) (jC (jI (kQ (jA jO (jA (pv 4) jB))))) jL) (jE (jV (jP kS (jG jQ (pv 0) jD) jO) (jC (jR 2 yO.nd (jG jQ (pv 2) jD))) (jC (jR 2 yO.nd (aFt (jG jX (pv 2) (pv 4)) (yL hr.units1 (pv 2) (pv 4) (fun _ _=>rfl)))))) (jC (jR 0 yO.nd (jF af hr (jA (pv 0) (jA (pv 1) (jA (pv 4) jB)))))))))) (jC (jI (kQ (jA jO (jA (pv 2) jB)))))),?_⟩;refine⟨_,rfl,t,rfl,⟨_,ht⟩,eK (xs:=ws.map Stp.v) (fun j σ H'=>jJ H H'/\∃b v o kd e1,σ = [some (.ref b),some (.ref sl),some v,some (.ref t),o]/\LK K H' b kd/\kd.Fit S.length/\Pth S kd e1 (ws.drop j) q0 e'/\Dt false K H' v e1) ⟨jJ.refl _,_,_,_,_,_,rfl,hlk,hf,hp,hd⟩ (fun j σ H' _ z=>z.1.tp ht) (fun j x σ H' hx z=>?_) (fun σ H' z=>?_)⟩
 ·obtain⟨g,b,v,o,kd,e1,rfl,ho,hf,hp,hd⟩:=z;rw[υ]at hx;obtain⟨st,hst,rfl⟩:=lr.mp hx;obtain⟨hj,ej⟩:=ε.mp hst;rw[jl hj,ej]at hp;obtain⟨q1,v2,e2,hs,hc,hp9,hI⟩:=aJw.go (us:=[]) hp hd;clear hx hp hst ej;have fit:=cA hW.good hs hf;cases hc with
  | @row c m _ y xs _ hx9 hv hm =>
   cases id ho with
   | @many _ b2 _ _ h1 h2 =>
   exact⟨_,rfl,b,_,_,_,rfl,rfl,h1,rfl,rfl,_,rfl,kO ⟨_,rfl,_,rfl,b,_,_,_,rfl,rfl,h1,rfl,_,_,rfl,rfl,_,rfl,qO (by simp;omega) ⟨_,rfl,b,_,_,_,rfl,rfl,h1,rfl,rfl,_,rfl,jU (eW ⟨_,rfl,b,_,_,_,rfl,rfl,h1,rfl,rfl,_,rfl,jU ⟨_,rfl,_,rfl,.inl ⟨_,_,_,_,rfl,rfl,hx9,vT hv,_,rfl,_,rfl,_,rfl,b,sl,.ix m,_,q1,S,[],rfl,fQ,hs,hf,by rw[qH];exact ho,by rw[qH];exact hlx.same g,hW,fun b3 H2 g2 ho2'=>⟨g.trans g2,b3,v2,_,q1,e2,rfl,(by rw[qH]at ho2';exact ho2'),fit,hp9,hI.same g2⟩⟩⟩⟩)⟩⟩⟩
  | @fld i j2 m _ y ks xs w _ hpp hx9 hl hn hk hv =>
   cases id ho with
   | @nest _ _ h1 =>
   have dg:=zD.k (k:=.inr w) hx9;rw[mJ hn hl hk hv]at dg;exact⟨_,rfl,b,_,_,_,rfl,rfl,h1,rfl,rfl,_,rfl,jU (eW ⟨_,rfl,b,_,_,_,rfl,rfl,h1,rfl,rfl,_,rfl,jU (eW ⟨_,rfl,b,_,_,_,rfl,rfl,h1,rfl,rfl,_,rfl,jU ⟨_,rfl,_,rfl,.inr ⟨_,v2,rfl,dg,_,rfl,_,rfl,_,rfl,b,sl,.nm w,_,q1,S,[],rfl,fQ,hs,hf,by rw[qH];exact ho,by rw[qH];exact hlx.same g,hW,fun b3 H2 g2 ho2'=>⟨g.trans g2,b3,v2,_,q1,e2,rfl,(by rw[qH]at ho2';exact ho2'),fit,hp9,hI.same g2⟩⟩⟩⟩)⟩)⟩
  | @pick is m i s y _ hx9 hi hS =>
   cases id ho with
   | @pick _ l _ h1 h2 =>
   have hil:=(ε.mp hS).1;obtain⟨as,s2,l2,ps,m1,m2,m3,m4,m5⟩:=(hlx.same g).at hil;have es:S[i]=s:=(ε.mp hS).2;rw[es]at m3;refine⟨_,rfl,b,_,_,_,rfl,rfl,h1,rfl,rfl,_,rfl,jU (eW ⟨_,rfl,b,_,_,_,rfl,rfl,h1,rfl,rfl,_,rfl,kO ⟨_,rfl,_,rfl,b,_,_,_,rfl,rfl,h1,rfl,_,rfl,y,_,_,_,rfl,rfl,hx9,rfl,l,_,_,_,rfl,rfl,h2,tO hi,sl,_,_,_,rfl,rfl,m1,xM m2,s2,_,_,_,rfl,rfl,m3,rfl,_,rfl,rfl,_,rfl,qO (by simp[Stp.v]) ⟨_,rfl,b,_,_,_,rfl,rfl,h1,rfl,rfl,_,rfl,kO ⟨_,rfl,y,_,_,_,rfl,rfl,hx9,rfl,_,rfl,_,rfl,_,rfl,b,sl,.nm s.1,_,q1,S,[],rfl,fQ,hs,hf,by rw[qH];exact ho,by rw[qH];exact hlx.same g,hW,fun b3 H2 g2 ho2'=>⟨g.trans g2,b3,v2,_,q1,e2,rfl,(by rw[qH]at ho2';exact ho2'),fit,hp9,hI.same g2⟩⟩⟩⟩⟩)⟩
 ·obtain⟨g,b,v,o,kd,e1,rfl,ho,hf,hp,hd⟩:=z;rw[δ,uc]at hp;cases hp;refine⟨_,rfl,xT,fun p hp=>?_⟩;clear 1 p H4 g4 k4 hp;exact q p v H4 (g.trans g4) (SqT.of k4) (hd.same g4)
theorem tQ{k:Nat}(F:Fun K "_law_value" "_law_value" dW f fd):j1 ["_law_kind_here","_law_shapes_here","_law_value_here","_law_step"] (aMb K):=by
 w_cond uC;obtain⟨a,sl,x,v,st,kd,q0,S,rfl,hs,hc,hf,hlk,hlx,q⟩:=h;refine⟨_,(jE (jV (PW.pt (yP (jP aFf (pv 2) vA) (yA (PW.pt (zJ (jP kS (jG jQ (pv 0) jD) jO) (yJ (jP aAs (pv 3) (jG jQ (pv 0) jD)))))))) (jC (jI vA)) jL) (jE (jV (jP yB (jG jQ (pv 0) jD) jO) (jC (jI (aFt (jG jX (pv 2) (pv 3)) (yL hr.units1 (pv 2) (pv 3) (fun _ _=>rfl))))) jL) (jE (jV (jP yB (jG jQ (jG jX (pv 1) (jG jX (jG jQ (pv 0) jD) (jG jQ (pv 2) jD))) jD) (pv 3)) (jC (jI vA)) jL) (jC (jI (jG jQ (pv 2) jD)))))),?_⟩;cases hc with
 | @row c m _ y xs _ hx9 hv hm =>
  cases hlk with
  | @many _ b2 _ _ h1 h2 =>
  exact⟨_,rfl,rfl,_,rfl,qO (fun z=>by cases of_decide_eq_true z) ⟨_,rfl,a,_,_,_,rfl,rfl,h1,rfl,rfl,_,rfl,kO ⟨_,rfl,_,rfl,a,_,_,_,rfl,rfl,h1,rfl,_,_,rfl,rfl,_,rfl,qO (by simp;omega) ⟨_,rfl,a,_,_,_,rfl,rfl,h1,rfl,rfl,_,rfl,kO ⟨_,rfl,_,rfl,.inl ⟨_,_,_,_,rfl,rfl,hx9,vT hv,q⟩⟩⟩⟩⟩⟩
 | @fld i j2 m _ y ks xs w _ hpp hx9 hl hn hk hv =>
  cases hlk with
  | @nest _ _ h1 =>
  have dg:=zD.k (k:=.inr w) hx9;rw[mJ hn hl hk hv]at dg;exact⟨_,rfl,rfl,_,rfl,qO (fun z=>by cases of_decide_eq_true z) ⟨_,rfl,a,_,_,_,rfl,rfl,h1,rfl,rfl,_,rfl,jU (eW ⟨_,rfl,a,_,_,_,rfl,rfl,h1,rfl,rfl,_,rfl,kO ⟨_,rfl,_,rfl,.inr ⟨_,v,rfl,dg,q⟩⟩⟩)⟩⟩
 | @pick is m i s y _ hx9 hi hS =>
  cases hlk with
  | @pick _ l _ h1 h2 =>
  have hil:=(ε.mp hS).1;obtain⟨as,s2,l2,ps,m1,m2,m3,m4,m5⟩:=hlx.at hil;have es:S[i]=s:=(ε.mp hS).2;rw[es]at m3;exact⟨_,rfl,rfl,_,rfl,qO (fun z=>by cases of_decide_eq_true z) ⟨_,rfl,a,_,_,_,rfl,rfl,h1,rfl,rfl,_,rfl,jU (eW ⟨_,rfl,a,_,_,_,rfl,rfl,h1,rfl,rfl,_,rfl,jU ⟨_,rfl,_,rfl,a,_,_,_,rfl,rfl,h1,rfl,_,rfl,y,_,_,_,rfl,rfl,hx9,rfl,l,_,_,_,rfl,rfl,h2,tO hi,sl,_,_,_,rfl,rfl,m1,xM m2,s2,_,_,_,rfl,rfl,m3,rfl,_,rfl,rfl,_,rfl,qO (by simp[Stp.v]) ⟨_,rfl,y,_,_,_,rfl,rfl,hx9,rfl,q⟩⟩⟩)⟩⟩
theorem iG{r:Nat}(hR : 12<=r)(F:Fun K "_law_kind_right" "_law_kind_right" yI f fd)(gw:∀C sp,T3k (j8 0) (lI (j8 0) K) C sp->xE P w K mg base CX0 k "text" C sp)(ak:j4 "_law_kind_text" (aLp K (r+1)))(dc:∀C sp,T3k (j8 0) (dL (j8 0) K) C sp->xE P w K mg base CX0 k "word" C sp)(ce:∀C sp,TV (j8 0) K r vSz C sp->xE P w K mg base CX0 k "size" C sp)(ae:j4 "_law_size" (rN K vSz (r+1))):j1 ["_law_found","_law_kind_here","_law_shapes_here"] (aEk (j8 0) K):=by
 w_cond iL;obtain⟨fo,a,sl,kd,sa,S,rfl,hm,hf,ho,hlk,hw,hlx,hW,q⟩:=h;refine⟨_,(jE (jV (jP yB (xB (pv 0) gw hr qR) (jF ak hr (jA (pv 1) (jA (pv 2) jB)))) (jC (jI cO)) jL) (jC (jI (vY (vC kS (xB (pv 0) dc hr qR) (jG jQ (pv 1) jD) (vX _)) (xP (vC kS (xB (pv 0) ce hr qR) (jF ae hr (jA (pv 1) (jA (pv 2) jB))) (vX _))))))),?_⟩;obtain⟨C1,d1,f1,sp1,m1,l1,t1,F1,hF1,rfl⟩:=aEf (c:=(j8 0)) (sp3:=lI (j8 0) K) (m:="text") (fun _ _=>⟨rfl,rfl,rfl,rfl⟩) ho hm;have nok:=wQ hW.nm;obtain⟨rest,hhd⟩:=aQi hlk;have hr':kd.Rk r:=hf.rk.mono (by have:=hW.len;omega);have hlv1:=kd.lv_le;refine⟨_,rfl,fo,C1,d1,f1,_,rfl,m1,l1,t1,fo,kd,sa,S,rfl,hF1,hf,ho,hw,⟨hW.good,nok⟩,fun H1 g1=>?_⟩;refine⟨_,rfl,_,rfl,a,sl,kd,S,rfl,by omega,hf,nok,hlk.same g1,hlx.same g1,fun H2 g2=>⟨rfl,_,rfl,qO (by simp) ?_⟩⟩;have g02:=g1.trans g2;obtain⟨C2,d2,f2,sp2,m2,l2,t2,F2,hF2,rfl⟩:=aEf (c:=(j8 0)) (sp3:=dL (j8 0) K) (m:="word") (fun _ _=>⟨rfl,rfl,rfl,rfl⟩) (ho.same g02) hm;refine⟨_,rfl,fo,C2,d2,f2,_,rfl,m2,l2,t2,fo,kd,sa,rfl,hF2,ho.same g02,_,rfl,a,_,_,_,rfl,rfl,g02.tp hhd,at0,rfl,_,rfl,vZ (by simp) ?_⟩;refine⟨_,rfl,aDd (aAr (.inl rfl)) hr' hf (ho.same g02) (hw.same g02) hW.good fun H3 g3=>?_⟩;have g03:=g02.trans g3;refine⟨_,rfl,_,rfl,a,sl,kd,S,rfl,hr',by omega,hf,hlk.same g03,hlx.same g03,hW.good,fun H4 g4=>⟨rfl,?_⟩⟩;rw[decide_eq_true rfl];exact q H4 (g03.trans g4)
theorem rP(F:Fun K "_law_number" "_law_number" cH f fd)(aa:j4 "_law_take" aQ):j1 ["_law_box_here","_law_width"] aLz:=by
 w_cond aD;obtain⟨p,wd,rfl,hw4,hs,q⟩:=h;refine⟨_,(PSx.h (xF (eQ (jR 2 aD.nd (jW uJ jD (jW yF jD (pv 1))))) (xF (aKa (i:=3) aD.nd rfl rfl (aGo (kZ (qL (jF aa hr (jA (pv 0) (jA (pv 2) jB)))) (kZ (qL (pv 2)) (kZ (qL (jW yR (pv 2) jD)) (kZ (qL (jW yR jD jD)) (kZ (qL (jW yR jD (pv 2))) (kZ (qL (jW yR jD (jF aa hr (jA (pv 0) (jA (pv 2) jB))))) wZ pK) pK) pK) pK) qJ) nV))) (xF (eQ (vM (aC li ny nz zF (pv 3) (jA (jW qG (jW aEn jD jD) (jF aa hr (jA (pv 0) (jA jD jB)))) jB)))) (iU (dH (qL (jG jX (pv 3) (jF aa hr (jA (pv 0) (jA jD jB))))))))))),?_⟩;have e:∀w:Fin 5,(1:Int)*2 ^ (8*((w.val:Nat):Int)).toNat=((256 ^ w.val:Nat):Int):=by decide
 have e':=e ⟨wd,by omega⟩;have b:∀w:Fin 5,(0:Int)<((256 ^ w.val:Nat):Int)/\((256 ^ w.val:Nat):Int)<1099511627776:=by decide
 have b':=b ⟨wd,by omega⟩;refine⟨_,rfl,_,_,rfl,rfl,.inl ⟨by omega,by omega⟩,_,_,rfl,rfl,⟨by omega,by omega,by decide⟩,?_⟩;rw[show(1:Int)*2 ^ (8*((wd:Nat):Int)).toNat=((256 ^ wd:Nat):Int) from e'];generalize ((256 ^ wd:Nat):Int)=m at b' ⊢;refine⟨_,rfl,_,rfl,p,_,rfl,b'.1,b'.2,hs,fun v1 H1 hv1 d1=>?_⟩;refine⟨_,rfl,_,rfl,_,_,rfl,rfl,_,_,rfl,rfl,_,rfl,_,_,rfl,rfl,_,rfl,_,rfl,p,_,rfl,b'.1,b'.2,d1.1,fun v2 H2 hv2 d2=>?_⟩;refine⟨_,_,rfl,rfl,(by show 6<=τ;decide),fun l hl=>?_⟩;clear 1 l H3 g3 k3 hl;have nlp:l≠p:=fun z=>by obtain⟨o,ho⟩:=dG d2.1;rw[←z,hl]at ho;cases ho
 refine⟨_,rfl,.inl ⟨rfl,_,SqL.of k3⟩,_,_,rfl,rfl,⟨by decide,by decide,by decide⟩,_,rfl,p,999,rfl,by decide,by decide,jJ.st3 g3 d2.1,fun v4 H4 hv4 d4=>?_⟩;refine⟨_,_,rfl,rfl,l,_,_,rfl,rfl,d4.2 l _ nlp k3,(by show 6<τ;decide),?_⟩;clear 0 l H5 g5 k5;have st5:=aNv d4.1 g5 (lm nlp);refine⟨_,rfl,_,rfl,p,7,rfl,by decide,by decide,st5,fun v6 H6 hv6 d6=>?_⟩;have k6:=d6.2 l _ nlp k5;obtain⟨xs,ek,hxs,hlen⟩ : ∃xs:List V,H6 l=some (.lst xs)/\(∀x∈xs,∃u:Int,x=.int u)/\xs.length=7:=by
  refine⟨_,k6,fun x hx=>?_,rfl⟩;simp only[qg,uq,Ξ,kg,or_false]at hx;rcases hx with rfl|rfl|rfl|rfl|rfl|rfl|rfl <;> exact⟨_,rfl⟩
 obtain⟨u,hu⟩:=aOo hxs (j:=v6) (by omega);refine⟨l,xs,_,.int u,rfl,rfl,SqL.of ek,vT hu,q u H6 ⟨d6.1,fun b o n e=>d6.2 b o n (g5 b o (fun z=>?_) (d4.2 b o n (g3 _ _ (d2.2 b o n (d1.2 b o n e)))))⟩⟩;have:=d2.2 b o n (d1.2 b o n e);rw[z,hl]at this;cases this
theorem aFx(F:Fun K "_law_put" "_law_put" lS f fd)(af:j4 "_law_behind" (pF K))(bq:j4 "_law_put" (tL K r)):j1 ["_law_kind_here","_law_shapes_here","_law_value_here","_law_steps_here","_law_word_here"] (tL K (r+1)):=by
 w_cond bS;obtain⟨a,sl,t,x,ws,kd,q0,e,e',S,u,r0,m,ys,er,hwl,rfl,al,ht,hp,hT,hf,hlk,hlx,hW,hd,q⟩:=h;cases er;refine⟨_,(jE (jV (jP (aRa hr.units) (pv 3) (kQ jB)) (jC (jI (pv 4))) jL) (jE (jR 5 bS.nd (jF af hr (jA (pv 0) (jA (pv 1) (jA (jG jQ (pv 3) jD) jB))))) (jE (jV (jP kS (jG jQ (pv 0) jD) jO) (jC (jI (kQ (jA (jG jQ (pv 2) jD) (jA (jF bq hr (jA (pv 5) (jA (pv 1) (jA (jG jQ (pv 2) jD) (jA (qX wG (pv 3) (vN jD) vO) (jA (pv 4) jB qJ) mE) mE) qJ) qJ)) jB))))) jL) (jE (jV (jP kS (jG jQ (pv 0) jD) jO) (jE (jR 6 bS.nd (jG jQ (pv 3) jD)) (jC (jI (jW bX (jW bX (qX xX (pv 2) vO (vN (pv 6))) (qT (jA (jF bq hr (jA (pv 5) (jA (pv 1) (jA (jG jX (pv 2) (pv 6)) (jA (qX wG (pv 3) (vN jD) vO) (jA (pv 4) jB qJ) mE) mE) qJ) qJ)) jB))) (qX xX (pv 2) (vN (jW qG (pv 6) jD)) vO))))) jL) (jE (jR 7 bS.nd (qP aFa rfl M.dict (show oe "dict" = some (.type "dict") from by ac_rfl) (jA (pv 2) jB))) (jE (eN hr.units1 (pv 7) (jG jQ (pv 3) jD) (jF bq hr (jA (pv 5) (jA (pv 1) (jA (yL hr.units1 (pv 2) (jG jQ (pv 3) jD) (fun _ _=>rfl)) (jA (qX wG (pv 3) (vN jD) vO) (jA (pv 4) jB qJ) mE) mE) qJ) qJ)) rfl) (jC (jI (pv 7))))))))),?_⟩;refine⟨_,rfl,lZ,fun p0 hp0=>?_⟩;generalize e1:upd H p0 _=H1;obtain⟨g1,k1⟩:=kY e1 hp0;cases ws with
 |nil =>
  cases hp;exact⟨t,p0,[],rfl,rfl,g1.tp ht,SqT.of k1,_,rfl,vZ rfl ⟨_,rfl,q (.int u) (.int u) H1 g1 (.int u) .nil⟩⟩
 |cons st ws =>
 obtain⟨r,rfl⟩ : ∃r',r=r'+1:=⟨r-1,by rw[Γ]at hwl;omega⟩;have hwl2:ws.length<=r:=by rw[Γ]at hwl;omega
 have ht0:SqT K H1 t (st.v::ws.map Stp.v):=g1.tp ht;have cnd:∀vs:List V,¬ (HT.sIx (st.v::vs).length 0 (some 1)=0/\HT.sIx (st.v::vs).length (st.v::vs).length none=(st.v::vs).length):=fun vs c=>by
  have e9:HT.sIx (st.v::vs).length 0 (some 1)=1:=(HT.sIx_nat _ _ 1).trans (by rw[Γ];omega);have:=c.1;rw[e9]at this;cases this
 have hd1:=hd.same (jZ g1);have al1:=al.same g1;have hx1:=hlx.same g1;have hl1:=hlk.same g1;cases hp with
 | @row c j q1 _ es e1 _ _ hj he hp =>
  obtain⟨few,m',hts⟩:=aLn hT;obtain⟨b,xs,rfl,hx',_,dts⟩:=hd1.lstI;have hx:=jM.seq hx';have ln:=dts.length;obtain⟨v,hv,hdv⟩:=dts.get he;have hjx:=(ε.mp hv).1;obtain⟨cj1,cj2⟩:=cut_j hjx;cases id hl1 with
  | @many _ bk _ _ h1 h2 =>
  refine⟨t,p0,_,rfl,rfl,ht0,SqT.of k1,_,rfl,qO (by simp) ⟨_,rfl,_,rfl,_,rfl,t,_,_,_,rfl,rfl,ht0,at0,a,sl,.ix j,_,q1,S,[],rfl,fQ,.row hj,hf,by rw[qH];exact hl1,by rw[qH];exact hx1,hW,fun b2 H2 g2 hb2=>?_⟩⟩;rw[qH]at hb2;have hx2:=g2.seq hx;refine⟨_,rfl,a,_,_,_,rfl,rfl,g2.tp h1,rfl,rfl,_,rfl,jU ⟨_,rfl,a,_,_,_,rfl,rfl,g2.tp h1,rfl,rfl,_,rfl,kO ⟨_,rfl,t,_,_,_,rfl,rfl,g2.tp ht0,at0,_,rfl,_,rfl,_,rfl,b,xs,rfl,hx2,fun p1 hp1=>?_⟩⟩⟩;clear 1 p1 H3 g3 k3 hp1;rw[cj1]at k3;refine⟨_,rfl,_,rfl,_,rfl,_,rfl,b,xs,_,v,rfl,rfl,g3.seq hx2,vT hv,_,rfl,_,rfl,t,_,rfl,g3.tp (g2.tp ht0),cnd _,fun t2 ht2=>?_⟩;clear 1 t2 H4 g4 k4 ht2;rw[aLu]at k4;have g14:=(g2.trans g3).trans g4;refine⟨_,rfl,b2,sl,t2,v,ws,q1,q0,e1,e',S,u,r,m',ys,rfl,hwl2,rfl,(al1.same g14),SqT.of k4,hp,hts _ (ι he),cA hW.good (.row hj) hf,(hb2.same g3).same g4,hx1.same g14,hW,hdv.same (jZ g14),fun y e2 H5 g5 hy hpu=>?_⟩;refine⟨lP,fun p6 hp6=>?_⟩;clear 1 p6 H6 g6 k6 hp6;refine⟨p1,p6,_,_,rfl,rfl,g6 _ _ (g5 _ _ (g4 _ _ k3)),k6,(by rw[il,ib];show _+1<=_;omega),fun p7 hp7=>?_⟩;clear 1 p7 H7 g7 k7 hp7;have g27:=((g3.trans g4).trans (g5.trans g6)).trans g7;refine⟨_,rfl,_,rfl,_,_,rfl,rfl,_,rfl,b,xs,rfl,g27.seq hx2,fun p8 hp8=>?_⟩;clear 1 p8 H8 g8 k8 hp8;rw[cj2]at k8;refine⟨p7,p8,_,_,rfl,rfl,g8 _ _ k7,k8,(by rw[il,ν,ib,rl];show _+1+_<=_;omega),fun p9 hp9=>?_⟩;have nq:=(al1.same ((g2.trans g27).trans g8)).new hp9;generalize e9:upd H8 p9 _=H9;obtain⟨g9,k9⟩:=kY e9 hp9;have g59:=((g6.trans g7).trans g8).trans g9;have G:=(g1.trans g2).trans ((g27.trans g8).trans g9);rw[jr,List.singleton_append,←eL hv]at k9;exact q (.ref p9) (.list (es.set j e2)) H9 G (.lst (SqL.of (qI nq k9)) (fun z=>by cases z) (Dts.setD (hy.same (jZ g59)) (dts.same (jZ ((g2.trans g27).trans (g8.trans g9)))))) (.row he hpu)
 | @fld i j2 mi q1 _ ks es w e1 _ _ hpp hk he hn hl hp =>
  obtain⟨few,m',hts⟩:=aLr hl hT;obtain⟨b,xs,rfl,hx',l2,dts⟩:=sY hd1 hl;have hx:=jM _ _ hx';obtain⟨v,hv,hdv⟩:=dts.get he;cases id hl1 with
  | @nest _ _ h1 =>
  refine⟨t,p0,_,rfl,rfl,ht0,SqT.of k1,_,rfl,qO (by simp) ⟨_,rfl,_,rfl,_,rfl,t,_,_,_,rfl,rfl,ht0,at0,a,sl,.nm w,_,q1,S,[],rfl,fQ,.fld hpp,hf,by rw[qH];exact hl1,by rw[qH];exact hx1,hW,fun b2 H2 g2 hb2=>?_⟩⟩;rw[qH]at hb2;refine⟨_,rfl,a,_,_,_,rfl,rfl,g2.tp h1,rfl,rfl,_,rfl,jU ⟨_,rfl,a,_,_,_,rfl,rfl,g2.tp h1,rfl,rfl,_,rfl,jU ⟨_,rfl,b,_,rfl,g2 _ _ hx,fun l0 hl0=>?_⟩⟩⟩;have nl0:=(al1.same g2).new hl0;have hl1n:=g2.free hl0;clear 1 l0 H3 g3 k3 hl0;have dg:zD H3 b (.str w) (some v):=by
   have:=zD.k (k:=.inr w) (g3 _ _ (g2 _ _ hx))
   rwa [mJ hn l2 hk hv]at this
  refine⟨_,rfl,_,rfl,_,rfl,_,rfl,t,_,_,_,rfl,rfl,g3.tp (g2.tp ht0),at0,b,v,rfl,dg,_,rfl,_,rfl,t,_,rfl,g3.tp (g2.tp ht0),cnd _,fun t2 ht2=>?_⟩;clear 1 t2 H4 g4 k4 ht2;rw[aLu]at k4;have g14:=(g2.trans g3).trans g4;have al4:Al (l0::ys) H4:=fun c hc=>(Ξ.mp hc).elim (fun z=>by rw[z];exact⟨_,g4 _ _ k3⟩) (al1.same g14 c);refine⟨_,rfl,b2,sl,t2,v,ws,q1,q0,e1,e',S,u,r,m',(l0::ys),rfl,hwl2,rfl,al4,SqT.of k4,hp,hts _ (ι he),cA hW.good (.fld hpp) hf,(hb2.same g3).same g4,hx1.same g14,hW,hdv.same (offsC g14 hl1n),fun y e2 H5 g5 hy hpu=>?_⟩;have k5:=g5 _ _ (g4 _ _ k3);refine⟨_,rfl,_,rfl,t,_,_,_,rfl,rfl,g5.tp (g4.tp (g3.tp (g2.tp ht0))),at0,l0,_,rfl,.inl ⟨_,.inr w,k5,rfl,(by rw[yX l2,il];omega),rfl⟩,_,rfl,?_⟩;rw[show putK (kz ks xs) (.inr w:Key) y=kz ks (xs.set mi y) from aHm hn l2 hk hv];have G5:=g14.trans g5;exact q (.ref l0) (.dict (kvD ks (es.set mi e2))) _ ((g1.trans G5).putn (g1.free hl1n)) (.dct (qI nl0 jT) (by rw[uo];exact l2) (Dts.setD (hy.same offsU) (dts.same (jZ (G5.putn hl1n))))) (.fld hk he hn hl hpu)
 | @pick is mi i s _ e1 _ _ hi hS hp =>
  obtain⟨m',hT'⟩:=aOa hT;obtain⟨b,x1,rfl,hx',hdv⟩:=hd1.pickI;have hx:=jM.tp hx';cases id hl1 with
  | @pick _ l _ h1 h2 =>
  refine⟨t,p0,_,rfl,rfl,ht0,SqT.of k1,_,rfl,qO (by simp) ⟨_,rfl,_,rfl,_,rfl,t,_,_,_,rfl,rfl,ht0,at0,a,sl,.nm s.1,_,.nest i,S,[],rfl,fQ,.pick hi hS,hf,by rw[qH];exact hl1,by rw[qH];exact hx1,hW,fun b2 H2 g2 hb2=>?_⟩⟩;rw[qH]at hb2;refine⟨_,rfl,a,_,_,_,rfl,rfl,g2.tp h1,rfl,rfl,_,rfl,kO ⟨_,rfl,b,_,_,_,rfl,rfl,g2.tp hx,rfl,_,rfl,_,rfl,_,rfl,b,_,_,_,rfl,rfl,g2.tp hx,rfl,_,rfl,_,rfl,t,_,rfl,g2.tp ht0,cnd _,fun t2 ht2=>?_⟩⟩;clear 1 t2 H4 g4 k4 ht2;rw[aLu]at k4;have g14:=g2.trans g4;refine⟨_,rfl,b2,sl,t2,x1,ws,.nest i,q0,e1,e',S,u,r,m',ys,rfl,hwl2,rfl,(al1.same g14),SqT.of k4,hp,hT',cA hW.good (.pick hi hS) hf,hb2.same g4,hx1.same g14,hW,hdv.same (jZ g14),fun y e2 H5 g5 hy hpu=>⟨xT,fun p6 hp6=>?_⟩⟩;have nq:=(al1.same (g14.trans g5)).new hp6;clear 1 p6 H6 g6 k6 hp6;exact q (.ref p6) (.tuple [.int mi,e2]) H6 ((g1.trans g14).trans (g5.trans g6)) (.tup (SqT.of (qI nq k6)) (.cons (.int _) (.cons (hy.same (jZ g6)) .nil))) (.pick hpu)
theorem uM{k:Nat}(F:Fun K "_law_steps" "_law_steps" cT f fd)(aa:j4 "_law_take" aQ)(fh:j4 "_law_value" (aMb K))(af:j4 "_law_behind" (pF K)):j1 ["_law_box_here","_law_kind_here","_law_shapes_here","_law_value_here","_law_wild"] (aLg K):=by
 w_cond qB;obtain⟨p,a,sl,x,kd,S,d,e,n,rfl,hn,hst,hlk,hlx,hW,hf,hk,hrec,hd,q⟩:=h;refine⟨_,(jE (jR 5 qB.nd (kQ jB)) (jE (aBv iy (PW.pt (zJ (jP yB (jG jQ (pv 1) jD) jO) (yJ (PW.pt (yP (jP yB (jG jQ (pv 1) jD) jO) (yA (jP cQ (jF aa hr (jA (pv 0) (jA jD jB))) jD))))))) (jE (jR 6 qB.nd jO) (jE (jV (jP kS (jG jQ (pv 1) jD) jO) (jE (jR 7 qB.nd (jG jQ (jG jX (pv 2) (jG jQ (pv 1) jD)) jD)) (jC (jR 6 qB.nd (jG jQ (jG jX (pv 7) (jF aa hr (jA (pv 0) (jA (jN kI rfl M.len jh (jA (pv 7) jB)) jB)))) jD)))) (jC (jV (jP kS (jG jQ (pv 1) jD) jO) (jE (jR 6 qB.nd (jF aa hr (jA (pv 0) (jA (jG jQ (pv 1) jD) jB)))) (jC (jV (PW.pt (zJ (kR (pv 4)) (yJ (jP kS (jF aa hr (jA (pv 0) (jA jD jB))) jD)))) (jC (jR 6 qB.nd (jW qG (jG jQ (pv 1) jD) (jG jX (qT (jA jD (jA jD (jA jD (jA (jW aEn jD jD) jB))))) (jF aa hr (jA (pv 0) (jA jD jB))))))) jL))) (jE (jR 8 qB.nd (jF aa hr (jA (pv 0) (jA (jN kI rfl M.len jh (jA (jG jQ (pv 1) jD) jB)) jB)))) (jE (jV (PW.pt (zJ (jP nW (pv 3) vA) (yJ (PW.pt (yP (vL (kR (pv 4))) (yA (jP cQ (jF aa hr (jA (pv 0) (jA jD jB))) jD))))))) (jC (jR 8 qB.nd (jG jQ (pv 3) jD))) jL) (jC (jR 6 qB.nd (jG jQ (jG jX (pv 2) (jG jX (jG jQ (pv 1) jD) (pv 8))) jD)))))))) (jE (jR 3 qB.nd (jF fh hr (jA (pv 1) (jA (pv 2) (jA (pv 3) (jA (pv 6) jB)))))) (jE (jR 1 qB.nd (jF af hr (jA (pv 1) (jA (pv 2) (jA (pv 6) jB))))) (jC (jR 5 qB.nd (jW aAy (pv 5) (kQ (jA (pv 6) jB)))))))))) (jC (jI (pv 5))))),?_⟩;have mp:p∈[p]:=ο.mpr rfl;refine⟨lZ,fun t0 ht0=>?_⟩;clear 1 t0 H0 g0 k0 ht0;refine⟨fun m σ H'=>∃(b:Addr) (v:V) (t:Addr) (ws:List Stp) (kd1:Kd) (e1 d1:θ) (o6 o7 o8:Option V),σ = [some (.ref p),some (.ref b),some (.ref sl),some v,some (.bl false),some (.ref t),o6,o7,o8]/\Drawn p H H'/\LK K (offs [p] H') b kd1/\kd1.Fit S.length/\kd1.Rk m/\Rec S m kd1 d1 e1/\Dt false K (offs [p] H') v e1/\SqT K (offs [p] H') t (ws.map Stp.v)/\ws.length+m=n/\Pth S kd e ws kd1 e1,⟨n,a,x,t0,[],kd,e,d,_,_,_,rfl,(Drawn.refl hst).keep g0,hlk.same (jZ g0),hf,hk,hrec,hd.same (jZ g0),iP (jJ.st3 g0 hst) (SqT.of k0),(by simp),.nil⟩,fun m σ H' w=>?_⟩;obtain⟨b,v,t,ws,kd1,e1,d1,o6,o7,o8,rfl,dr,hlb,hf1,hk1,hrc,hd1,ht,hln,hp⟩:=w;have DH':=Drawn.refl dr.1;cases id hlb with
 | @num _ w h1' =>
  have h1:=jM.tp h1';exact⟨_,rfl,b,_,_,_,rfl,rfl,h1,rfl,rfl,_,rfl,jU (eW ⟨_,rfl,q t ws _ e1 H' dr ht hp (.inl ⟨_,rfl⟩)⟩)⟩
 | @nest _ i h1' =>
  have h1:=jM.tp h1';cases m with
  |zero=>exact hrc.elim
  |succ m =>
  obtain⟨ds,es,ks,es',rfl,rfl,l0,pm,hrl⟩:=id hrc;have hil:i<S.length:=hf1;obtain⟨as,s,l,ps,m1',m2,m3',m4',m5⟩:=(hlx.same (dr.offs mp)).at hil;have m1:=jM.seq m1';have m3:=jM.tp m3';have m4:=jM.seq m4';have hS:S[i]?=some S[i]:=ζ hil;have hne:=hW.good.ne i _ hS;have zl:=m5.len;have few:=hW.good.few i _ hS;refine⟨_,rfl,b,_,_,_,rfl,rfl,h1,rfl,rfl,_,rfl,kO ⟨_,rfl,b,_,_,_,rfl,rfl,h1,rfl,rfl,_,rfl,kO (aKh ⟨_,fun _ _ z=>z,⟨_,rfl,b,_,_,_,rfl,rfl,h1,rfl,rfl,_,rfl,kO ⟨_,rfl,_,rfl,b,_,_,_,rfl,rfl,h1,rfl,sl,_,_,_,rfl,rfl,m1,xM m2,s,_,_,_,rfl,rfl,m3,rfl,_,rfl,_,rfl,_,rfl,l,_,rfl,.inl m4,p,_,rfl,?_,?_,dr.1,fun j H2 hj DH2=>?_⟩⟩⟩)⟩⟩
  ·rw[δ,zl];have:=rg.mpr hne;omega
  ·rw[δ,zl];omega
  have hj':j<ps.length:=by rw[δ]at hj;omega
  have hpj:ps[j]?=some ps[j]:=ζ hj';obtain⟨nm,q1,kk,hfs,kt,_⟩:=m5.get hpj;have D:=aHt (xJ hW.fnd i) l0 pm hrl;have hpar:((Kd.nest i).parts S)[j]?=some (nm,q1):=by rw[vG hS];exact hfs
  obtain⟨dd,ee,z1,z2,z3⟩:=D.g j _ hpar;obtain⟨mm,z4,z5⟩:=aEa z2;have hpp:Pth S (.nest i) (.dict (kvD ks es')) [.nm nm] q1 ee:=.fld hpar z4 z5 (D.p.symm.nodup (xJ hW.fnd i)) l0 .nil;refine⟨l,_,_,_,rfl,rfl,jM.seq ((DH2.offs mp).seq m4'),xM hpj,ps[j],_,_,_,rfl,rfl,jM.tp ((DH2.offs mp).tp kt),rfl,?_⟩;obtain⟨v2,n2,d2,en,hs,hc,hdv,f2,r2,rc2⟩:=aEh (p:=p) (H:=H2) hW hpp (hd1.same (DH2.offs mp)) hrc hf1 hk1;have lkO:=hlb.same (DH2.offs mp);have lxO:=hlx.same ((dr.trans DH2).offs mp);have alO:Al [p] H2:=fun c hc=>by rw[ο.mp hc];exact dG DH2.1
  refine⟨_,rfl,_,rfl,_,rfl,_,rfl,b,sl,v,v2,(.nm nm),_,_,S,rfl,hs,hc,hf1,lkO.same jM,lxO.same jM,?_⟩;refine⟨_,rfl,_,rfl,_,rfl,b,sl,(.nm nm),_,_,S,[p],rfl,alO,hs,hf1,lkO,lxO,hW,fun b2 H6 g6 hb2=>?_⟩;refine⟨_,rfl,_,rfl,lP,fun p1 hp1=>?_⟩;clear 1 p1 H7 g7 k7 hp1;have D7:=DH2.keep (g6.trans g7);have ht7:=jM.tp ((D7.offs mp).tp ht);refine⟨t,p1,_,_,rfl,rfl,ht7,SqT.of k7,by simp,(by rw[δ,il];show _+1<=_;omega),fun t2 H8 g8 ht2=>?_⟩;have D8:=D7.keep g8;exact⟨n2,by omega,b2,v2,t2,ws++[(.nm nm)],_,_,d2,_,_,_,rfl,dr.trans D8,hb2.same (jZ (g7.trans g8)),f2,r2,rc2,hdv.same (jZ ((g6.trans g7).trans g8)),(by rw[ρ];exact iP D8.1 ht2),(by rw[ν,jt];omega),hp.app hpp⟩
 | @many _ bk c q1 h1' h2 =>
  have h1:=jM.tp h1';cases m with
  |zero=>exact hrc.elim
  |succ m =>
  obtain⟨ds,es,rfl,rfl,hrl⟩:=id hrc;have c1 : 1<=c:=hf1.1;have c6:c<=6:=hf1.2.1;refine⟨_,rfl,b,_,_,_,rfl,rfl,h1,rfl,rfl,_,rfl,kO ⟨_,rfl,b,_,_,_,rfl,rfl,h1,rfl,rfl,_,rfl,kO (aKh ⟨_,fun _ _ z=>z,⟨_,rfl,b,_,_,_,rfl,rfl,h1,rfl,rfl,_,rfl,jU ⟨_,rfl,b,_,_,_,rfl,rfl,h1,rfl,rfl,_,rfl,kO ⟨_,rfl,_,rfl,b,_,_,_,rfl,rfl,h1,rfl,p,_,rfl,by omega,by omega,dr.1,fun j H2 hj DH2=>⟨_,rfl,_,rfl,jU (eW ?_)⟩⟩⟩⟩⟩)⟩⟩;have hj':j<c:=by exact_mod_cast hj
  have hpar:((Kd.many c q1).parts S)[j]?=some (η (toString j),q1):=by
   show((ir c).map _)[j]?=_;rw[υ,nr hj'];rfl
  obtain⟨dd,ee,z1,z2,z3⟩:=hrl.get hpar;have hpp:Pth S (.many c q1) (.list es) [.ix j] q1 ee:=.row hj' z2 .nil;obtain⟨v2,n2,d2,en,hs,hc,hdv,f2,r2,rc2⟩:=aEh (p:=p) (H:=H2) hW hpp (hd1.same (DH2.offs mp)) hrc hf1 hk1;have lkO:=hlb.same (DH2.offs mp);have lxO:=hlx.same ((dr.trans DH2).offs mp);have alO:Al [p] H2:=fun c hc=>by rw[ο.mp hc];exact dG DH2.1
  refine⟨_,rfl,_,rfl,_,rfl,_,rfl,b,sl,v,v2,(.ix j),_,_,S,rfl,hs,hc,hf1,lkO.same jM,lxO.same jM,?_⟩;refine⟨_,rfl,_,rfl,_,rfl,b,sl,(.ix j),_,_,S,[p],rfl,alO,hs,hf1,lkO,lxO,hW,fun b2 H6 g6 hb2=>?_⟩;refine⟨_,rfl,_,rfl,lP,fun p1 hp1=>?_⟩;clear 1 p1 H7 g7 k7 hp1;have D7:=DH2.keep (g6.trans g7);have ht7:=jM.tp ((D7.offs mp).tp ht);refine⟨t,p1,_,_,rfl,rfl,ht7,SqT.of k7,by simp,(by rw[δ,il];show _+1<=_;omega),fun t2 H8 g8 ht2=>?_⟩;have D8:=D7.keep g8;exact⟨n2,by omega,b2,v2,t2,ws++[(.ix j)],_,_,d2,_,_,_,rfl,dr.trans D8,hb2.same (jZ (g7.trans g8)),f2,r2,rc2,hdv.same (jZ ((g6.trans g7).trans g8)),(by rw[ρ];exact iP D8.1 ht2),(by rw[ν,jt];omega),hp.app hpp⟩
 | @pick _ l is h1' h2' =>
  have h1:=jM.tp h1';cases m with
  |zero=>exact hrc.elim
  |succ m =>
  obtain⟨mi,i,a0,ee,hi,rfl,rfl,hrl⟩:=id hrc;have s2 : 2<=is.length:=hf1.1;have s4:is.length<=4:=hf1.2.1;have hil:i<S.length:=hf1.2.2.2 i (ι hi);have hS:S[i]?=some S[i]:=ζ hil;have hpp:Pth S (.pick is) (.tuple [.int (mi:Int),ee]) [.nm S[i].1] (.nest i) ee:=.pick hi hS .nil;refine⟨_,rfl,b,_,_,_,rfl,rfl,h1,rfl,rfl,_,rfl,kO ⟨_,rfl,b,_,_,_,rfl,rfl,h1,rfl,rfl,_,rfl,jU ⟨_,rfl,p,3,rfl,by decide,by decide,dr.1,fun j0 H2 hj0 D2=>⟨_,_,rfl,rfl,_,rfl,xG (fun c=>?_) (fun c=>?_)⟩⟩⟩⟩
  case refine_2 =>
   exact⟨_,rfl,q t ws _ _ H2 (dr.trans D2) ((D2.offs mp).tp ht) hp (.inr ⟨_,rfl⟩)⟩
  have h1b:=jM.tp ((D2.offs mp).tp h1');have h2b:=jM.seq ((D2.offs mp).seq h2');refine⟨_,fun _ _ z=>z,⟨_,rfl,b,_,_,_,rfl,rfl,h1b,rfl,rfl,_,rfl,jU ⟨_,rfl,b,_,_,_,rfl,rfl,h1b,rfl,rfl,_,rfl,jU ⟨_,rfl,_,rfl,b,_,_,_,rfl,rfl,h1b,rfl,l,_,rfl,.inl h2b,p,_,rfl,?_,?_,D2.1,fun j3 H3 hj3 D3=>?_⟩⟩⟩⟩
  ·rw[δ];omega
  ·rw[δ];omega
  have DH3:=D2.trans D3;have h1c:=jM.tp ((DH3.offs mp).tp h1');have h2c:=jM.seq ((DH3.offs mp).seq h2');obtain⟨ax,x1,rfl,hx,_⟩:=(hd1.same (DH3.offs mp)).pickI;obtain⟨as,s,l2,ps,m1',m2,m3',m4',m5⟩:=((hlx.same (dr.offs mp)).same (DH3.offs mp)).at hil;refine⟨_,rfl,rfl,_,rfl,vZ (by simp) ⟨_,rfl,_,rfl,kO (aKh ⟨_,rfl,ax,_,_,_,rfl,rfl,jM.tp hx,rfl,_,rfl,_,rfl,b,_,_,_,rfl,rfl,h1c,rfl,_,rfl,l,_,_,_,rfl,rfl,h2c,tO hi,sl,_,_,_,rfl,rfl,jM.seq m1',xM m2,s,_,_,_,rfl,rfl,jM.tp m3',rfl,?_⟩)⟩⟩;obtain⟨v2,n2,d2,en,hs,hc,hdv,f2,r2,rc2⟩:=aEh (p:=p) (H:=H3) hW hpp (hd1.same (DH3.offs mp)) hrc hf1 hk1;have lkO:=hlb.same (DH3.offs mp);have lxO:=hlx.same ((dr.trans DH3).offs mp);have alO:Al [p] H3:=fun c hc=>by rw[ο.mp hc];exact dG DH3.1
  refine⟨_,rfl,_,rfl,_,rfl,_,rfl,b,sl,.ref ax,v2,(.nm S[i].1),_,_,S,rfl,hs,hc,hf1,lkO.same jM,lxO.same jM,?_⟩;refine⟨_,rfl,_,rfl,_,rfl,b,sl,(.nm S[i].1),_,_,S,[p],rfl,alO,hs,hf1,lkO,lxO,hW,fun b2 H6 g6 hb2=>?_⟩;refine⟨_,rfl,_,rfl,lP,fun p1 hp1=>?_⟩;clear 1 p1 H7 g7 k7 hp1;have D7:=DH3.keep (g6.trans g7);have ht7:=jM.tp ((D7.offs mp).tp ht);refine⟨t,p1,_,_,rfl,rfl,ht7,SqT.of k7,by simp,(by rw[δ,il];show _+1<=_;omega),fun t2 H8 g8 ht2=>?_⟩;have D8:=D7.keep g8;exact⟨n2,by omega,b2,v2,t2,ws++[(.nm S[i].1)],_,_,d2,_,_,_,rfl,dr.trans D8,hb2.same (jZ (g7.trans g8)),f2,r2,rc2,hdv.same (jZ ((g6.trans g7).trans g8)),(by rw[ρ];exact iP D8.1 ht2),(by rw[ν,jt];omega),hp.app hpp⟩
theorem wJ(F:Fun K "_law_mixed" "_law_mixed" cV f fd)(aa:j4 "_law_take" aQ)(az:j4 "_law_mixed" (tZ K r)):j1 ["_law_box_here","_law_thing"] (tZ K (r+1)):=by
 w_cond zB;obtain⟨p,x,kd,S,d,e0,r0,er,rfl,hst,hk,hf,hW,hd,hc,q⟩:=h;cases er;refine⟨_,(jE (jV (kR (jN kW rfl M.isinstance ip (jA (pv 1) (jA (qM (v:=.ty "dict") rfl M.dict boot_dict rfl) jB)))) (jE (jR 2 zB.nd (qP (pC rfl) rfl M.list boot_list (jA (pv 1) jB))) (jE (jR 3 zB.nd pO) (jE (aBv iy (jP (aJo hr.units) (pv 2) (qT jB)) (jE (jR 4 zB.nd (aC li PySem.F.slot_list_pop PySem.F.type_list_pop aLy (pv 2) (jA (jF aa hr (jA (pv 0) (jA (jN kI rfl M.len jh (jA (pv 2) jB)) jB))) jB))) (jC (eN hr.units1 (pv 3) (pv 4) (jF az hr (jA (pv 0) (jA (yL hr.units1 (pv 1) (pv 4) (fun _ _=>rfl)) jB))) rfl)))) (jC (jI (pv 3)))))) jL) (jE (jV (kR (jN kW rfl M.isinstance ip (jA (pv 1) (jA (qM (v:=.ty "list") rfl M.list boot_list rfl) jB)))) (jC (jI (kU ["_law_one"] ["_law_box_here"] [0] rfl (qK (pv 1)) rfl ⟨rfl,trivial⟩ ⟨⟨rfl,rfl,rfl,_,rfl⟩,trivial⟩ (fun _ _ _ _=>(qD rfl)) (fun _ _ _ _=>kT) (fun _ _ _ _=>(jF az hr (jA (pv 1) (jA (pv 0) jB))))))) jL) (jE (jV (kR (jN kW rfl M.isinstance ip (jA (pv 1) (jA (qM (v:=.ty "tuple") rfl M.tuple qy rfl) jB)))) (jC (jI (kQ (jA (jG jQ (pv 1) jD) (jA (jF az hr (jA (pv 0) (jA (jG jQ (pv 1) jD) jB))) jB))))) jL) (jC (jI (pv 1)))))),?_⟩;have off:∀{H':Hp},Drawn p H H'->jJ (offs [p] H) (offs [p] H'):=fun dr=>xV fun b o nb e=>dr.2 b o (fun z=>nb (by rw[z];exact ο.mpr rfl)) e;have mup:∀{H':Hp},St3 H' p->Mu H' [p]:=fun z b hb=>by
  obtain⟨u,v,w',e⟩:=z;rw[ο.mp hb];exact .inl ⟨_,e⟩
 have frp:∀{H1 H2:Hp},Drawn p H1 H2->Fr [p] H1 H2:=fun dr b o nb e=>dr.2 b o (fun z=>nb (by rw[z];exact ο.mpr rfl)) e;have np:∀{gs:List Addr},New H gs->∀b∈gs,b∉[p]:=fun hn b hb z=>by
  obtain⟨u,v,w',e⟩:=hst;have:=hn b hb;rw[ο.mp z,e]at this;cases this
 have back:∀{H':Hp}{gs:List Addr},Drawn p H H'->New H' gs->New H gs:=fun dr hn b hb=>by
  cases e:H b with
  |none=>rfl
  |some o =>
   have h1:=hn b hb
   by_cases z:b=p
   ·obtain⟨u,v,w',e2⟩:=dr.1;rw[z,e2]at h1;cases h1
   ·rw[dr.2 b o z e]at h1;cases h1
 cases kd with
 |num w =>
  obtain⟨v,rfl,rfl,hv⟩ : ∃v:Nat,d=.int v/\e0=.int v/\v<256 ^ w:=by cases r <;> exact hc
  obtain rfl:=hd.intI;exact⟨_,rfl,.int v,_,"int",rfl,by decide,.inl rfl,_,rfl,jU ⟨_,rfl,.int v,_,"int",rfl,by decide,.inl rfl,_,rfl,jU ⟨_,rfl,.int v,_,"int",rfl,by decide,.inl rfl,_,rfl,jU ⟨_,rfl,q _ (.int v) [] H (Drawn.refl hst) (.int _) (by cases r <;> exact⟨v,rfl,rfl,hv⟩) fun b hb=>by cases hb⟩⟩⟩⟩
 |many m k =>
  cases r with
  |zero=>exact hc.elim
  |succ r =>
  obtain⟨ds,es0,rfl,rfl,cl⟩:=hc;have few:=(eR hW.good (.inr ⟨m,k,rfl⟩) hf).2;cases hd with
  | @lst a xs _ h0 _ t =>
   have h:SqL K H a xs:=jM.seq h0;have lx:=t.length;have lp:=cl.len.1;have lp2:=cl.len.2;refine⟨_,rfl,.ref a,_,"list",rfl,by decide,.inl (.inl ⟨rfl,_,h⟩),_,rfl,jU ⟨_,rfl,.ref a,_,"list",rfl,by decide,.inl (.inl ⟨rfl,_,h⟩),_,rfl,kO ⟨_,rfl,a,rfl,⟨_,h⟩,vV (xs:=xs) (fun j ys H'=>Drawn p H H'/\∃es gs,Trs true K H' ys es gs/\xC (Rec S r) (((Kd.many m k).parts S).take j) (ds.take j) es/\New H gs/\es.length=j) ⟨Drawn.refl hst,[],[],.nil,ju,(fun b hb=>by cases hb),rfl⟩ (fun j ys H' _ z=>⟨jM.seq ((off z.1).seq h0),?_⟩) (kL (by omega)) (fun j x ys H' hx z=>?_) (fun ys H' z p2 hp2=>?_)⟩⟩⟩
   ·obtain⟨_,es,gs,h1,_,_,h2⟩:=z;rw[h1.len,h2];exact ξ _
   ·obtain⟨dr,es,gs,htr,hrc,hnew,hel⟩:=z;have hj:j<es0.length:=by rw[←lx];exact(ε.mp hx).1
    obtain⟨f,hpj⟩ : ∃f,((Kd.many m k).parts S)[j]?=some f:=⟨_,ζ (by omega)⟩;obtain⟨d1,e9,hd1,he9,hcd⟩:=cl.get hpj;obtain⟨x',hx',hxd⟩:=t.get he9;rw[hx]at hx';cases hx';obtain⟨p1,p2,_⟩:=Kd.parts_ok hW.good hf hk (ι hpj);refine⟨_,rfl,_,rfl,p,x,f.2,S,d1,e9,r,rfl,rfl,dr.1,p1,p2,hW,hxd.same (off dr),hcd,fun v e g3 H3 d3 h3 hr3 hn3=>⟨⟨dr.trans d3,es++[e],gs++g3,?_,?_,hnew.app (back dr hn3),by rw[ν,hel];rfl⟩,_,rfl⟩⟩
    ·exact Trs.snoc h3 (htr.fr (frp d3) (mup dr.1) (np hnew)) (hn3.dis htr.mu)
    ·rw[jq,jq,hpj,hd1];exact hrc.app ⟨hr3,ju⟩
   ·obtain⟨dr,es,gs,htr,hrc,hnew,hel⟩:=z;rw[lx,←lp2,kM,lp,kM]at hrc;clear 1 p2 H3 g3 k3 hp2;exact q (.ref p2) (.list es) (p2::gs) H3 (dr.keep g3) (.lst k3 (htr.same g3) (htr.mu.not hp2)) ⟨ds,es,rfl,rfl,hrc⟩ (New.cons (back dr (fun b hb=>by rw[ο.mp hb];exact hp2) p2 (ο.mpr rfl)) hnew)
 |pick is =>
  cases r with
  |zero=>exact hc.elim
  |succ r =>
  obtain⟨j,i,e,ex,hi,rfl,rfl,hce⟩ : ∃(j i:Nat) (a b:θ),is[j]?=some i/\d=.tuple [.int j,a]/\e0=.tuple [.int j,b]/\Rec S r (.nest i) a b:=hc;cases hd with
  | @tup a xs _ h0 dts =>
   cases dts with
   |cons hd0 dts =>
    cases dts with
    | @cons x1 _ _ _ hd1 dts =>
     cases dts;cases hd0;have h:SqT K H a [.int j,x1]:=jM.tp h0;have hki:=hk i (ι hi);refine⟨_,rfl,.ref a,_,"tuple",rfl,by decide,.inl (.inr ⟨rfl,_,h⟩),_,rfl,jU ⟨_,rfl,.ref a,_,"tuple",rfl,by decide,.inl (.inr ⟨rfl,_,h⟩),_,rfl,jU ⟨_,rfl,.ref a,_,"tuple",rfl,by decide,.inl (.inr ⟨rfl,_,h⟩),_,rfl,kO ⟨_,rfl,a,_,_,_,rfl,rfl,h,rfl,_,rfl,_,rfl,a,_,_,_,rfl,rfl,h,rfl,p,x1,.nest i,S,e,ex,r,rfl,rfl,hst,(by show 2*i+2<=r;omega),hf.2.2.2 i (ι hi),hW,hd1,hce,fun v e1 gs H3 d3 h3 hr3 hn3=>⟨xT,fun t5 ht5=>?_⟩⟩⟩⟩⟩;generalize e5:upd H3 t5 _=H5;obtain⟨g5,k5⟩:=kY e5 ht5;exact q (.ref t5) (.tuple [.int j,e1]) gs H5 (d3.keep g5) (.tup (SqT.of k5) (h3.same g5)) ⟨j,i,e,e1,hi,rfl,rfl,hr3⟩ hn3
 |nest i =>
  cases r with
  |zero=>exact hc.elim
  |succ r =>
  obtain⟨ds,es0,ns,es1,rfl,rfl,lz,pz,cl⟩:=hc;have DR:=aHt (xJ hW.fnd i) lz pz cl;have few:=(eR hW.good (.inl ⟨i,rfl⟩) hf).2;have hn:ns.Nodup:=DR.p.symm.nodup (xJ hW.fnd i);obtain⟨a,xs,rfl,h0,l,t⟩:=sY hd lz;have h:H a=some (.dK (kz ns xs)):=jM _ _ h0;have nap:a≠p:=fun z=>by
   have:offs [p] H a=none:=by unfold offs;rw[if_pos (by rw[z];exact ο.mpr rfl)]
   rw[this]at h0;cases h0
  have lns:ns.length=((Kd.nest i).parts S).length:=by rw[DR.p.length_eq,δ]
  have l2:=l;refine⟨_,rfl,.ref a,_,"dict",rfl,by decide,.inr ⟨rfl,a,_,rfl,h⟩,_,rfl,kO ⟨_,rfl,a,_,rfl,h,(by rw[yX l];omega),fun lf hlf=>?_⟩⟩;rw[aNa l];generalize e1:upd H lf _=H1;obtain⟨g1,k1⟩:=kY e1 hlf;intro D hD;generalize e2:upd H1 D _=H2;obtain⟨g2,k2⟩:=kY e2 hD;have g12:=g1.trans g2;have nlp:lf≠p:=fun z=>by obtain⟨u,v,w',e⟩:=hst;rw[←z,hlf]at e;cases e
  have hD0:H D=none:=g1.free hD;have nDp:D≠p:=fun z=>by obtain⟨u,v,w',e⟩:=hst;rw[←z,hD0]at e;cases e
  have nDl:D≠lf:=fun z=>by rw[z,k1]at hD;cases hD
  have hst2:St3 H2 p:=by obtain⟨u,v,w',e⟩:=hst;exact⟨u,v,w',g12 _ _ e⟩
  have nlf:∀{gs:List Addr},New H2 gs->lf∉gs/\D∉gs:=fun hn=>⟨(fun z=>by have:=hn _ z;rw[g2 _ _ k1]at this;cases this),(fun z=>by have:=hn _ z;rw[k2]at this;cases this)⟩;refine aMi (fun σ H'=>∃(left ks:List Str) (vs:List V) (es:List θ) (gs:List Addr) (o4:Option V),σ = [some (.ref p),some (.ref a),some (.ref lf),some (.ref D),o4]/\Fr [p,lf,D] H2 H'/\St3 H' p/\H' lf=some (.lst (left.map V.str))/\H' D=some (.dK (kz ks vs))/\ks.length=vs.length/\(ks++left).Perm ns/\Trs true K H' vs es gs/\New H2 gs/\∀(q:Nat) (k:Str) (e:θ),ks[q]?=some k->es[q]?=some e->∃(j:Nat) (d:θ) (kd:Kd),((Kd.nest i).parts S)[j]?=some (k,kd)/\ds[j]?=some d/\Rec S r kd d e) (fun σ H'=>match H' lf with|some (.lst ys)=>ys.length|_=>0) ⟨ns,[],[],[],[],_,rfl,Fr.refl,hst2,g2 _ _ k1,k2,rfl,List.Perm.refl _,.nil,(fun b hb=>by cases hb),fun q k e h=>by cases h⟩ (fun σ H' z=>?_) ?_
  ·obtain⟨left,ks,vs,es,gs,o4,rfl,f,hp',hlf',hD',lk,hpm,htr,hnew,hrec⟩:=z;refine⟨_,rfl,lZ,fun e0 he0=>?_⟩;clear 1 e0 H3 g3 k3 he0;have hlf3:=g3 _ _ hlf';have hpl:=hpm.length_eq;rw[ν]at hpl;refine⟨lf,e0,_,rfl,rfl,SqL.of hlf3,SqL.of k3,_,rfl,?_⟩;cases left with
   |nil =>
    refine jU ?_;have hnk:ks.Perm ns:=by rw[ly]at hpm;exact hpm
    refine⟨_,rfl,q (.ref D) (.dict (kvD ks es)) (D::gs) H3 ?_ (.dct (g3 _ _ hD') lk (htr.same g3) (nlf hnew).2) (aQa hW.fnd cl.len.1 (lk.trans htr.len) (hnk.trans DR.p) hrec) (New.cons hD0 (hnew.back g12))⟩;refine⟨by obtain⟨u,v,w',e⟩:=hp';exact⟨u,v,w',g3 _ _ e⟩,fun b o nb e=>g3 _ _ (f b o (fun z=>?_) (g12 _ _ e))⟩;rcases Ξ.mp z with z|z
    ·exact nb z
    rcases Ξ.mp z with z|z
    ·rw[z,hlf]at e;cases e
    ·rw[ο.mp z,hD0]at e;cases e
   |cons y0 left =>
    refine vZ rfl ?_;have hp3:St3 H3 p:=by obtain⟨u,v,w',e⟩:=hp';exact⟨u,v,w',g3 _ _ e⟩
    refine⟨_,rfl,.inl ⟨rfl,_,SqL.of hlf3⟩,_,rfl,_,rfl,lf,_,rfl,.inl (SqL.of hlf3),p,_,rfl,(by rw[δ];show(0:Int)<(left.length+1:Nat);omega),?_,hp3,fun c H4 hc4 d4=>?_⟩
    ·rw[δ,Γ];have:(y0::left).length<=6:=by omega
     rw[Γ]at this;omega
    rw[δ]at hc4;have hc4':c<(y0::left).length:=by omega
    have hlf4:=d4.2 _ _ nlp hlf3;obtain⟨y,hy⟩ : ∃y,(y0::left)[c]?=some y:=⟨_,ζ hc4'⟩;refine⟨lf,_,_,c,.str y,rfl,rfl,hlf4,(by omega),(by omega),?_,?_,?_⟩
    ·exact seqIx (by rw[δ];exact hc4')
    ·rw[υ,hy];rfl
    generalize e5:upd H4 lf _=H5;obtain⟨b5,k5⟩:=xS e5;have fr5:Fr [p,lf,D] H2 H5:=fun b o nb e=>b5 _ _ (fun z=>nb (by rw[z];simp)) (d4.2 _ _ (fun z=>nb (by rw[z];simp)) (g3 _ _ (f b o nb e)));have ap:a∉[p,lf,D]:=fun z=>by
     rcases Ξ.mp z with z|z
     ·exact nap z
     rcases Ξ.mp z with z|z
     ·rw[z,hlf]at h;cases h
     ·rw[ο.mp z,hD0]at h;cases h
    have h5a:=fr5 _ _ ap (g12 _ _ h);have hst5:St3 H5 p:=by obtain⟨u,v,w',e⟩:=d4.1;exact⟨u,v,w',b5 _ _ (lm nlp) e⟩
    have hym:y∈ns:=hpm.mem_iff.mp (ia _ (ι hy));obtain⟨j,hj⟩:=jd.mp hym;obtain⟨jf,f1,hf1,ef1⟩ : ∃(jf:Nat) (f:Str×Kd),((Kd.nest i).parts S)[jf]?=some f/\f.1=y:=by
     obtain⟨jf,hjf⟩:=jd.mp (DR.p.mem_iff.mp hym);rw[υ]at hjf;obtain⟨f,hf',ef⟩:=lr.mp hjf;exact⟨jf,f,hf',ef⟩
    obtain⟨e9,he9⟩ : ∃e9,es1[j]?=some e9:=⟨_,ζ (by rw[←lz];exact(ε.mp hj).1)⟩;obtain⟨fk,fd⟩:=f1;cases ef1;obtain⟨d1,e8,hd1,hlk8,hcd⟩:=DR.g jf _ hf1;have e89:e9=e8:=by
     have:=fK hn (tF hj he9);rw[this]at hlk8;cases hlk8;rfl
    subst e89;obtain⟨x1,hx1,hxd⟩:=t.get he9;obtain⟨p1,p2,_⟩:=Kd.parts_ok hW.good hf hk (ι hf1);have so5:jJ (offs [p] H) (offs [p] H5):=xV fun b o nb e=>fr5 b o (fun z=>by
     rcases Ξ.mp z with z|z
     ·exact nb (by rw[z];exact ο.mpr rfl)
     rcases Ξ.mp z with z|z
     ·rw[z,hlf]at e;cases e
     ·rw[ο.mp z,hD0]at e;cases e) (g12 _ _ e)
    have hD5:H5 D=some (.dK (kz ks vs)):=b5 _ _ nDl (d4.2 _ _ nDp (g3 _ _ hD'));have htr5:Trs true K H5 vs es gs:=by
     have h4:=(htr.same g3).fr (frp d4) (mup hp3) (fun b hb z=>by
      obtain⟨u,v,w',e⟩:=hst2;have:=hnew b hb;rw[ο.mp z,e]at this;cases this)
     rw[←e5];exact h4.put (nlf hnew).1 (.inl ⟨_,hlf4⟩)
    refine⟨_,rfl,_,rfl,_,rfl,a,x1,rfl,(by rw[←mJ hn l hj hx1];exact zD.k (k:=.inr fk) h5a),p,x1,fd,S,d1,e9,r,rfl,rfl,hst5,p1,p2,hW,hxd.same so5,hcd,fun v e6 g6 H6 d6 h6 hr6 hn6=>?_⟩;have hD6:=d6.2 _ _ nDp hD5;have hkl:(ks.length:Nat)<6:=by rw[Γ]at hpl;omega
    refine⟨_,rfl,_,rfl,D,_,rfl,wX.k (k:=ol fk) hD6 (by rw[yX lk];exact vh hkl (by decide)),?_⟩;have nk:fk∉ks:=by
     have hnn:=hpm.symm.nodup hn;exact fun z=>(tx.mp hnn).2.2 _ z _ (ι hy) rfl
    have ep:putK (kz ks vs) (.inr fk) v=kz (ks++[fk]) (vs++[v]):=by
     rw[show kz (ks++[fk]) (vs++[v])=kz ks vs++[((.inr fk:Key),v)] from List.zipWith_append lk];refine lM fun y hy z=>nk ?_;have h1:y.1∈(kz ks vs).map (·.1):=iw.mpr ⟨y,hy,rfl⟩;rw[cD lk,z]at h1;obtain⟨w',hw',ew⟩:=iw.mp h1;cases ew;exact hw'
    rw[ep];generalize e7:upd H6 D _=H7;obtain⟨b7,k7⟩:=xS e7;have nD6:D∉g6:=fun z=>by have:=hn6 D z;rw[hD5]at this;cases this
    have nl6:lf∉g6:=fun z=>by have:=hn6 lf z;rw[k5]at this;cases this
    have k57:H7 lf=_:=b7 _ _ (lm nDl) (d6.2 _ _ nlp k5);have er:(List.map V.str (y0::left)).eraseIdx c=((y0::left).eraseIdx c).map V.str:=tI _ _ _;rw[er]at k57;have ls:((y0::left).eraseIdx c).length=left.length:=by rw[List.length_eraseIdx_of_lt hc4'];rfl
    have fr7:Fr [p,lf,D] H2 H7:=fun b o nb e=>b7 _ _ (fun z=>nb (by rw[z];simp)) (d6.2 _ _ (fun z=>nb (by rw[z];simp)) (fr5 b o nb e));have hst7:St3 H7 p:=by obtain⟨u,v,w',e⟩:=d6.1;exact⟨u,v,w',b7 _ _ (lm nDp) e⟩
    have np6:∀b∈gs,b∉[p]:=fun b hb z=>by
     obtain⟨u,v,w',e⟩:=hst2;have:=hnew b hb;rw[ο.mp z,e]at this;cases this
    have htr7:Trs true K H7 (vs++[v]) (es++[e6]) (gs++g6):=by
     rw[←e7];exact(Trs.snoc h6 (htr5.fr (frp d6) (mup hst5) np6) (hn6.dis htr5.mu)).put (fun z=>(je.mp z).elim (nlf hnew).2 nD6) (.inr ⟨_,hD6⟩)
    have hn7:New H2 g6:=fun b hb=>by
     cases eb:H2 b with
     |none=>rfl
     |some o =>
      have h1:=hn6 b hb
      by_cases z:b∈[p,lf,D]
      ·rcases Ξ.mp z with z|z
       ·obtain⟨u,v,w',e⟩:=hst5;rw[z,e]at h1;cases h1
       rcases Ξ.mp z with z|z
       ·rw[z,k5]at h1;cases h1
       ·rw[ο.mp z,hD5]at h1;cases h1
      ·rw[fr5 b o z eb]at h1;cases h1
    refine⟨⟨(y0::left).eraseIdx c,ks++[fk],vs++[v],es++[e6],gs++g6,_,rfl,fr7,hst7,k57,k7,by rw[ν,ν,lk];rfl,?_,htr7,hnew.app hn7,fun q k e hq he=>?_⟩,?_⟩
    ·refine List.Perm.trans ?_ hpm;rw[jr];refine List.Perm.append_left ks ?_;exact nZ hy
    ·have les:es.length=ks.length:=by rw[lk];exact htr.len.symm
     by_cases hql:q<ks.length
     ·rw[ii hql]at hq;rw[ii (by omega)]at he;exact hrec q k e hq he
     ·have hq':q=ks.length:=by
       have:=(ε.mp hq).1;rw[ν,jt]at this;omega
      subst hq';rw[ic (ξ _),mr]at hq;rw[ic (by omega),les,mr]at he;cases hq;cases he;exact⟨jf,d1,fd,hf1,hd1,hr6⟩
    ·show(match H7 lf with|some (.lst ys)=>ys.length|_=>0)<(match H' lf with|some (.lst ys)=>ys.length|_=>0);rw[k57,hlf'];show(List.map V.str _).length<(List.map V.str _).length;rw[δ,δ,ls,Γ];omega
  ·intro σ H' Q' Q'' hq h9;obtain⟨v,hv,hz,h9⟩:=h9;refine⟨v,hv,hz,fun p9 hp9=>?_⟩;obtain⟨a1,b1,xs1,h1,h2,h3,h4,k9,h5,h6⟩:=h9 p9 hp9;exact⟨a1,b1,xs1,h1,h2,h3,h4,k9,h5,hq _ _ h6⟩
theorem oT{k r:Nat}(F:Fun K "main" "Shapes.main" aG f fd):j1 ["self"] (spMn Vf K):=by
 w_cond oP;obtain⟨o,dx,t,sa,i,s,rfl,h1,h2,h3,h4,q⟩:=h;refine⟨_,(jC (jI (jG jQ (kP (pv 0) rfl) (eB zS jD)))),?_⟩;exact⟨_,rfl,o,Vf,_,_,_,rfl,h1,Uf.cl,Uf.nd,rfl,_,rfl,t,_,_,_,rfl,rfl,h2,aOm h3 h4,q⟩
theorem aBo(F:Fun K "_law_deed" "_law_deed" fU f fd)(fj:j4 "_law_steps" (aLg K))(gr:j4 "_law_led" (aLa K))(gc:j4 "_law_walk" (aMe K))(ba:j4 "_law_kind_right" (aEk (j8 0) K))(bp:j4 "kind_at" (tS (j8 0) K))(bo:j4 "_law_whole" aIe)(gf:j4 "which_at" (aMj (j8 0) K r))(de:j4 "look_at" (aMp (j8 0) K r))(dz:j4 "_law_number" aLz)(ed:j4 "stored" (aLt (j8 0) K r))(ay:j4 "is_record" (tY (j8 0) K r))(bq:j4 "_law_put" (tL K (r+1)))(aq:j4 "_law_spoilt" (aGq K (r+1))):j1 ["_law_box_here","_law_shape","_law_shapes_here","_law_main","_law_record"] (aLi (j8 0) K r):=by
 w_cond vF;obtain⟨p,s,sl,tm,x,i,sa,S,d,e,fs,rfl,hr9,hi,hst,e0,hsw,hlx,hlk,hW,h64,hx,hR,q⟩:=h;refine⟨_,(jE (jR 5 vF.nd (jF fj hr (jA (pv 0) (jA (pv 3) (jA (pv 2) (jA (pv 4) (jA cO jB qE) qJ) qJ) qJ) qJ))) (jE (jR 6 vF.nd (jF gr hr (jA (pv 3) (jA (pv 2) (jA (pv 5) jB))))) (jE (jR 7 vF.nd (jG jQ (jF gc hr (jA (pv 3) (jA (pv 2) (jA (pv 4) (jA (pv 5) jB))))) jD)) (jE (jR 8 vF.nd (jN (bN (K:=K) rfl hr.gd hr.units) rfl M.repr (show oe "repr" = some (.builtin "repr") from by ac_rfl) (jA (pv 4) jB))) (jE (jV (vL (kR (jF ba hr (jA (jF bp hr (jA (pv 1) (jA (pv 5) jB))) (jA (pv 6) (jA (pv 2) jB)))))) (jC (jI vA)) jL) (jE (jV (jP kS (jG jQ (pv 6) jD) jO) (jE (jR 9 vF.nd (jF gf hr (jA (pv 1) (jA (pv 4) (jA (pv 5) jB))))) (jE (jV (PW.pt (yP (vL (kR (jF bo hr (jA (pv 9) jB)))) (yP (jP yB (pv 9) (jG jQ (pv 7) jD)) (yA (jP yB (jN (bN (K:=K) rfl hr.gd hr.units) rfl M.repr (show oe "repr" = some (.builtin "repr") from by ac_rfl) (jA (pv 4) jB)) (pv 8)))))) (jC (jI vA)) jL) (jC (jI (pv 4))))) jL) (jE (jR 9 vF.nd (jF de hr (jA (pv 1) (jA (pv 4) (jA (pv 5) jB))))) (jE (jR 10 vF.nd (jF dz hr (jA (pv 0) (jA (jG jQ (pv 6) jD) jB)))) (jE (jR 11 vF.nd (jW xO (pv 10) (jW uJ jD (jW yF jD (jG jQ (pv 6) jD))))) (jE (jR 12 vF.nd (jF ed hr (jA (pv 1) (jA (pv 4) (jA (pv 5) (jA (pv 10) jB)))))) (jE (jV (PW.pt (yP (vL (kR (jF bo hr (jA (pv 9) jB)))) (yP (jP yB (pv 9) (pv 7)) (yP (jP yB (jN (bN (K:=K) rfl hr.gd hr.units) rfl M.repr (show oe "repr" = some (.builtin "repr") from by ac_rfl) (jA (pv 4) jB)) (pv 8)) (yA (vL (kR (jF ay hr (jA (pv 1) (jA (pv 12) jB)))))))))) (jC (jI vA)) jL) (jE (jV (PW.pt (yP (jP (aOd hr.units) (pv 12) (jF bq hr (jA (pv 3) (jA (pv 2) (jA (pv 4) (jA (pv 5) (jA (pv 11) jB qJ) qJ) qJ) qJ) qJ))) (yA (jP yB (jF de hr (jA (pv 1) (jA (pv 12) (jA (pv 5) jB)))) (pv 11))))) (jC (jI vA)) jL) (jE (vM (jF aq hr (jA (jF ed hr (jA (pv 1) (jA (pv 4) (jA (pv 5) (jA (pv 10) jB))))) jB))) (jE (jV (jP yB (jN (bN (K:=K) rfl hr.gd hr.units) rfl M.repr (show oe "repr" = some (.builtin "repr") from by ac_rfl) (jA (pv 4) jB)) (pv 8)) (jC (jI vA)) jL) (jC (jI (pv 12))))))))))))))))),?_⟩;have mp:p∈[p]:=ο.mpr rfl;have hil:i<S.length:=by rw[←hsw.1];exact(ε.mp e0).1
 have hrk:(Kd.nest i).Rk r:=hi;have hfit:(Kd.nest i).Fit S.length:=hil;have hT:=aA hW.good hW.fnd hfit hrk hR;obtain⟨w1,w2,w3⟩:=shw15 hW hfit hrk hr9 h64 hR;refine⟨_,rfl,_,rfl,_,rfl,_,rfl,p,tm,sl,x,.nest i,S,d,e,r,rfl,by omega,hst,hlk,hlx,hW,hfit,hrk,hR,hx.dt,fun t ws k' e' H1 D1 ht hp hk=>?_⟩;obtain⟨n',d',hn',hf',hk',hr'⟩:=hp.rec' hW.good hW.fnd hfit hrk hR;have g1:=D1.offs mp;have st1:=D1.1;have swB:=hsw.same g1;have lxB:=hlx.same g1;have lkB:=hlk.same g1;have txB:=hx.same g1;have al:Al [p] H1:=fun b hb=>by rw[ο.mp hb];exact dG st1
 have hm:k'.isMany=false:=by rcases hk with⟨w,rfl⟩|⟨is,rfl⟩ <;> rfl
 refine⟨_,rfl,_,rfl,_,rfl,tm,sl,t,ws,.nest i,k',S,[p],rfl,al,jM.tp ht,hp.kp,hfit,lkB,lxB,hW,fun kb H2 g2 hkb=>?_⟩;have s2:jJ (offs [p] H1) H2:=jM.trans g2;refine⟨_,rfl,_,rfl,_,rfl,_,rfl,tm,sl,t,x,ws,.nest i,k',e,e',S,rfl,s2.tp ht,hp,hfit,lkB.same s2,lxB.same s2,hW,(txB.same s2).dt,fun pw y H3 g3 hpw hy=>⟨pw,_,_,_,rfl,rfl,hpw,rfl,?_⟩⟩;have s3:=s2.trans g3;refine⟨_,rfl,x,e,rfl,.inr (.inl (txB.same s3).dt),w1,w2,w3,?_⟩;refine⟨_,rfl,_,rfl,s,t,i,k',ws,sa,S,rfl,e0,s3.tp ht,hp.kp,swB.same s3,hW,fun b H4 g4 hb=>?_⟩;have s4:=s3.trans g4;have hkB:LK K H4 kb k':=(hkb.same jM).same (g3.trans g4);refine⟨_,rfl,_,rfl,b,kb,sl,k',sa,S,rfl,hm,hf',hb,hkB,swB.same s4,lxB.same s4,hW,fun H5 g5=>⟨_,rfl,jU ?_⟩⟩;have s5:=s4.trans g5;have hk5:=hkB.same g5;have g15:jJ H1 H5:=g2.trans (g3.trans (g4.trans g5));have st5:St3 H5 p:=jJ.st3 g15 st1;have y5:=hy.same (g4.trans g5);have ask:∀{H':Hp},jJ (offs [p] H1) H'->Ask _ K H' r s x t i sa S d e ws k' e':=fun g=>⟨e0,hi,swB.same g,hW,⟨_,txB.same g⟩,hR,g.tp ht,hp⟩;rcases hk with⟨w,rfl⟩|⟨is,rfl⟩
 ·obtain⟨v,_,rfl,hv⟩ : ∃v:Nat,d'=.int v/\e'=.int v/\v<256 ^ w:=by cases n' <;> exact hr'
  cases hk5 with
  | @num _ _ h1 =>
  obtain rfl:=y5.intI;have hw4:w<=4:=hf'.2;refine⟨_,rfl,kb,_,_,_,rfl,rfl,h1,rfl,rfl,_,rfl,jU ?_⟩;refine⟨_,rfl,_,rfl,_,rfl,s,t,x,i,sa,S,d,e,ws,w,_,rfl,ask s5,fun H6 g6=>?_⟩;refine⟨_,rfl,_,rfl,kb,_,_,_,rfl,rfl,g6.tp h1,rfl,p,w,rfl,hw4,jJ.st3 g6 st5,fun u H7 d7=>?_⟩;have h17:=Drawn.tup (jJ.st3 g6 st5) d7 (g6.tp h1);have e9:∀w:Fin 5,(1:Int)*2 ^ (8*((w.val:Nat):Int)).toNat=((256 ^ w.val:Nat):Int):=by decide
  have e9':=e9 ⟨w,by omega⟩;have hm0:(0:Int)<((256 ^ w:Nat):Int):=by have:=Nat.pow_pos (n:=w) (show 0<256 by decide);omega
  obtain⟨kw,ek,hkw⟩ : ∃kw:Nat,u % ((256 ^ w:Nat):Int)=(kw:Int)/\kw<256 ^ w:=by
   have a1:=Int.emod_nonneg u (show((256 ^ w:Nat):Int)≠0 by omega);have a2:=Int.emod_lt_of_pos u hm0;exact⟨(u % ((256 ^ w:Nat):Int)).toNat,by omega,by omega⟩
  refine⟨_,rfl,_,rfl,kb,_,_,_,rfl,rfl,h17,rfl,_,_,rfl,rfl,.inl ⟨by omega,by omega⟩,_,_,rfl,rfl,⟨by omega,by omega,by decide⟩,_,_,rfl,rfl,by rw[show(1:Int)*2 ^ (8*((w:Nat):Int)).toNat=((256 ^ w:Nat):Int) from e9'];exact hm0,?_⟩;rw[show(1:Int)*2 ^ (8*((w:Nat):Int)).toNat=((256 ^ w:Nat):Int) from e9',ek];have D17:Drawn p H1 H7:=((Drawn.refl st1).keep (g15.trans g6)).trans d7;have s7:jJ (offs [p] H1) H7:=(D17.offs mp).trans jM;refine⟨_,rfl,_,rfl,_,rfl,_,rfl,s,t,x,i,sa,S,d,e,ws,w,_,u,rfl,ask s7,hw4,fun z e2 gs H8 g8 hn8 ht8 hp8=>?_⟩;rw[ek]at hp8;obtain⟨d2,hR2⟩:=hp.put hW.fnd (aNl hkw) hR hp8;have s8:=s7.trans g8;refine⟨_,rfl,_,rfl,_,rfl,qO π ⟨_,rfl,_,rfl,rfl,_,rfl,qO (by simp) ⟨_,rfl,x,e,rfl,.inr (.inl (txB.same s8).dt),w1,w2,w3,_,rfl,rfl,_,rfl,qO (by simp) ⟨_,rfl,_,rfl,s,z,i,sa,S,d2,e2,rfl,e0,hi,swB.same s8,hW,ht8.dt,hR2,fun H9 g9=>⟨_,rfl,jU ?_⟩⟩⟩⟩⟩;have s9:=s8.trans g9;refine⟨_,rfl,_,rfl,_,rfl,_,rfl,_,rfl,_,rfl,tm,sl,t,x,ws,.nest i,.num w,e,_,S,kw,r,r,[],rfl,by omega,rfl,fQ,s9.tp ht,hp,hT,hfit,lkB.same s9,lxB.same s9,hW,by rw[qH];exact(txB.same s9).dt,fun y2 e3 H10 g10 hy2 hp2=>?_⟩;obtain rfl:=hp8.det hp2;rw[qH]at hy2;have hT2:=aA hW.good hW.fnd hfit hrk hR2;have s10:=s9.trans g10;have t10:=ht8.same (g9.trans g10);refine ne9 hR2 (iq (aNo hT2) (by omega)) t10.dt hy2 ⟨_,rfl,jU ?_⟩;refine⟨_,rfl,_,rfl,_,rfl,s,t,z,i,sa,S,d2,e2,ws,w,_,rfl,⟨e0,hi,swB.same s10,hW,⟨_,t10.any⟩,hR2,s10.tp ht,hp.of_put hp8⟩,fun H11 g11=>⟨_,rfl,rfl,_,rfl,qO (by simp) ?_⟩⟩;have s11:=s10.trans g11;refine⟨_,rfl,_,rfl,_,rfl,_,rfl,s,t,x,i,sa,S,d,e,ws,w,_,u,rfl,ask s11,hw4,fun z3 e4 gs3 H12 g12 hn12 ht12 hp12=>?_⟩;rw[ek]at hp12;obtain rfl:=hp8.det hp12;refine⟨z3,e2,gs3,r,rfl,rfl,hT2,ht12,fun H13 f13=>?_⟩;have g13:jJ H11 H13:=Fr.same g12 f13 hn12;have s13:=s11.trans g13;have g8d:jJ H7 H13:=g8.trans (g9.trans (g10.trans (g11.trans g13)));have D13:Drawn p H H13:=(D1.trans D17).keep g8d;exact⟨_,rfl,x,e,rfl,.inr (.inl (txB.same s13).dt),w1,w2,w3,_,rfl,rfl,_,rfl,qO (by simp) ⟨_,rfl,q z d2 e2 gs H13 D13 (Tr.off1 D13.1 (ht8.same (g9.trans (g10.trans (g11.trans g13)))).any (aFo d7.1 hn8)) hR2⟩⟩
 ·cases n' with
  |zero=>exact hr'.elim
  |succ n' =>
  obtain⟨j,i',a0,b0,_,_,rfl,_⟩:=hr';cases hk5 with
  | @pick _ l _ h1 h2 =>
  obtain⟨ax,x1,rfl,hx1,_⟩:=y5.pickI;refine⟨_,rfl,kb,_,_,_,rfl,rfl,h1,rfl,rfl,_,rfl,kO ?_⟩;refine⟨_,rfl,_,rfl,_,rfl,s,t,x,i,sa,S,d,e,ws,is,_,_,rfl,ask s5,fun H6 g6=>?_⟩;exact⟨_,rfl,_,rfl,_,rfl,qO π ⟨_,rfl,_,rfl,ax,_,_,_,rfl,rfl,g6.tp hx1,rfl,rfl,_,rfl,qO (by simp) ⟨_,rfl,x,e,rfl,.inr (.inl (txB.same (s5.trans g6)).dt),w1,w2,w3,_,rfl,rfl,_,rfl,qO (by simp) ⟨_,rfl,q x d e fs H6 (D1.keep (g15.trans g6)) (txB.same (jZ (g15.trans g6))) hR⟩⟩⟩⟩
theorem aQv{k r:Nat}(hR : 12<=r/\8*r<=200)(F:Fun K "law" "law" aJs f fd)(gi:j4 "_law_cell" (aLl K))(gu:j4 "_law_box" aPh)(eh:j4 "_law_shapes" (spSh K r))(gj:j4 "_law_text" (spTx K))(dm:j4 "read_shapes" (spRd (j8 0) Vf K r))(aa:j4 "_law_take" aQ)(aw:j4 "_law_drawn" (tN K 10))(be:j4 "_law_twin" (aHi K 10))(az:j4 "_law_mixed" (tZ K 10))(ci:j6 Vf "main" (spMn Vf K))(gk:j4 "_law_deed" (aLi (j8 0) K 9))(bp:j4 "kind_at" (tS (j8 0) K))(ba:j4 "_law_kind_right" (aEk (j8 0) K)):j1 ["_law_script"] (aHq K):=by
 w_cond zI;obtain⟨a,ns,rfl,hS,hlen,q⟩:=h;refine⟨_,(jE (qZ iy rfl (vI rfl M.range (jA (jN (sX rfl) rfl M.max boot_max (jA jD (jA (jN (tJ rfl) rfl M.min boot_min (jA (jN kI rfl M.len jh (jA (pv 0) jB)) (jA jD jB))) jB))) jB)) (kN 1 zI.nd) (jE (jR 2 zI.nd (jF gu hr (jA (jF gi hr (jA (pv 0) (jA (pv 1) jB))) jB))) (jE (jR 3 zI.nd (jF eh hr (jA (pv 2) (jA jD jB)))) (jE (jR 4 zI.nd (jF dm hr (jA (jF gj hr (jA (pv 3) jB)) jB))) (jE (jR 5 zI.nd (kQ (jA jO (jA (jW yR (jN kI rfl M.len jh (jA (pv 3) jB)) jD) jB)))) (jE (jR 6 zI.nd (jF aw hr (jA (pv 2) (jA (pv 5) (jA (pv 3) jB))))) (jE (jV (jP kS (jF aa hr (jA (pv 2) (jA jD jB))) jD) (jC (jR 6 zI.nd (jF be hr (jA (pv 6) jB)))) jL) (jE (qZ iy rfl (vI rfl M.range (jA jD jB)) (kN 7 zI.nd) (jE (jV (jP kS (jW xO (pv 7) jD) jD) (jC (jR 6 zI.nd (jF az hr (jA (pv 2) (jA (pv 6) jB))))) jL) (jE (jR 6 zI.nd (jF gk hr (jA (pv 2) (jA (xZ (pv 4) Uf.cl ci hr qR) (jA (pv 3) (jA (pv 5) (jA (pv 6) jB qJ) qJ) qJ) nV) qJ))) (jC (jV (jP aFf (pv 6) vA) (jC (jI cO)) jL))))) (jC (jV (vL (kR (jF ba hr (jA (jF bp hr (jA (xZ (pv 4) Uf.cl ci hr qR) (jA (kQ jB) jB))) (jA (pv 5) (jA (pv 3) jB)))))) (jC (jI cO)) jL)))))))))) (jC (jI cO))),?_⟩;have hl:(ns.map V.int).length=ns.length:=δ _;refine⟨_,rfl,a,_,rfl,.inl hS,_,_,rfl,_,_,rfl,_,rfl,?_,?_,?_⟩
 ·rw[hl];split <;> split <;> omega
 ·rw[hl];split <;> split <;> omega
 refine bA (fun i σ H'=>∃o1 o2 o3 o4 o5 o6 o7,σ = [some (.ref a),o1,o2,o3,o4,o5,o6,o7]/\jJ H H') ⟨_,_,_,_,_,_,_,rfl,jJ.refl _⟩ (fun i σ H' hi z=>?_) (fun σ H' z=>q H');obtain⟨o1,o2,o3,o4,o5,o6,o7,rfl,g⟩:=z;have hi12:i<12:=by
  refine ω hi ?_;rw[hl];split <;> split <;> omega
 refine⟨_,rfl,_,rfl,a,ns,_,rfl,g.seq hS,by omega,by omega,fun v=>⟨v,rfl,fun p H1 hp d1=>?_⟩⟩;refine⟨_,rfl,p,rfl,d1.1,hR.1,hR.2,fun l S H2 d2 hl2 lx hW hne hcl=>?_⟩;refine⟨_,rfl,l,S,rfl,lx.same jM,hW,hne,fun H3 g3=>⟨S,rfl,hW,hne,hR.1,hR.2,fun ra dx t sa H4 g4 kr kt sw=>?_⟩⟩;have D4:Drawn p H' H4:=(d1.trans d2).keep (g3.trans g4);obtain⟨y1,y2,y3,hp4⟩:=D4.1;have pm:p∈[p]:=ο.mpr rfl;have off:∀{b:Addr}{o:HO},b≠p->H4 b=some o->offs [p] H4 b=some o:=fun n e=>qI (fun z=>n (ο.mp z)) e;have swO:SW (j8 0) K (offs [p] H4) sa S:=sw.but (l:=p) (fun b o n e=>off n e) hp4;have krO:=off (fun z=>by rw[z,hp4]at kr;cases kr) kr;have ktO:=aKu D4.1 kt;have lxO:=lx.same (jZ (xs:=[p]) (g3.trans g4));obtain⟨as,ha4,hLW4⟩:=id lxO;obtain⟨n,hn⟩ : ∃n,S.length=n+1:=⟨S.length-1,by have:=rg.mpr hne;omega⟩;have hn3:n<=3:=by have:=hW.len;omega
 have zl:(as.map V.ref).length=n+1:=by rw[δ,hLW4.len,hn]
 have hsl:sa.length=n+1:=by rw[sw.1,hn]
 obtain⟨s,hsa⟩ : ∃s,sa[n]?=some s:=⟨_,ζ (by omega)⟩;have hil:n<S.length:=by omega
 have hSn:S[n]?=some S[n]:=ζ hil;have hrk:(Kd.nest n).Rk 9:=by show 2*n+2<=9;omega
 refine⟨_,rfl,l,_,rfl,.inl (jM.seq ha4),_,_,rfl,rfl,xT,fun tm htm=>?_⟩;clear 1 tm H5 g5 k5 htm;rw[zl]at k5
 (try dsimp only at k5)
 rw[show((n+1:Nat):Int)-1=n by omega]at k5;have st5:=jJ.st3 g5 D4.1;have o5':=jZ (xs:=[p]) g5;have D5:=D4.keep g5;have lk5:LK K (offs [p] H5) tm (.nest n):=.nest (aKu st5 (SqT.of k5));have lx5:=lxO.same o5';have sw5:=swO.same o5';have kr5:=o5' _ _ krO;have kt5:=o5'.tp ktO;clear o5' lxO swO krO ktO lx sw kr kt off hLW4 ha4;refine⟨_,rfl,_,rfl,_,rfl,p,tm,l,.nest n,S,9,[p],rfl,rfl,st5,pm,(fun b hb=>by rw[ο.mp hb];exact dG st5),hrk,hil,lk5,lx5,hW,fun x d fs H6 d6 tr6 cn6 nw6=>?_⟩;have hR6:=nO cn6;dsimp only[yC];refine aGc (fun σ' H'=>∃x d e fs,σ'=[some (.ref a),some (.int (0+(i:Int))),some (.ref p),some (.ref l),some (.ref ra),some (.ref tm),some x,o7]/\Drawn p H5 H'/\Tr false K (offs [p] H') x e fs/\Rec S 9 (.nest n) d e) (fun σ' H7 z=>?_) (fun nx hnx=>?_)
 case refine_2 =>
  refine⟨_,rfl,p,3,rfl,by decide,by decide,d6.1,fun j7 H7 hj7 d7=>⟨rfl,_,rfl,xG (fun c=>?_) (fun c=>hnx _ _ ⟨x,d,d,fs,rfl,d6.trans d7,(tr6.same (d7.offs pm)).any,hR6⟩)⟩⟩;have t7:=(tr6.same (d7.offs pm)).same (jM (xs:=[p]) (H:=H7));refine⟨_,rfl,x,d,fs,9,rfl,rfl,aA hW.good hW.fnd (k:=.nest n) hil hrk hR6,t7,fun v gs H8 g8 nw8 tr8=>hnx _ _ ⟨v,_,_,gs,rfl,(d6.trans d7).keep g8,?_,aOy hR6⟩⟩;exact Tr.off1 (jJ.st3 g8 d7.1) tr8 (aFo d7.1 nw8)
 obtain⟨x7,d7,e7,fs7,rfl,D7,t7,hR7⟩:=z;refine⟨12,rfl,by decide,by decide,bA (n:=12) (fun j σ H'=>∃x d e fs o7,σ = [some (.ref a),some (.int (0+(i:Int))),some (.ref p),some (.ref l),some (.ref ra),some (.ref tm),some x,o7]/\Drawn p H5 H'/\Tr false K (offs [p] H') x e fs/\Rec S 9 (.nest n) d e) ⟨_,_,_,_,_,rfl,D7,t7,hR7⟩ (fun j σ H8 hj z=>?_) (fun σ H8 z=>?_)⟩
 ·obtain⟨x8,d8,e8,fs8,o8,rfl,D8,t8,hR8⟩:=z;dsimp only[yC];refine aGc (fun σ' H'=>∃x d e fs,σ'=[some (.ref a),some (.int (0+(i:Int))),some (.ref p),some (.ref l),some (.ref ra),some (.ref tm),some x,some (.int (0+(j:Int)))]/\Drawn p H5 H'/\Tr false K (offs [p] H') x e fs/\Rec S 9 (.nest n) d e) (fun σ' H9 z=>?_) (fun nx hnx=>?_)
  case refine_2 =>
   refine⟨_,rfl,_,_,rfl,rfl,(by show(0:Int)<3;decide),rfl,_,rfl,xG (fun c=>?_) (fun c=>hnx _ _ ⟨x8,d8,e8,fs8,rfl,D8,t8,hR8⟩)⟩;refine⟨_,rfl,_,rfl,p,x8,.nest n,S,d8,e8,9,rfl,rfl,D8.1,hrk,hil,hW,t8.dt,hR8,fun v e2 fs2 H9 d9 tr9 hR9 nw9=>hnx _ _ ⟨v,_,_,fs2,rfl,D8.trans d9,?_,hR9⟩⟩;exact Tr.off1 d9.1 tr9.any (aFo D8.1 nw9)
  obtain⟨x9,d9,e9,fs9,rfl,D9,t9,hR9⟩:=z;have s9:=D9.offs pm;have kr9:=jM _ _ (s9 _ _ kr5);have kt9:=jM.tp (s9.tp kt5);exact⟨_,rfl,_,rfl,ra,dx,_,rfl,kr9,rfl,ra,dx,t,sa,n,s,rfl,kr9,kt9,hsl,hsa,_,rfl,_,rfl,_,rfl,p,s,l,tm,x9,n,sa,S,d9,e9,fs9,rfl,by decide,hrk,D9.1,hsa,sw5.same s9,lx5.same s9,lk5.same s9,hW,(hW.bd n _ hSn).1,t9,hR9,fun v d' e' fs' HA dA trA hRA=>⟨_,rfl,rfl,_,rfl,qO (by obtain⟨ks,es,rfl,l9⟩:=aHd hRA;obtain⟨a9,xs9,rfl,_⟩:=sY trA.dt l9;simp) ⟨v,d',e',fs',_,rfl,D9.trans dA,trA,hRA⟩⟩⟩
 ·obtain⟨x8,d8,e8,fs8,o8,rfl,D8,t8,hR8⟩:=z;have s8:=D8.offs pm;have kr8:=jM _ _ (s8 _ _ kr5);have kt8:=jM.tp (s8.tp kt5);refine⟨_,rfl,ra,dx,_,rfl,kr8,rfl,ra,dx,t,sa,n,s,rfl,kr8,kt8,hsl,hsa,lZ,fun tz htz=>?_⟩;clear 1 tz HA gA kA htz;have sA:jJ (offs [p] H5) HA:=(s8.trans jM).trans gA;refine⟨s,tz,n,.nest n,[],sa,S,rfl,hsa,SqT.of kA,rfl,sw5.same sA,hW,fun b HB gB hb=>⟨_,rfl,_,rfl,b,tm,l,.nest n,sa,S,rfl,rfl,hil,hb,lk5.same (sA.trans gB),sw5.same (sA.trans gB),lx5.same (sA.trans gB),hW,fun HC gC=>⟨_,rfl,jU ?_⟩⟩⟩;exact⟨_,_,_,_,_,_,_,rfl,g.trans (((D5.trans D8).keep (gA.trans (gB.trans gC))).same hp)⟩
end
end K15
namespace K15
open PySem L2 PyProof.Rows
local macro_rules | `(tactic| walk_at"b1") => `(tactic| exact fun _ _ _ _ _ _ us hl => by obtain ⟨a0, rfl⟩ := ls1 hl;rfl)
local macro_rules | `(tactic| walk_at"b2") => `(tactic| exact fun _ _ _ _ _ _ us hl => by obtain ⟨a0, a1, rfl⟩ := ls2 hl;rfl)
local macro_rules | `(tactic| walk_at"b3") => `(tactic| exact fun _ _ _ _ _ _ us hl => by obtain ⟨a0, a1, a2, rfl⟩ := ls3 hl;rfl)
local macro_rules | `(tactic| walk_at"b4") => `(tactic| exact fun _ _ _ _ _ _ us hl => by obtain ⟨a0, a1, a2, a3, rfl⟩ := ls4 hl;rfl)
local macro_rules | `(tactic| walk_at"b5") => `(tactic| exact fun _ _ _ _ _ _ us hl => by obtain ⟨a0, a1, a2, a3, a4, rfl⟩ := ls5 hl;rfl)
theorem ls1{us:List Value}(h:us.length=1):∃a0,us=[a0]:=by
 cases us with
 |nil=>cases h
 |cons a0 us =>
  cases us with
  |nil=>exact⟨a0,rfl⟩
  |cons _ us=>simp only[Γ]at h;omega
theorem ls2{us:List Value}(h:us.length=2):∃a0 a1,us=[a0,a1]:=by
 cases us with
 |nil=>cases h
 |cons a0 us =>
  cases us with
  |nil=>cases h
  |cons a1 us =>
   cases us with
   |nil=>exact⟨a0,a1,rfl⟩
   |cons _ us=>simp only[Γ]at h;omega
theorem ls3{us:List Value}(h:us.length=3):∃a0 a1 a2,us=[a0,a1,a2]:=by
 cases us with
 |nil=>cases h
 |cons a0 us =>
  cases us with
  |nil=>cases h
  |cons a1 us =>
   cases us with
   |nil=>cases h
   |cons a2 us =>
    cases us with
    |nil=>exact⟨a0,a1,a2,rfl⟩
    |cons _ us=>simp only[Γ]at h;omega
theorem ls4{us:List Value}(h:us.length=4):∃a0 a1 a2 a3,us=[a0,a1,a2,a3]:=by
 cases us with
 |nil=>cases h
 |cons a0 us =>
  cases us with
  |nil=>cases h
  |cons a1 us =>
   cases us with
   |nil=>cases h
   |cons a2 us =>
    cases us with
    |nil=>cases h
    |cons a3 us =>
     cases us with
     |nil=>exact⟨a0,a1,a2,a3,rfl⟩
     |cons _ us=>simp only[Γ]at h;omega
theorem ls5{us:List Value}(h:us.length=5):∃a0 a1 a2 a3 a4,us=[a0,a1,a2,a3,a4]:=by
 cases us with
 |nil=>cases h
 |cons a0 us =>
  cases us with
  |nil=>cases h
  |cons a1 us =>
   cases us with
   |nil=>cases h
   |cons a2 us =>
    cases us with
    |nil=>cases h
    |cons a3 us =>
     cases us with
     |nil=>cases h
     |cons a4 us =>
      cases us with
      |nil=>exact⟨a0,a1,a2,a3,a4,rfl⟩
      |cons _ us=>simp only[Γ]at h;omega
theorem mO{K:ς}{k:Nat}(h:jY P w K mg base CX j f fd ps sp)(hk:j<=k:=by decide):jY P w K mg base CX k f fd ps sp:=jY.mono h hk
structure FG (K:ς) (n:Str) (s:Stmt) (f:Addr):Prop where
 a:nsIn K ie n=some (some (.ref f))
 l:∃fd,Fun K n n s f fd
structure FM (K:ς) (C:Addr) (n q:Str) (s:Stmt) (f:Addr):Prop where
 a:ql K (.ref C) n=some (some (.ref f))
 i:isFn K (.ref f)=true
 l:∃fd,Fun K n q s f fd
structure CK (K:ς) (n:Str) (C:Addr) (as:List Str):Prop where
 g:nsIn K ie n=some (some (.ref C))
 c:Cls K C
 m:PySem.W.makesIn K C=true
 k:keepIn K (.ref C)=true
 n:∀a∈as,yT K C a
section
variable {K:ς}{h:nc}{mg:Str->Option Value}{n q:Str}{s:Stmt}{f C:Addr}{as:List Str}
theorem FG.o(X:K.In h)(G:h.Ns ie mg)(A:FG K n s f)(ps:List Str)(b:∀(kV doc pm:Value) (an:Option Addr) (cdv ct:Value) (us:List Value),us.length=ps.length->bindArgs (fnOf n n (bW s) (zZ s) (jH s) .none kV doc pm an cdv ct) ⟨us,[]⟩=pure (ps.zip us)):∃fd,Fun K n n s f fd/\Df K mg n f fd ps:=A.l.elim fun fd F=>⟨fd,F,mg_of X G A.a,F.kp,F.binds b⟩
theorem FM.o(A:FM K C n q s f)(ps:List Str)(b:∀(kV doc pm:Value) (an:Option Addr) (cdv ct:Value) (us:List Value),us.length=ps.length->bindArgs (fnOf n q (bW s) (zZ s) (jH s) .none kV doc pm an cdv ct) ⟨us,[]⟩=pure (ps.zip us)):∃fd,Fun K n q s f fd/\DfM K C n f fd ps:=A.l.elim fun fd F=>⟨fd,F,⟨A.a,A.i,F.kp⟩,F.binds b⟩
theorem FM.j(A:FM K C n q s f)(ps:List Str)(b:∀(kV doc pm:Value) (an:Option Addr) (cdv ct:Value) (us:List Value),us.length=ps.length->bindArgs (fnOf n q (bW s) (zZ s) (jH s) .none kV doc pm an cdv ct) ⟨us,[]⟩=pure (ps.zip us)):∃fd,Fun K n q s f fd/\DfI K fd ps:=A.l.elim fun fd F=>⟨fd,F,⟨F.binds b⟩⟩
theorem CK.o(X:K.In h)(G:h.Ns ie mg)(A:CK K n C as)(I:FM K C "__init__" q s f):rO K mg n C f as:=⟨mg_of X G A.g,A.c,⟨A.m,I.a,I.i,A.k⟩,A.n⟩
theorem na0:∀a∈([]:List Str),yT K C a:=fun _ h=>nomatch h
theorem na1(h:ql K (.ref C) n=some none)(r:∀a∈as,yT K C a):∀a∈n::as,yT K C a:=fun a m=>(Ξ.mp m).elim (fun e=>e▸h) (r a)
end
theorem all_mk{l:PySem.W.OpenLaw}{K:ς}{mg:Str->Option Value}(X:K.In h)(G:h.Ns ie mg)(hfa:mg "law" = some (.ref fa)){odt:Option Addr}{slt:Array (Option Value)}
 (cNum:CK K "Num" Va ["width"])
 (cNested:CK K "Nested" Vb ["shape"])
 (cMany:CK K "Many" Vc ["count","kind"])
 (cPick:CK K "Pick" Vd ["shapes"])
 (cShape:CK K "Shape" Ve ["name","fields"])
 (cShapes:CK K "Shapes" Vf ["shapes"])
 (a0:FG K "is_whole" gV f0)
 (a1:FG K "is_count" gL f1)
 (a2:FG K "is_between" bP f2)
 (a3:FG K "is_name" iV f3)
 (a4:FG K "is_text_of" cJ f4)
 (a5:FG K "number_in" dN f5)
 (a6:FG K "bound_of" fF f6)
 (a7:FG K "is_word" lB f7)
 (a8:FG K "joined" oW f8)
 (a9:FM K Vb "units_at" "Kind.units_at" yQ f9)
 (a10:FM K Va "__init__" "Num.__init__" gP f10)
 (a11:FM K Va "word" "Num.word" fW f11)
 (a12:FM K Va "text" "Num.text" fO f12)
 (a13:FM K Va "size" "Num.size" fE f13)
 (a14:FM K Va "depth" "Num.depth" cW f14)
 (a15:FM K Va "led" "Num.led" lF f15)
 (a16:FM K Va "units_at" "Num.units_at" zN f16)
 (a17:FM K Vb "__init__" "Nested.__init__" aP f17)
 (a18:FM K Vb "word" "Nested.word" aU f18)
 (a19:FM K Vb "text" "Nested.text" aH f19)
 (a20:FM K Vb "size" "Nested.size" aN f20)
 (a21:FM K Vb "depth" "Nested.depth" zV f21)
 (a22:FM K Vb "parted" "Nested.parted" yS f22)
 (a23:FM K Vb "led" "Nested.led" bT f23)
 (a24:FM K Vc "__init__" "Many.__init__" eE f24)
 (a25:FM K Vc "size" "Many.size" dF f25)
 (a26:FM K Vc "depth" "Many.depth" bU f26)
 (a27:FM K Vc "parted" "Many.parted" aL f27)
 (a28:FM K Vc "led" "Many.led" fH f28)
 (a29:FM K Vd "__init__" "Pick.__init__" cY f29)
 (a30:FM K Vd "word" "Pick.word" dB f30)
 (a31:FM K Vd "text" "Pick.text" dO f31)
 (a32:FM K Vd "size" "Pick.size" eF f32)
 (a33:FM K Vd "greatest" "Pick.greatest" yV f33)
 (a34:FM K Vd "depth" "Pick.depth" bI f34)
 (a35:FM K Vd "led" "Pick.led" fR f35)
 (a36:FM K Vd "units_at" "Pick.units_at" zA f36)
 (a37:FM K Ve "__init__" "Shape.__init__" bK f37)
 (a38:FM K Ve "size" "Shape.size" cC f38)
 (a39:FM K Ve "depth" "Shape.depth" aI f39)
 (a40:FM K Ve "units" "Shape.units" aM f40)
 (a41:FM K Vf "__init__" "Shapes.__init__" aR f41)
 (a42:FM K Vf "main" "Shapes.main" aG f42)
 (a43:FG K "is_record" dQ f43)
 (a44:FG K "may_have" gR f44)
 (a45:FG K "has_fields" bQ f45)
 (a46:FG K "has_count" dY f46)
 (a47:FG K "is_choice" dR f47)
 (a48:FG K "is_number_of" zP f48)
 (a49:FG K "copied" oQ f49)
 (a50:FG K "kind_at" lC f50)
 (a51:FG K "look_at" lQ f51)
 (a52:FG K "which_at" gO f52)
 (a53:FG K "stored" oM f53)
 (a54:FG K "found_at" fJ f54)
 (a55:FG K "asked_kind" bO f55)
 (a56:FG K "reached" lK f56)
 (a57:FG K "stepped" lX f57)
 (a58:FG K "need_chosen" aE f58)
 (a59:FG K "need_element" zQ f59)
 (a60:FG K "replaced" fP f60)
 (a61:FG K "read_shapes" aF f61)
 (a62:FG K "is_shape_line" yY f62)
 (a63:FG K "is_field_line" yZ f63)
 (a64:FG K "is_kind" mF f64)
 (a65:FG K "is_single" dZ f65)
 (a66:FG K "need_new_shape" yH f66)
 (a67:FG K "need_field" cI f67)
 (a68:FG K "shapes_named" zL f68)
 (a69:FG K "whole_shapes" zM f69)
 (a70:FG K "with_field" cG f70)
 (a71:FG K "kind_in" iW f71)
 (a72:FG K "is_too_much" aT f72)
 (a73:FG K "_law_cell" gW f73)
 (a74:FG K "_law_box" lU f74)
 (a75:FG K "_law_take" fS f75)
 (a76:FG K "_law_names" cZ f76)
 (a77:FG K "_law_size" gT f77)
 (a78:FG K "_law_units" dJ f78)
 (a79:FG K "_law_joined" bG f79)
 (a80:FG K "_law_depth" cX f80)
 (a81:FG K "_law_kind" fN f81)
 (a82:FG K "_law_fits" fV f82)
 (a83:FG K "_law_shapes" cM f83)
 (a84:FG K "_law_kind_text" yU f84)
 (a85:FG K "_law_text" fM f85)
 (a86:FG K "_law_whole" dX f86)
 (a87:FG K "_law_word" gQ f87)
 (a88:FG K "_law_drawn" dD f88)
 (a89:FG K "_law_behind" bM f89)
 (a90:FG K "_law_led" iY f90)
 (a91:FG K "_law_walk" fZ f91)
 (a92:FG K "_law_steps" cT f92)
 (a93:FG K "_law_value" dW f93)
 (a94:FG K "_law_put" lS f94)
 (a95:FG K "_law_number" cH f95)
 (a96:FG K "_law_spoilt" cK f96)
 (a97:FG K "_law_kind_right" yI f97)
 (a98:FG K "_law_mixed" cV f98)
 (a99:FG K "_law_twin" gM f99)
 (a100:FG K "_law_deed" fU f100)
 (a101:FG K "law" aJs f101)
  (z0:nsIn K ie "range" = some none)
  (z1:nsIn K ie "len" = some none)
  (z2:nsIn K ie "isinstance" = some none)
  (z3:nsIn K ie "int" = some none)
  (z4:nsIn K ie "bool" = some none)
  (z5:nsIn K ie "list" = some none)
  (z6:nsIn K ie "all" = some none)
  (z7:nsIn K ie "max" = some none)
  (z8:nsIn K ie "min" = some none)
  (z9:nsIn K ie "reversed" = some none)
  (z10:nsIn K ie "tuple" = some none)
  (z11:nsIn K ie "divmod" = some none)
  (z12:nsIn K ie "str" = some none)
  (z13:nsIn K ie "sum" = some none)
  (z14:nsIn K ie "zip" = some none)
  (z15:nsIn K ie "enumerate" = some none)
  (z16:nsIn K ie "dict" = some none)
  (z17:nsIn K ie "repr" = some none)
  (z18:nsIn K ie "sorted" = some none)
  (v1:nsIn K ie "SMALL_LETTERS" = some (some (.str "abcdefghijklmnopqrstuvwxyz" t1)))(v2:nsIn K ie "FIGURES" = some (some (.str "0123456789" t2)))(v3:nsIn K ie "MOST_LETTERS" = some (some (.int 6 t3)))(v4:nsIn K ie "MOST_FIGURES" = some (some (.int 10 t4)))(v5:nsIn K ie "MOST_SHAPES" = some (some (.int 8 t5)))(v6:nsIn K ie "MOST_FIELDS" = some (some (.int 6 t6)))(v7:nsIn K ie "MOST_CELLS" = some (some (.int 64 t7)))(v8:nsIn K ie "MOST_UNITS" = some (some (.int 40 t8)))(v9:nsIn K ie "MOST_DEPTH" = some (some (.int 4 t9)))(v10:nsIn K ie "MOST_WIDTH" = some (some (.int 4 t10)))(v11:nsIn K ie "MOST_COUNT" = some (some (.int 6 t11)))(v12:nsIn K ie "LEAST_PICKED" = some (some (.int 2 t12)))(v13:nsIn K ie "MOST_PICKED" = some (some (.int 4 t13)))
  (w1:nsIn K ie "OWN_WORDS" = some (some (.ref ts)))(w2:K.lookup ts=some ⟨.type "tuple",odt,.seq #[.str "shape" u0,.str "num" u1,.str "row" u2,.str "pick" u3,.str "tag" u4,.str "room" u5,.str "things" u6,.str "part" u7,.str "tags" u8,.str "put" u9,.str "take" u10,.str "many" u11,.str "look" u12,.str "which" u13,.str "store" u14,.str "choose" u15,.str "copy" u16,.str "each" u17,.str "span" u18,.str "if" u19,.str "else" u20,.str "end" u21,.str "out" u22] nt,slt⟩)
  (w3:ql K (.ref Vc) "units_at" = some (some (.ref f9)))
  (q1:PySem.W.specialIn K (.builtin "object.__class__") "__get__" = some (some (.builtin "getset_descriptor.__get__")))(q2:PySem.W.takesIn K (.builtin "object.__class__")=some true)
  (qc0:ql K (.ref Va) "__class__" = some (some (.builtin "object.__class__")))(qd0:uh K Va (.type "object")=some true)(qn00:jz K (.ref Va) (.ref Va)=some true)(qn01:jz K (.ref Va) (.ref Vb)=some false)(qn02:jz K (.ref Va) (.ref Vc)=some false)(qn03:jz K (.ref Va) (.ref Vd)=some false)
  (qc1:ql K (.ref Vb) "__class__" = some (some (.builtin "object.__class__")))(qd1:uh K Vb (.type "object")=some true)(qn10:jz K (.ref Vb) (.ref Va)=some false)(qn11:jz K (.ref Vb) (.ref Vb)=some true)(qn12:jz K (.ref Vb) (.ref Vc)=some false)(qn13:jz K (.ref Vb) (.ref Vd)=some false)
  (qc2:ql K (.ref Vc) "__class__" = some (some (.builtin "object.__class__")))(qd2:uh K Vc (.type "object")=some true)(qn20:jz K (.ref Vc) (.ref Va)=some false)(qn21:jz K (.ref Vc) (.ref Vb)=some false)(qn22:jz K (.ref Vc) (.ref Vc)=some true)(qn23:jz K (.ref Vc) (.ref Vd)=some false)
  (qc3:ql K (.ref Vd) "__class__" = some (some (.builtin "object.__class__")))(qd3:uh K Vd (.type "object")=some true)(qn30:jz K (.ref Vd) (.ref Va)=some false)(qn31:jz K (.ref Vd) (.ref Vb)=some false)(qn32:jz K (.ref Vd) (.ref Vc)=some false)(qn33:jz K (.ref Vd) (.ref Vd)=some true):
  ∃fd:rj,(∀(s:χ) (v:Value),BindsTo s fd ⟨[v],[]⟩ [("_law_script",v)])/\∀base:nc,K.In base->base.Ns ie mg->jY l.prog w K mg base CX0 86 fa fd ["_law_script"] (aHq K):=by
 have e:=hfa.symm.trans (mg_of X G a101.a);cases e;obtain⟨d101,F101⟩:=a101.l;obtain⟨d0,F0,D0⟩:=a0.o X G ["thing"] (by walk_at"b1");obtain⟨d1,F1,D1⟩:=a1.o X G ["thing"] (by walk_at"b1");obtain⟨d2,F2,D2⟩:=a2.o X G ["thing","low","high"] (by walk_at"b3");obtain⟨d3,F3,D3⟩:=a3.o X G ["thing"] (by walk_at"b1");obtain⟨d4,F4,D4⟩:=a4.o X G ["thing","signs","most"] (by walk_at"b3");obtain⟨d5,F5,D5⟩:=a5.o X G ["text","low","high"] (by walk_at"b3");obtain⟨d6,F6,D6⟩:=a6.o X G ["width"] (by walk_at"b1");obtain⟨d7,F7,D7⟩:=a7.o X G ["thing","width"] (by walk_at"b2");obtain⟨d8,F8,D8⟩:=a8.o X G ["path","step"] (by walk_at"b2");obtain⟨d9,F9,D9⟩:=a9.o ["self","path"] (by walk_at"b2");obtain⟨d10,F10,D10⟩:=a10.j ["self","width"] (by walk_at"b2");obtain⟨d11,F11,D11⟩:=a11.o ["self"] (by walk_at"b1");obtain⟨d12,F12,D12⟩:=a12.o ["self"] (by walk_at"b1");obtain⟨d13,F13,D13⟩:=a13.o ["self"] (by walk_at"b1");obtain⟨d14,F14,D14⟩:=a14.o ["self"] (by walk_at"b1");obtain⟨d15,F15,D15⟩:=a15.o ["self","step"] (by walk_at"b2");obtain⟨d16,F16,D16⟩:=a16.o ["self","path"] (by walk_at"b2");obtain⟨d17,F17,D17⟩:=a17.j ["self","shape"] (by walk_at"b2");obtain⟨d18,F18,D18⟩:=a18.o ["self"] (by walk_at"b1");obtain⟨d19,F19,D19⟩:=a19.o ["self"] (by walk_at"b1");obtain⟨d20,F20,D20⟩:=a20.o ["self"] (by walk_at"b1");obtain⟨d21,F21,D21⟩:=a21.o ["self"] (by walk_at"b1");obtain⟨d22,F22,D22⟩:=a22.o ["self"] (by walk_at"b1");obtain⟨d23,F23,D23⟩:=a23.o ["self","step"] (by walk_at"b2");obtain⟨d24,F24,D24⟩:=a24.j ["self","count","kind"] (by walk_at"b3");obtain⟨d25,F25,D25⟩:=a25.o ["self"] (by walk_at"b1");obtain⟨d26,F26,D26⟩:=a26.o ["self"] (by walk_at"b1");obtain⟨d27,F27,D27⟩:=a27.o ["self"] (by walk_at"b1");obtain⟨d28,F28,D28⟩:=a28.o ["self","step"] (by walk_at"b2");obtain⟨d29,F29,D29⟩:=a29.j ["self","shapes"] (by walk_at"b2");obtain⟨d30,F30,D30⟩:=a30.o ["self"] (by walk_at"b1");obtain⟨d31,F31,D31⟩:=a31.o ["self"] (by walk_at"b1");obtain⟨d32,F32,D32⟩:=a32.o ["self"] (by walk_at"b1");obtain⟨d33,F33,D33⟩:=a33.o ["self"] (by walk_at"b1");obtain⟨d34,F34,D34⟩:=a34.o ["self"] (by walk_at"b1");obtain⟨d35,F35,D35⟩:=a35.o ["self","step"] (by walk_at"b2");obtain⟨d36,F36,D36⟩:=a36.o ["self","path"] (by walk_at"b2");obtain⟨d37,F37,D37⟩:=a37.j ["self","name","fields"] (by walk_at"b3");obtain⟨d38,F38,D38⟩:=a38.o ["self"] (by walk_at"b1");obtain⟨d39,F39,D39⟩:=a39.o ["self"] (by walk_at"b1");obtain⟨d40,F40,D40⟩:=a40.o ["self"] (by walk_at"b1");obtain⟨d41,F41,D41⟩:=a41.j ["self","shapes"] (by walk_at"b2");obtain⟨d42,F42,D42⟩:=a42.o ["self"] (by walk_at"b1");obtain⟨d43,F43,D43⟩:=a43.o X G ["shape","thing"] (by walk_at"b2");obtain⟨d44,F44,D44⟩:=a44.o X G ["kind","thing"] (by walk_at"b2");obtain⟨d45,F45,D45⟩:=a45.o X G ["kind","thing"] (by walk_at"b2");obtain⟨d46,F46,D46⟩:=a46.o X G ["kind","thing"] (by walk_at"b2");obtain⟨d47,F47,D47⟩:=a47.o X G ["kind","thing"] (by walk_at"b2");obtain⟨d48,F48,D48⟩:=a48.o X G ["pick","thing"] (by walk_at"b2");obtain⟨d49,F49,D49⟩:=a49.o X G ["record"] (by walk_at"b1");obtain⟨d50,F50,D50⟩:=a50.o X G ["shape","steps"] (by walk_at"b2");obtain⟨d51,F51,D51⟩:=a51.o X G ["shape","record","steps"] (by walk_at"b3");obtain⟨d52,F52,D52⟩:=a52.o X G ["shape","record","steps"] (by walk_at"b3");obtain⟨d53,F53,D53⟩:=a53.o X G ["shape","record","steps","word"] (by walk_at"b4");obtain⟨d54,F54,D54⟩:=a54.o X G ["shape","record","steps","word"] (by walk_at"b4");obtain⟨d55,F55,D55⟩:=a55.o X G ["shape","steps","word"] (by walk_at"b3");obtain⟨d56,F56,D56⟩:=a56.o X G ["shape","record","steps"] (by walk_at"b3");obtain⟨d57,F57,D57⟩:=a57.o X G ["kind","value","step"] (by walk_at"b3");obtain⟨d58,F58,D58⟩:=a58.o X G ["pick","number","step"] (by walk_at"b3");obtain⟨d59,F59,D59⟩:=a59.o X G ["kind","step"] (by walk_at"b2");obtain⟨d60,F60,D60⟩:=a60.o X G ["shape","record","steps","value"] (by walk_at"b4");obtain⟨d61,F61,D61⟩:=a61.o X G ["text"] (by walk_at"b1");obtain⟨d62,F62,D62⟩:=a62.o X G ["words"] (by walk_at"b1");obtain⟨d63,F63,D63⟩:=a63.o X G ["words"] (by walk_at"b1");obtain⟨d64,F64,D64⟩:=a64.o X G ["words"] (by walk_at"b1");obtain⟨d65,F65,D65⟩:=a65.o X G ["words"] (by walk_at"b1");obtain⟨d66,F66,D66⟩:=a66.o X G ["told","line","name"] (by walk_at"b3");obtain⟨d67,F67,D67⟩:=a67.o X G ["told","line","words"] (by walk_at"b3");obtain⟨d68,F68,D68⟩:=a68.o X G ["words"] (by walk_at"b1");obtain⟨d69,F69,D69⟩:=a69.o X G ["told"] (by walk_at"b1");obtain⟨d70,F70,D70⟩:=a70.o X G ["told","line","words"] (by walk_at"b3");obtain⟨d71,F71,D71⟩:=a71.o X G ["words","shapes"] (by walk_at"b2");obtain⟨d72,F72,D72⟩:=a72.o X G ["shape"] (by walk_at"b1");obtain⟨d73,F73,D73⟩:=a73.o X G ["_law_script","_law_k"] (by walk_at"b2");obtain⟨d74,F74,D74⟩:=a74.o X G ["_law_cell_here"] (by walk_at"b1");obtain⟨d75,F75,D75⟩:=a75.o X G ["_law_box_here","_law_many"] (by walk_at"b2");obtain⟨d76,F76,D76⟩:=a76.o X G ["_law_box_here"] (by walk_at"b1");obtain⟨d77,F77,D77⟩:=a77.o X G ["_law_kind_here","_law_shapes_here"] (by walk_at"b2");obtain⟨d78,F78,D78⟩:=a78.o X G ["_law_kind_here","_law_shapes_here","_law_path"] (by walk_at"b3");obtain⟨d79,F79,D79⟩:=a79.o X G ["_law_path","_law_step"] (by walk_at"b2");obtain⟨d80,F80,D80⟩:=a80.o X G ["_law_kind_here","_law_shapes_here"] (by walk_at"b2");obtain⟨d81,F81,D81⟩:=a81.o X G ["_law_box_here","_law_known"] (by walk_at"b2");obtain⟨d82,F82,D82⟩:=a82.o X G ["_law_shapes_here"] (by walk_at"b1");obtain⟨d83,F83,D83⟩:=a83.o X G ["_law_box_here","_law_most"] (by walk_at"b2");obtain⟨d84,F84,D84⟩:=a84.o X G ["_law_kind_here","_law_shapes_here"] (by walk_at"b2");obtain⟨d85,F85,D85⟩:=a85.o X G ["_law_shapes_here"] (by walk_at"b1");obtain⟨d86,F86,D86⟩:=a86.o X G ["_law_found"] (by walk_at"b1");obtain⟨d87,F87,D87⟩:=a87.o X G ["_law_box_here","_law_width"] (by walk_at"b2");obtain⟨d88,F88,D88⟩:=a88.o X G ["_law_box_here","_law_kind_here","_law_shapes_here"] (by walk_at"b3");obtain⟨d89,F89,D89⟩:=a89.o X G ["_law_kind_here","_law_shapes_here","_law_step"] (by walk_at"b3");obtain⟨d90,F90,D90⟩:=a90.o X G ["_law_kind_here","_law_shapes_here","_law_steps_here"] (by walk_at"b3");obtain⟨d91,F91,D91⟩:=a91.o X G ["_law_kind_here","_law_shapes_here","_law_value_here","_law_steps_here"] (by walk_at"b4");obtain⟨d92,F92,D92⟩:=a92.o X G ["_law_box_here","_law_kind_here","_law_shapes_here","_law_value_here","_law_wild"] (by walk_at"b5");obtain⟨d93,F93,D93⟩:=a93.o X G ["_law_kind_here","_law_shapes_here","_law_value_here","_law_step"] (by walk_at"b4");obtain⟨d94,F94,D94⟩:=a94.o X G ["_law_kind_here","_law_shapes_here","_law_value_here","_law_steps_here","_law_word_here"] (by walk_at"b5");obtain⟨d95,F95,D95⟩:=a95.o X G ["_law_box_here","_law_width"] (by walk_at"b2");obtain⟨d96,F96,D96⟩:=a96.o X G ["_law_thing"] (by walk_at"b1");obtain⟨d97,F97,D97⟩:=a97.o X G ["_law_found","_law_kind_here","_law_shapes_here"] (by walk_at"b3");obtain⟨d98,F98,D98⟩:=a98.o X G ["_law_box_here","_law_thing"] (by walk_at"b2");obtain⟨d99,F99,D99⟩:=a99.o X G ["_law_thing"] (by walk_at"b1");obtain⟨d100,F100,D100⟩:=a100.o X G ["_law_box_here","_law_shape","_law_shapes_here","_law_main","_law_record"] (by walk_at"b5");have Ua:=cNum.o X G a10;have Ub:=cNested.o X G a17;have Uc:=cMany.o X G a24;have Ud:=cPick.o X G a29;have Ue:=cShape.o X G a37;have Uf:=cShapes.o X G a41;have M:Blt mg:=⟨mn X G z0,mn X G z1,mn X G z2,mn X G z3,mn X G z4,mn X G z5,mn X G z6,mn X G z7,mn X G z8,mn X G z9,mn X G z10,mn X G z11,mn X G z12,mn X G z13,mn X G z14,mn X G z15,mn X G z16,mn X G z17,mn X G z18⟩;have C:Cst K mg t1 t2 t3 t4 t5 t6 t7 t8 t9 t10 t11 t12 t13 ts:=⟨mg_of X G v1,mg_of X G v2,mg_of X G v3,mg_of X G v4,mg_of X G v5,mg_of X G v6,mg_of X G v7,mg_of X G v8,mg_of X G v9,mg_of X G v10,mg_of X G v11,mg_of X G v12,mg_of X G v13,mg_of X G w1,fun H=>.inr ⟨_,_,_,w2,rfl,rfl,(by show 23<=τ;decide),(by repeat first|exact .nil|refine .cons ⟨_,rfl⟩ ?_)⟩⟩;have KS:KdS K (Cl5.mk Va Vb Vc Vd Ve):=⟨fun k=>by
  cases k
  ·exact⟨Ua.cl,qc0,q1,q2,qd0⟩
  ·exact⟨Ub.cl,qc1,q1,q2,qd1⟩
  ·exact⟨Uc.cl,qc2,q1,q2,qd2⟩
  ·exact⟨Ud.cl,qc3,q1,q2,qd3⟩
  ,fun k k2=>by cases k <;> cases k2 <;> assumption⟩
 refine⟨d101,fun s v=>(F101.ex.elim fun _ ⟨_,_,_,_,_,_,_,_,e,_⟩=>e▸.of_eq rfl),fun base _ _=>?_⟩;have Z:=ZZ.mk (P:=l.prog) (w:=w) (base:=base) M C Ua Ub Uc Ud Ue Uf;have G0:=(Cal.of D0 (aAn (k:=0) Z F0));have G1:=(Cal.of D1 (aDp (k:=2) Z F1 G0.o));have G2:=(Cal.of D2 (rS (k:=2) Z F2 G0.o));have G4:=(Cal.of D4 (rJ (k:=0) Z F4));have G3:=(Cal.of D3 (aEd (k:=2) Z F3 G4.o));have G5:=(Cal.of D5 (wC (k:=2) Z F5 G4.o));have G8:=(Cal.of D8 (aIs (k:=0) Z F8));have G74:=(Cal.of D74 (aDz (k:=0) Z F74));have G75:=(Cal.of D75 (aAz (k:=0) Z F75));have G73:=(Cal.of D73 (aCz (k:=0) Z F73));have G62:=(Cal.of D62 (mD (k:=4) Z F62 G3.o));have G65:=(Cal.of D65 (uY (k:=4) Z F65 G5.o G3.o));have G64:=(Cal.of D64 (aEr (k:=6) Z F64 G5.o G65.o G3.o));have G63:=(Cal.of D63 (mC (k:=8) Z F63 G3.o G64.o));have G68:=(Cal.of D68 (nL (k:=4) Z F68 G3.o));have G66:=(Cal.of D66 (iC (k:=0) Z F66));have G69:=(Cal.of D69 (mZ (k:=0) Z F69));have G67:=(Cal.of D67 (rW (k:=10) Z F67 G63.o G68.o G69.o));have G10:=(zC.of D10 (aAw (k:=0) Z F10));have G17:=(zC.of D17 (oG (k:=0) Z F17));have G24:=(zC.of D24 (wW (k:=0) Z F24));have G29:=(zC.of D29 (aAb (k:=0) Z F29));have G41:=(zC.of D41 (oZ (k:=0) Z F41));have G37:=(zC.of D37 (rQ (k:=0) Z F37));have G79:=(Cal.of D79 (rK (k:=0) Z F79));have G76:=(Cal.of D76 (uP (k:=2) Z F76 G75.o));have G81:=(Cal.of D81 (aDq (k:=2) Z F81 G75.o));have G6:=(Cal.of D6 (aDm (k:=0) Z F6));have G7:=(Cal.of D7 (aEj (k:=4) Z F7 G6.o G2.o));have G48:=(Cal.of D48 (nK (k:=4) Z F48 G2.o));have G87:=(Cal.of D87 (aDg (k:=2) Z F87 G75.o));have G86:=(Cal.of D86 (uQ (k:=0) Z F86));have G89:=(Cal.of D89 (sI (k:=2) Z F89 G86.o));have G90:=(Cal.of D90 (aEb (k:=4) Z F90 G89.o));have G91:=(Cal.of D91 (aAv (k:=4) Z F91 G89.o));have G93:=(Cal.of D93 (tQ (k:=0) Z F93));have G92:=(Cal.of D92 (uM (k:=4) Z F92 G75.o G93.o G89.o));have G95:=(Cal.of D95 (rP (k:=2) Z F95 G75.o));have t_size:∀r C sp,TV (Cl5.mk Va Vb Vc Vd Ve) K r vSz C sp->xE l.prog w K mg base CX0 (6*r+4) "size" C sp:=by
  intro r
  induction r with
  |zero =>
   rintro C' sp (⟨rfl,rfl⟩|⟨rfl,rfl⟩|⟨rfl,rfl⟩|⟨rfl,rfl⟩)
   ·exact⟨Ua.cl,_,_,_,D13.me,jY.mono (mQ (k:=0) (r:=0) Z F13) (by omega),D13.b⟩
   ·exact⟨Ub.cl,_,_,_,D20.me,noFn (noV nn1),D20.b⟩
   ·exact⟨Uc.cl,_,_,_,D25.me,noFn (noV nn2),D25.b⟩
   ·exact⟨Ud.cl,_,_,_,D32.me,noFn (noV nn3),D32.b⟩
  |succ r ih =>
   have gS:=(zE.of D38 (eZ (k:=6*r+4) (r:=r) Z F38 ih));have gG:=(zE.of D33 (bB (k:=6*r+6) (r:=r) Z F33 gS));rintro C' sp (⟨rfl,rfl⟩|⟨rfl,rfl⟩|⟨rfl,rfl⟩|⟨rfl,rfl⟩)
   ·exact⟨Ua.cl,_,_,_,D13.me,jY.mono (mQ (k:=0) (r:=r+1) Z F13) (by omega),D13.b⟩
   ·exact⟨Ub.cl,_,_,_,D20.me,jY.mono (pV (k:=6*r+6) (r:=r) Z F20 gS) (by omega),D20.b⟩
   ·exact⟨Uc.cl,_,_,_,D25.me,jY.mono (uL (k:=6*r+4) (r:=r) Z F25 ih) (by omega),D25.b⟩
   ·exact⟨Ud.cl,_,_,_,D32.me,jY.mono (uE (k:=6*r+8) (r:=r) Z F32 gG) (by omega),D32.b⟩
 have gv:=fun r=>(zE.of D38 (eZ (k:=6*r+4) (r:=r) Z F38 (t_size r)));have gz:=fun r=>(zE.of D33 (bB (k:=6*r+6) (r:=r) Z F33 (gv r)));have t_depth:∀r C sp,TV (Cl5.mk Va Vb Vc Vd Ve) K r vDp C sp->xE l.prog w K mg base CX0 (6*r+4) "depth" C sp:=by
  intro r
  induction r with
  |zero =>
   rintro C' sp (⟨rfl,rfl⟩|⟨rfl,rfl⟩|⟨rfl,rfl⟩|⟨rfl,rfl⟩)
   ·exact⟨Ua.cl,_,_,_,D14.me,jY.mono (iS (k:=0) (r:=0) Z F14) (by omega),D14.b⟩
   ·exact⟨Ub.cl,_,_,_,D21.me,noFn (noV nn1),D21.b⟩
   ·exact⟨Uc.cl,_,_,_,D26.me,noFn (noV nn2),D26.b⟩
   ·exact⟨Ud.cl,_,_,_,D34.me,noFn (noV nn3),D34.b⟩
  |succ r ih =>
   have gS:=(zE.of D39 (eJ (k:=6*r+4) (r:=r) Z F39 ih));rintro C' sp (⟨rfl,rfl⟩|⟨rfl,rfl⟩|⟨rfl,rfl⟩|⟨rfl,rfl⟩)
   ·exact⟨Ua.cl,_,_,_,D14.me,jY.mono (iS (k:=0) (r:=r+1) Z F14) (by omega),D14.b⟩
   ·exact⟨Ub.cl,_,_,_,D21.me,jY.mono (nC (k:=6*r+6) (r:=r) Z F21 gS) (by omega),D21.b⟩
   ·exact⟨Uc.cl,_,_,_,D26.me,jY.mono (rC (k:=6*r+4) (r:=r) Z F26 ih) (by omega),D26.b⟩
   ·exact⟨Ud.cl,_,_,_,D34.me,jY.mono (rV (k:=6*r+6) (r:=r) Z F34 gS) (by omega),D34.b⟩
 have gx:=fun r=>(zE.of D39 (eJ (k:=6*r+4) (r:=r) Z F39 (t_depth r)));have t_parted:∀C sp,TPt2 (Cl5.mk Va Vb Vc Vd Ve) K C sp->xE l.prog w K mg base CX0 2 "parted" C sp:=by
  rintro C' sp (⟨rfl,rfl⟩|⟨rfl,rfl⟩)
  ·exact⟨Ub.cl,_,_,_,D22.me,(lA (k:=0) Z F22),D22.b⟩
  ·exact⟨Uc.cl,_,_,_,D27.me,(oV (k:=0) Z F27),D27.b⟩
 have DM:DfM K Vc "units_at" f9 d9 ["self","path"]:=⟨⟨w3,a9.i,F9.kp⟩,D9.b⟩;have t_units:∀r C sp,TU (Cl5.mk Va Vb Vc Vd Ve) K r C sp->xE l.prog w K mg base CX0 (6*r+4) "units_at" C sp:=by
  intro r
  induction r with
  |zero =>
   rintro C' sp (⟨rfl,rfl⟩|⟨rfl,rfl⟩|⟨rfl,rfl⟩|⟨rfl,rfl⟩)
   ·exact⟨Ua.cl,_,_,_,D16.me,jY.mono (cR (k:=0) (r:=0) Z F16) (by omega),D16.b⟩
   ·exact⟨Ub.cl,_,_,_,D9.me,noFn (noU nn1),D9.b⟩
   ·exact⟨Uc.cl,_,_,_,DM.me,noFn (noU nn2),DM.b⟩
   ·exact⟨Ud.cl,_,_,_,D36.me,noFn (noU nn3),D36.b⟩
  |succ r ih =>
   rintro C' sp (⟨rfl,rfl⟩|⟨rfl,rfl⟩|⟨rfl,rfl⟩|⟨rfl,rfl⟩)
   ·exact⟨Ua.cl,_,_,_,D16.me,jY.mono (cR (k:=0) (r:=r+1) Z F16) (by omega),D16.b⟩
   ·exact⟨Ub.cl,_,_,_,D9.me,jY.mono (bC (k:=6*r+4) (r:=r) Z ff1 F9 (fun C' sp h=>xE.mono (t_parted C' sp h) (by omega)) ih G8.o) (by omega),D9.b⟩
   ·exact⟨Uc.cl,_,_,_,DM.me,jY.mono (bC (k:=6*r+4) (r:=r) Z ff2 F9 (fun C' sp h=>xE.mono (t_parted C' sp h) (by omega)) ih G8.o) (by omega),DM.b⟩
   ·exact⟨Ud.cl,_,_,_,D36.me,jY.mono (lW (k:=6*r+8) (r:=r) Z F36 G8.o (gz r)) (by omega),D36.b⟩
 have G38:=gv 12;have G39:=gx 12;have G40:=(zE.of D40 (oK (k:=76) (r:=12) Z F40 G17.o (t_units 12)));have G72:=(Cal.of D72 (pY (k:=78) (r:=12) Z F72 G38.o G40.o G39.o));have r_kin:∀n,Cal l.prog w K mg base CX0 (2*n+2) "kind_in" (aGx (Cl5.mk Va Vb Vc Vd Ve) K n):=by
  intro n
  induction n with
  |zero=>exact Cal.of D71 (noFn (fun vs H Q E h=>by obtain⟨_,_,_,_,_,_,h,_⟩:=h;exact absurd h (by omega)))
  |succ n ih=>exact Cal.o (Cal.of D71 (aFh (k:=2*n+2) (r:=n) Z F71 ih G10.o G17.o G24.o G29.o))
 have G71:=r_kin 2;have G70:=(Cal.of D70 (sK (k:=80) (r:=12) Z F70 G71.o G69.o G37.o G72.o));have G61:=(Cal.of D61 (oU (k:=82) (r:=12) Z F61 G62.o G66.o G37.o G67.o G70.o G41.o));have r__law_size:∀n,Cal l.prog w K mg base CX0 (2*n+2) "_law_size" (rN K vSz n):=by
  intro n
  induction n with
  |zero=>exact Cal.of D77 (noFn (fun _ _ _ _ h=>h))
  |succ n ih=>exact Cal.o (Cal.of D77 (aAm (k:=2*n+2) (r:=n) Z F77 ih))
 have G77:=r__law_size 13;have r__law_depth:∀n,Cal l.prog w K mg base CX0 (2*n+2) "_law_depth" (rN K vDp n):=by
  intro n
  induction n with
  |zero=>exact Cal.of D80 (noFn (fun _ _ _ _ h=>h))
  |succ n ih=>exact Cal.o (Cal.of D80 (uZ (k:=2*n+2) (r:=n) Z F80 ih))
 have G80:=r__law_depth 13;have r_lu:∀n,Cal l.prog w K mg base CX0 (2*n+4) "_law_units" (spLU K n):=by
  intro n
  induction n with
  |zero=>exact Cal.of D78 (noFn (fun _ _ _ _ h=>h))
  |succ n ih=>exact Cal.o (Cal.of D78 (uI (k:=2*n+4) (r:=n) Z F78 ih (r__law_size (n+1)) G79.o))
 have G78:=r_lu 13;have G82:=(Cal.of D82 (aDl (k:=30) (r:=12) Z F82 G77.o G78.o G80.o));have r_kt:∀n,Cal l.prog w K mg base CX0 (2*n+2) "_law_kind_text" (aLp K n):=by
  intro n
  induction n with
  |zero=>exact Cal.of D84 (noFn (fun vs H Q E h=>by obtain⟨_,_,_,_,_,h,_⟩:=h;exact absurd h (by omega)))
  |succ n ih=>exact Cal.o (Cal.of D84 (lE (k:=2*n+2) (r:=n) Z F84 ih))
 have G84:=r_kt 2;have G85:=(Cal.of D85 (aCh (k:=6) Z F85 G84.o));have G83:=(Cal.of D83 (rR (k:=32) (r:=12) Z F83 G76.o G75.o G81.o G82.o));have t_led:∀C sp,T4 (Cl5.mk Va Vb Vc Vd Ve) (bL (Cl5.mk Va Vb Vc Vd Ve) K) C sp->xE l.prog w K mg base CX0 8 "led" C sp:=by
  rintro C' sp (⟨rfl,rfl⟩|⟨rfl,rfl⟩|⟨rfl,rfl⟩|⟨rfl,rfl⟩)
  ·exact⟨Ua.cl,_,_,_,D15.me,jY.mono (aEs (k:=0) (r:=0) Z F15) (by omega),D15.b⟩
  ·exact⟨Ub.cl,_,_,_,D23.me,jY.mono (sB (k:=0) (r:=0) Z F23) (by omega),D23.b⟩
  ·exact⟨Uc.cl,_,_,_,D28.me,jY.mono (aCf (k:=4) (r:=0) Z F28 G1.o) (by omega),D28.b⟩
  ·exact⟨Ud.cl,_,_,_,D35.me,jY.mono (aCo (k:=2) (r:=0) Z F35 G17.o) (by omega),D35.b⟩
 have t_word:∀C sp,T3k (Cl5.mk Va Vb Vc Vd Ve) (dL (Cl5.mk Va Vb Vc Vd Ve) K) C sp->xE l.prog w K mg base CX0 8 "word" C sp:=by
  rintro C' sp (⟨rfl,rfl⟩|⟨rfl,rfl⟩|⟨rfl,rfl⟩)
  ·exact⟨Ua.cl,_,_,_,D11.me,jY.mono (aCa (k:=0) (r:=0) Z F11) (by omega),D11.b⟩
  ·exact⟨Ub.cl,_,_,_,D18.me,jY.mono (pB (k:=0) (r:=0) Z F18) (by omega),D18.b⟩
  ·exact⟨Ud.cl,_,_,_,D30.me,jY.mono (tU (k:=0) (r:=0) Z F30) (by omega),D30.b⟩
 have t_text:∀C sp,T3k (Cl5.mk Va Vb Vc Vd Ve) (lI (Cl5.mk Va Vb Vc Vd Ve) K) C sp->xE l.prog w K mg base CX0 8 "text" C sp:=by
  rintro C' sp (⟨rfl,rfl⟩|⟨rfl,rfl⟩|⟨rfl,rfl⟩)
  ·exact⟨Ua.cl,_,_,_,D12.me,jY.mono (aAq (k:=0) (r:=0) Z F12) (by omega),D12.b⟩
  ·exact⟨Ub.cl,_,_,_,D19.me,jY.mono (oH (k:=0) (r:=0) Z F19) (by omega),D19.b⟩
  ·exact⟨Ud.cl,_,_,_,D31.me,jY.mono (uG (k:=0) (r:=0) Z F31) (by omega),D31.b⟩
 have G50:=(Cal.of D50 (aEv (k:=8) Z F50 G17.o (fun C' sp h=>xE.mono (t_led C' sp h) (by decide))));have G55:=(Cal.of D55 (rZ (k:=10) Z F55 G50.o (fun C' sp h=>xE.mono (t_word C' sp h) (by decide))));have G59:=(Cal.of D59 (nJ (k:=0) (r:=0) Z F59 KS));have G58:=(Cal.of D58 (pU (k:=0) (r:=0) Z F58));have G57:=(Cal.of D57 (aFr (k:=2) (r:=0) Z F57 KS G58.o G59.o));have G56:=(Cal.of D56 (aEq (k:=8) Z F56 G17.o (fun C' sp h=>xE.mono (t_led C' sp h) (by decide)) G57.o));have G97:=(Cal.of D97 (iG (k:=76) (r:=12) Z (by decide) F97 (fun C' sp h=>xE.mono (t_text C' sp h) (by decide)) (r_kt 13).o (fun C' sp h=>xE.mono (t_word C' sp h) (by decide)) (fun C' sp h=>xE.mono (t_size 12 C' sp h) (by decide)) G77.o));have G42:=(zE.of D42 (oT (k:=0) (r:=0) Z F42));have r_may:∀n,Cal l.prog w K mg base CX0 (6*n+8) "may_have" (cP (Cl5.mk Va Vb Vc Vd Ve) K n aNc):=by
  intro n
  induction n with
  |zero=>exact(Cal.of D44 (mM (k:=6) (r:=0) Z F44 KS G7.o (Cal.of D45 (noFn (noM9 nn1))) (Cal.of D46 (noFn (noM9 nn2))) (Cal.of D47 (noFn (noM9 nn3)))))
  |succ n ih =>
   have g1:=(Cal.of D45 (rG (k:=6*n+8) (r:=n) Z F45 ih));have g2:=(Cal.of D46 (wA (k:=6*n+8) (r:=n) Z F46 ih));have g0:=(Cal.of D43 (hJ (k:=6*n+8) (r:=n) Z F43 G17.o ih));have g3:=(Cal.of D47 (tW (k:=6*n+10) (r:=n) Z F47 G48.o g0));exact Cal.o (Cal.of D44 (mM (k:=6*n+12) (r:=n+1) Z F44 KS G7.o g1.o g2.o g3.o))
 have G44:=r_may 9;have G43:=(Cal.of D43 (hJ (k:=62) (r:=9) Z F43 G17.o G44.o));have r_co:∀n,Cal l.prog w K mg base CX0 (2*n+4) "copied" (aGm K n):=by
  intro n
  induction n with
  |zero=>exact Cal.of D49 (noFn (fun vs H Q E h=>by obtain⟨_,_,_,_,h,_⟩:=h;exact absurd h (by omega)))
  |succ n ih=>exact Cal.o (Cal.of D49 (aIi (k:=2*n+4) (r:=n) Z F49  ih))
 have G49:=r_co 10;have r_ldr:∀n,Cal l.prog w K mg base CX0 (2*n+6) "_law_drawn" (tN K n):=by
  intro n
  induction n with
  |zero=>exact Cal.of D88 (noFn (fun vs H Q E h=>by obtain⟨_,_,_,_,_,_,_,h,_⟩:=h;exact absurd h (by omega)))
  |succ n ih=>exact Cal.o (Cal.of D88 (wV (k:=2*n+6) (r:=n) Z F88 G87.o G75.o ih))
 have G88:=r_ldr 10;have r_lsp:∀n,Cal l.prog w K mg base CX0 (2*n+4) "_law_spoilt" (aGq K n):=by
  intro n
  induction n with
  |zero=>exact Cal.of D96 (noFn (fun vs H Q E h=>by obtain⟨_,_,_,_,h,_⟩:=h;exact absurd h (by omega)))
  |succ n ih=>exact Cal.o (Cal.of D96 (sC (k:=2*n+4) (r:=n) Z F96  ih))
 have G96:=r_lsp 10;have r_lmx:∀n,Cal l.prog w K mg base CX0 (2*n+6) "_law_mixed" (tZ K n):=by
  intro n
  induction n with
  |zero=>exact Cal.of D98 (noFn (fun vs H Q E h=>by obtain⟨_,_,_,_,_,_,_,h,_⟩:=h;exact absurd h (by omega)))
  |succ n ih=>exact Cal.o (Cal.of D98 (wJ (k:=2*n+6) (r:=n) Z F98 G75.o ih))
 have G98:=r_lmx 10;have r_ltw:∀n,Cal l.prog w K mg base CX0 (2*n+4) "_law_twin" (aHi K n):=by
  intro n
  induction n with
  |zero=>exact Cal.of D99 (noFn (fun vs H Q E h=>by obtain⟨_,_,_,_,h,_⟩:=h;exact absurd h (by omega)))
  |succ n ih=>exact Cal.o (Cal.of D99 (aCp (k:=2*n+4) (r:=n) Z F99  ih))
 have G99:=r_ltw 10;have r_lpu:∀n,Cal l.prog w K mg base CX0 (2*n+8) "_law_put" (tL K n):=by
  intro n
  induction n with
  |zero=>exact Cal.of D94 (noFn (fun vs H Q E h=>by obtain⟨_,_,_,_,_,_,_,_,_,_,_,_,_,_,h,_⟩:=h;exact absurd h (by omega)))
  |succ n ih=>exact Cal.o (Cal.of D94 (aFx (k:=2*n+8) (r:=n) Z F94 G89.o ih))
 have G94:=r_lpu 10;have G54:=(Cal.of D54 (aAk (k:=64) (r:=9) Z F54 G43.o G55.o G56.o));have G51:=(Cal.of D51 (aEe (k:=66) (r:=9) Z F51 G54.o));have G52:=(Cal.of D52 (aDi (k:=66) (r:=9) Z F52 G54.o));have G60:=(Cal.of D60 (aCg (k:=24) (r:=9) Z F60 G49.o G56.o));have G53:=(Cal.of D53 (aJa (k:=66) (r:=9) Z F53 G54.o G6.o G60.o));have G100:=(Cal.of D100 (aBo (k:=78) (r:=9) Z F100 G92.o G90.o G91.o G97.o G50.o G86.o G52.o G51.o G95.o G53.o G43.o G94.o G96.o));have G101:=(aQv (k:=84) (r:=12) Z ⟨by decide,by decide⟩ F101 G73.o G74.o G83.o G85.o G61.o G75.o G88.o G99.o G98.o G42.o G100.o G50.o G97.o);exact G101
theorem walk{l:PySem.W.OpenLaw}{YP:my->nc->Prop}{d:DefRec}{K:Params->ς}(hn:l.most=some 63)(hdf:d.params.defaults=[])(hq:importsNone q=true)
  (hY:∀(w:my) (h:nc),YP w h->(K w.params).In h)
  (F:∀(w:my) (mg:Str->Option Value) (fa:Addr) (h:nc),(K w.params).In h->h.Ns ie mg->mg d.name=some (.ref fa) →
   ∃fd:rj,(∀(s:χ) (u:Value),BindsTo s fd ⟨[u],[]⟩ [("_law_script",u)])/\∀base:nc,(K w.params).In base->base.Ns ie mg->jY l.prog w (K w.params) mg base CX0 86 fa fd ["_law_script"] (aHq (K w.params))):
  PySem.W.WalkO q loose XP YP l.row.toRowW d [] (fun f vs=>PySem.call f vs) :=
 L2.aOi (n:=63) (k:=86) (x:="_law_script") (CX:=fun _=>CX0) (sp:=fun w=>aHq (K w.params)) hn (by decide) hdf hq ⟨rfl,by decide,by decide,rfl⟩ hY F (fun _ _ a ns hl _ hS=>⟨a,ns,rfl,hS,hl,fun _=>rfl⟩) fun _ _ _ _ _ z=>z
end K15
namespace PySem.W.Fast
def tw7515906009838341662:=0
def tw13431668249231943960:=0
def tw9665425769043204117:=0
def tw13249450722021284632:=0
def tw16558022477132330873:=0
def tw264368038930916247:=0
def tw14448864104836931364:=0
def tw14952575274969809151:=0
def tw17373824936757872587:=0
def tw7395776940893517965:=0
def tw13097906524683201469:=0
def tw13429482514017302307:=0
def tw18050240649822027413:=0
def tw6792454829571912183:=0
def tw4052086289720948530:=0
def tw8036537915070525319:=0
def tw10508917631731019544:=0
def tw11126504180624658509:=0
def tw4032944479403380757:=0
def tw2149889251397941269:=0
def tw13067659545791119756:=0
def tw17250894918601873287:=0
def tw10989899743401916314:=0
def tw11081733046588309795:=0
def tw15203570734693904826:=0
def tw9913241232652558019:=0
def tw4517778310511200847:=0
def tw5752848667390375556:=0
def tw14223955582317202378:=0
def tw16041419612351661037:=0
def tw17287717583213443230:=0
def tw13435133091829208663:=0
def tw4319672552620942482:=0
def tw4849317289850923621:=0
def tw9959029253462208411:=0
def tw6244968338501132001:=0
def tw12247416360734264495:=0
def tw13799038661269610257:=0
def tw768212571664218528:=0
def tw2698934485241427966:=0
def tw9132639577310417383:=0
def tw4772656661199816531:=0
def tw5592102828182829057:=0
def tw3657054856667907507:=0
def tw6043506582123572025:=0
def tw3489004967739027528:=0
def tw15021719810598683140:=0
def tw13198758133941529801:=0
def tw2055912936947408858:=0
def tw4675466877389661555:=0
def tw14220482730081043942:=0
def tw23701088308883702:=0
def tw16032601625277598516:=0
def tw2798300380635950202:=0
def tw17273553282844317798:=0
def tw16628631340669169004:=0
def tw17398232047769297915:=0
def tw10524260035535374263:=0
def tw3255408842860560659:=0
def tw14757401974978645744:=0
def tw294510131352705035:=0
def tw7362306311083593144:=0
def tw14512633502102406431:=0
def tw11860062093909055276:=0
def tw10957681265574391755:=0
def tw14063069544318196627:=0
def tw15154717591402406397:=0
def tw5931254260627855733:=0
def tw17811192147290583252:=0
def tw17233146550841414812:=0
def tw9087208535376228315:=0
def tw9093018463911859254:=0
def tw1138907762328717755:=0
def tw6453197840595620806:=0
def tw10984104741113619764:=0
def tw3120759628559622793:=0
def tw12538503124191466620:=0
def tw17945225020026104458:=0
def tw11412344575450717088:=0
def tw16977846417434423167:=0
def tw8464153739574092094:=0
def tw11115875446557605304:=0
def tw8865215109431504975:=0
def tw7621436059802559846:=0
def tw8711726809704863116:=0
def tw7809453022542814525:=0
def tw13406330064115627425:=0
def tw5805130578099291743:=0
def tw7141268988949596357:=0
def tw8413756178351807728:=0
def tw3129234121561005094:=0
def tw1222469421583293364:=0
def tw1626970718214599051:=0
def tw5744082789536901662:=0
def tw3731282584549547732:=0
def tw14156592920423580931:=0
def tw11771962895757065935:=0
def tw9575790427896577482:=0
def tw9730109261773732130:=0
def tw11296899024644865211:=0
def tw3149673159556184191:=0
def tw12676197595298441602:=0
def tw13614615455200656557:=0
def tw2348295831947193583:=0
def tw14163387550333859493:=0
def tw16343945290629604124:=0
def tw9563611879425859486:=0
def tw13013506633090191575:=0
def tw17281592113037144062:=0
def tw18078150647043641363:=0
def tw6613119028664133874:=0
def tw18345502286335432144:=0
def tw346620558862405593:=0
def tw5759352914499663908:=0
def tw11638561800772280120:=0
def tw10347062194937601377:=0
def tw16684807183896665047:=0
def tw13271423570142592424:=0
def tw6008213551721708413:=0
def tw13923708112375185818:=0
def tw6912403361856818397:=0
def tw14428938333091712333:=0
def tw15096472861185456295:=0
def tw17515454778651715080:=0
def tw10548711436500633052:=0
def tw12312826833750520833:=0
def tw3644431809268462186:=0
def tw17598435516254353626:=0
def tw16419817752083794988:=0
def tw4064506084500987754:=0
def tw760559848090654335:=0
def tw8465981387707612907:=0
def tw10334357452853184316:=0
def tw6976709397619215769:=0
def tw2560453649052816233:=0
def tw7683084773435970753:=0
def tw17469482891953752274:=0
def tw5137713427491054569:=0
def tw6204753297584112038:=0
def tw18238975125908789205:=0
def tw13542334646861209304:=0
def tw12418693094934309251:=0
def tw83165488490567818:=0
def tw4367577828120216547:=0
def tw9129385617034699979:=0
def tw11301090635190479260:=0
def tw1557584582484152912:=0
def tw952267448144542802:=0
def tw13916913085914810606:=0
def tw11043097213290248925:=0
def tw11336516790932477613:=0
def tw179755215491929633:=0
def tw7190980242505692322:=0
def tw9771011234468999578:=0
def tw2822074403836314792:=0
def tw6458030084123595716:=0
def tw12996209518810480208:=0
def tw14794933137036661314:=0
def tw3548605676341932019:=0
def tw15760041804838143883:=0
def tw11920029638579521324:=0
def tw9313868498446068376:=0
def tw15464107627105545530:=0
def tw15191859084203251528:=0
def tw1950003947490514348:=0
def tw2183810860891210687:=0
def tw948303709556586122:=0
def tw6452659485358037092:=0
def tw1874326298344742941:=0
def tw6891887560910012009:=0
def tw2679388725717396735:=0
def tw15795761664383923546:=0
def tw7268211354616213685:=0
def tw16941941238400366236:=0
def tw13816929866254876326:=0
def tw534762967585695533:=0
def tw2870151169104384623:=0
def tw11921147466143887755:=0
def tw6959195115625449983:=0
def tw16089580904235841518:=0
def tw17481715744508679866:=0
def tw11077748065386816767:=0
def tw14923327948707525162:=0
def tw8639345655100474009:=0
def tw1548563744902155986:=0
def tw1983891808600869944:=0
def tw986401054318768590:=0
def tw12523940054423526622:=0
def tw16369439911985218424:=0
def tw14503707791122528098:=0
def tw832002425731960101:=0
def tw14970391588935111750:=0
def tw8022824811764494425:=0
def tw11761559540190530747:=0
def tw16646986050098605103:=0
def tw13281977442774582381:=0
def tw13135936064521489336:=0
def tw14125634055941746021:=0
def tw9017680737734038153:=0
def tw17242559477761303818:=0
def tw9720114416970254412:=0
def tw2296920883702413890:=0
def tw188527877261137496:=0
def tw7794236574435756954:=0
def tw6219478118538930089:=0
def tw508197705797680732:=0
def tw5766028756897911167:=0
def tw4464154011377904641:=0
def tw3295312486704802237:=0
def tw7575674232504990588:=0
def tw1116724554603589295:=0
def tw11290025202067439181:=0
def tw17402351540008140922:=0
def tw644003189154190803:=0
def tw11712756974225071347:=0
def tw3732012781005587016:=0
def tw10610911840187642671:=0
def tw4164028979199235461:=0
def tw17040919928695989771:=0
def tw7748906930284150608:=0
def tw6217053951393213322:=0
def tw15416332971181446573:=0
def tw2050354214682958657:=0
def tw5328636462077587077:=0
def tw6893429907700799601:=0
def tw7736170680342260681:=0
def tw10417530092586683753:=0
def tw892275084879155967:=0
def tw17035890790206529707:=0
def tw14582126041593248429:=0
def tw17702397397248388860:=0
def tw806502716732520896:=0
def tw17923598895326062861:=0
def tw13675304237479300138:=0
def tw409498301640538830:=0
def tw9845931317197422477:=0
def tw3074777670813835450:=0
def tw3023952470736739355:=0
def tw15897048918623949429:=0
def tw3029890008149176612:=0
def tw15559962656955138588:=0
def tw12306289489095930034:=0
def tw6179725952160597540:=0
def tw8447423948762014663:=0
def tw11799243922626966320:=0
def tw16263878525034649975:=0
def tw4003953492270753150:=0
def tw14447920013181428444:=0
def tw6037158790607360808:=0
def tw1777877888970387649:=0
def tw14152062398908650821:=0
def tw15317696677185184033:=0
def tw8697834399757026089:=0
def tw8014441234024804294:=0
def tw2209449877510076010:=0
def tw2618679304913606808:=0
def tw2146542635742154212:=0
def tw11632627782408870796:=0
def tw6506251913997523894:=0
def tw1633891952683005901:=0
def tw11535465565535325842:=0
def tw13011634733711797677:=0
def tw3112841501027475191:=0
def tw13072255914360911320:=0
def tw12499087228812055468:=0
def tw15115148932867386474:=0
def tw12331056975369706888:=0
def tw13981565217852743974:=0
def tw3883326890865841024:=0
def tw351789825902171636:=0
def tw14823264807506291744:=0
def tw7614306929433657508:=0
def tw1755837501812332345:=0
def tw16611489882546652229:=0
def tw5392027967706778314:=0
def tw2028178931126190778:=0
def tw5592068645349000237:=0
def tw16987276998739174840:=0
def tw18349526986469699059:=0
def tw16146527268252392245:=0
def tw7464995032138121886:=0
def tw1705464143022130018:=0
def tw14335371429687094877:=0
def tw5048760958028433625:=0
def tw7880516617426714153:=0
def tw14803419003912002077:=0
def tw3754191877716014427:=0
def tw13307715256701113306:=0
def tw13249940069463928562:=0
def tw11111753965316405970:=0
def tw16997261012638727915:=0
def tw2141190687963033157:=0
def tw8277977284737569382:=0
def tw8053430277866671326:=0
def tw4805442212313609330:=0
def tw18140134792143916422:=0
def tw16100213300614026464:=0
def tw146144561702991467:=0
def tw9587319418628426210:=0
def tw4823651826601303979:=0
def tw13085620827704472771:=0
def tw11534314433480927155:=0
def tw9862618446720815369:=0
def tw9894346965418352031:=0
def tw1218412276594021578:=0
def tw1637168963965509553:=0
def tw2858433762917785515:=0
def tw10332756807222163400:=0
def tw7010755429901988141:=0
def tw10679123622834475755:=0
def tw12722346517864049322:=0
def tw1730427299096857138:=0
def tw163790943077807867:=0
def tw7296813817776728474:=0
def tw6907118205732086330:=0
def tw14442686421439910460:=0
def tw13652362652537566107:=0
def tw5804188114232889014:=0
def tw2182564744156165771:=0
def tw5525376253920908718:=0
def tw2489689293819842591:=0
def tw5827189124748517337:=0
def tw4263018803614204592:=0
def tw8688134396723614337:=0
def tw12122380773113963045:=0
def tw2368193698007746814:=0
def tw5480565304823777912:=0
def tw1502638799421677736:=0
def tw10963190403933140253:=0
def tw13918190680285676134:=0
def tw9143450736555123653:=0
def tw4125594020154412236:=0
def tw4012758779354067020:=0
def tw2651748340246568637:=0
def tw12905266326988281688:=0
def tw6127031078516128243:=0
def tw14310510887707193409:=0
def tw1048948836858709330:=0
def tw5319834901214646347:=0
def tw15557372935344318163:=0
def tw2258147442299634081:=0
def tw7622952478523665806:=0
def tw15106933346612511895:=0
def tw11719834214543081654:=0
def tw5801732770209215444:=0
def tw8249057465988365452:=0
def tw15654078646401836681:=0
def tw17185906663950916142:=0
def tw5922731900170382671:=0
def tw8235400425628041175:=0
def tw4939886585460337180:=0
def tw13152973739712538213:=0
def tw10096525412825039113:=0
def tw2417625894562468705:=0
def tw15086313652926300551:=0
def tw4836057321585960912:=0
def tw17775750372878695925:=0
def tw7966498457486244277:=0
def tw18033409227587586772:=0
def tw17889275740534814628:=0
def tw11892033198344187142:=0
def tw17837573846581288200:=0
def tw12844764781014051958:=0
def tw9275712805917298308:=0
def tw929654501479463508:=0
def tw15628536665378938453:=0
def tw4760539773404923355:=0
def tw17457941093779858539:=0
def tw7356786900471295383:=0
def tw3459443958916614403:=0
def tw3607688428787631667:=0
def tw18337600590812935474:=0
def tw12327948111665991862:=0
def tw755634192029357590:=0
def tw17207113103480081487:=0
def tw767231205537354589:=0
def tw12865841845730878709:=0
def tw17248447399807595056:=0
def tw6870603083015258485:=0
def tw6641102566260395969:=0
def tw16096819803225700520:=0
def tw17005729943453288996:=0
def tw9282437839346906636:=0
def tw17230906178896579118:=0
def tw6423795216889137864:=0
def tw13031980756211992052:=0
def tw15567845973800531414:=0
def tw12095674614752945397:=0
def tw12340220118580651160:=0
def tw10838835128764561767:=0
def tw14080242137110122730:=0
def tw826975857645730679:=0
def tw10756366971869198650:=0
def tw7476209180947553570:=0
def tw9345043462330603477:=0
def tw9404793855009036079:=0
def tw11915610089714677638:=0
def tw14630177462014736490:=0
def tw721088975872779336:=0
def tw2605699059197585936:=0
def tw9871471792303412545:=0
def tw17329733864758934944:=0
def tw10933952238754128229:=0
def tw2055470994686706634:=0
def tw18009372030025214876:=0
def tw2477744844979956108:=0
def tw8755864715541316768:=0
def tw3669546861605477125:=0
def tw14388490876195477852:=0
def tw11581410238851154216:=0
def tw7212979601638281105:=0
def tw6628411559473862846:=0
def tw8278713576174767590:=0
def tw15147043408377518295:=0
def tw9739491335675781599:=0
def tw1018159707250807790:=0
def tw2453735818185039824:=0
def tw16754250711170395806:=0
def tw6487824962631415855:=0
def tw15529931482718648480:=0
def tw9049164267242781768:=0
def tw1952893997781158247:=0
def tw7858115581079303159:=0
def tw9051291899709693434:=0
def tw11422530968977260196:=0
def tw14007517195859462598:=0
def tw5023113038086968301:=0
def tw2627017342427549605:=0
def tw13756769247199393535:=0
def tw17379029898686751680:=0
def tw14360186698744518831:=0
def tw15157973794273156146:=0
def tw5990516851420509291:=0
def tw7793456461806973289:=0
def tw2323411052269880665:=0
def tw5190307354123912305:=0
def tw11308965254594617654:=0
def tw17738167168826394249:=0
def tw6972603048159027506:=0
def tw14732853113927040268:=0
def tw15834446195378479213:=0
def tw7460739862388355377:=0
def tw15161736375958511591:=0
def tw13564927189792556506:=0
def tw14637407372462998784:=0
def tw13900197594118566814:=0
def tw232471045346483687:=0
def tw11635201862025862322:=0
def tw6807861921545981991:=0
def tw4886963954425806659:=0
def tw15657264202505686329:=0
def tw13840508760402363118:=0
def tw15009968963949312798:=0
def tw14409313116027693005:=0
def tw4273068943461679039:=0
def tw16301583694788604071:=0
def tw342418528199025717:=0
def tw4775926653477494874:=0
def tw11256043858700321137:=0
def tw12380994844221458366:=0
def tw16258883395545499831:=0
def tw14013573341056833729:=0
def tw14736326991371340419:=0
def tw6274103055597677322:=0
def tw18123216577300919254:=0
def tw12980425885876110056:=0
def tw10784216157870183233:=0
def tw10777760694691125165:=0
def tw11737609770668871185:=0
def tw9901237334656517067:=0
def tw11105884809270565253:=0
def tw7211887186058737940:=0
def tw12356807679754363426:=0
def tw7397089213416423626:=0
def tw11939028036793150110:=0
def tw4665736550968682191:=0
def tw7876289656909399021:=0
def tw11008832096998494473:=0
def tw2293322169017911106:=0
def tw13406802621947619292:=0
def tw5794554041853626332:=0
def tw3476933972350178008:=0
def tw1811622417704504855:=0
def tw9539492755954020892:=0
def tw2478980757186103691:=0
def tw6740591478258639203:=0
def tw2658503314087124344:=0
def tw10886398982269928575:=0
def tw6777357081321882915:=0
def tw2580637661684876060:=0
def tw3054120646655358982:=0
def tw12651817149824776696:=0
def tw18003819411305171543:=0
def tw4728020106432820187:=0
def tw17656145033528619277:=0
def tw12240983165208263014:=0
def tw3827472908152736524:=0
def tw270913554140802324:=0
def tw2272543920109878567:=0
def tw2969153095236712183:=0
def tw9735596201933350327:=0
def tw4524414607770319961:=0
def tw1358932544944166182:=0
def tw13557710792667781953:=0
def tw128193598707775365:=0
def tw9933080668825591739:=0
def tw3866626951426614797:=0
def tw10329350329173247340:=0
def tw542559568541376419:=0
def tw3380854627293511283:=0
def tw18380572595433640333:=0
def tw5194718863533896439:=0
def tw13105812343365384614:=0
def tw16034771612030147951:=0
def tw6206263453496994490:=0
def tw6573259640937098546:=0
def tw966163102554594739:=0
def tw15332514542146094691:=0
def tw1577009250837348547:=0
def tw16070160563100443426:=0
def tw9208857608254798987:=0
def tw6039346832642725421:=0
def tw8736125651203175615:=0
def tw4206085917035558436:=0
def tw7036911663386191494:=0
def tw8209480483975859652:=0
def tw3423351263222209095:=0
def tw11282329118059164204:=0
def tw3480143647913277645:=0
def tw2707987633935990588:=0
def tw6341315534688512429:=0
def tw6307277854307180735:=0
def tw4246476528835648946:=0
def tw15575294529887233149:=0
def tw1553118229834408672:=0
def tw10670483796535751051:=0
def tw17540442480940732262:=0
def tw11225296475018244671:=0
def tw7547071579031091765:=0
def tw16995727708692179198:=0
def tw17174489863233303210:=0
def tw12649398821890649097:=0
def tw7611195019507986504:=0
def tw12280052350721612040:=0
def tw12027032711363323319:=0
def tw17999572964635796609:=0
def tw6670249560980689283:=0
def tw14914788108033503967:=0
def tw16742770473143322557:=0
def tw13547591412200134875:=0
def tw2469712950585037473:=0
def tw11980152838546288403:=0
def tw17936861640143331224:=0
def tw14426144307488383888:=0
def tw1465629504021215082:=0
def tw7203925289282582439:=0
def tw422166029095922436:=0
def tw5791454879594823856:=0
def tw6671709564383722359:=0
def tw5942192324892379532:=0
def tw2415522431909638236:=0
def tw11800006961737776356:=0
def tw706157634038166149:=0
def tw13020649901805601603:=0
def tw8082158601028907104:=0
def tw1669417251499525597:=0
def tw4277743000740320955:=0
def tw1126870098611858631:=0
def tw10875528541881339277:=0
def tw5446653187758518992:=0
def tw8190602430430977733:=0
def tw16504492063330856332:=0
def tw8044760757557851704:=0
def tw6733639488465234580:=0
def tw18052576748858095036:=0
def tw17211638304193118627:=0
def tw14221328150048630852:=0
def tw16051997818888879384:=0
def tw5477423599557465600:=0
def tw7183435337821618756:=0
def tw7042376208198032108:=0
def tw16001494423965260955:=0
def tw267248895328791211:=0
def tw14848100299631617247:=0
def tw16561491670477393824:=0
def tw31216013988537551:=0
def tw13735951665430550100:=0
def tw18305404383363078293:=0
def tw13995345077611119611:=0
def tw16153537355136118213:=0
def tw16974831230854020172:=0
def tw2631928802883604338:=0
def tw3812153312817630860:=0
def tw6315804402419126547:=0
def tw4555368207519670053:=0
def tw16700224123164384316:=0
def tw8064576735057914167:=0
def tw3364944472274967823:=0
def tw10858756661568950305:=0
def tw3782871169086192616:=0
def tw16068619941515426464:=0
def tw2284551792613691672:=0
def tw11965672502288075749:=0
def tw5265422675263565160:=0
def tw16044224140837274959:=0
def tw9544017453008381037:=0
def tw16882439960811297669:=0
def tw14207259890229011082:=0
def tw243495661578411133:=0
def tw16876131133771932443:=0
def tw12165409282629190102:=0
def tw3384538761865652188:=0
def tw2062271018994746078:=0
def tw5009852333994280586:=0
def tw4499548785778250018:=0
def tw14590829379978643524:=0
def tw11836903377166440557:=0
def tw14485410472633017365:=0
def tw16990661630829735859:=0
def tw5187385081832068154:=0
def tw4824135391502228750:=0
def tw13440182255334649493:=0
def tw15314663315243929880:=0
def tw12681601464417242160:=0
def tw2511674547971006949:=0
def tw13224893136728734306:=0
end PySem.W.Fast
open PySem PySem.W PyProof.Rows
set_option maxRecDepth 100000 in
set_option maxHeartbeats 0 in
theorem PySem.Challenge.cw_roomslaid_k15_looked_and_stored_holds : PySem.Challenge.rw_roomslaid_k15_looked_and_stored.Holds := by
 w_on;o_law;k_head; (case hw=>w_witness2)
 k_fill
 refine K15.walk (l := PySem.Challenge.rw_roomslaid_k15_looked_and_stored) rfl rfl (by ac_rfl) (fun w h Y => PySem.W.kIn_of Y) ?F
 case F =>
  intro w mg fa h KX G hmg
  refine' K15.all_mk KX G hmg ?_ ?_ ?_ ?_ ?_ ?_ ?_ ?_ ?_ ?_ ?_ ?_ ?_ ?_ ?_ ?_ ?_ ?_ ?_ ?_ ?_ ?_ ?_ ?_ ?_ ?_ ?_ ?_ ?_ ?_ ?_ ?_ ?_ ?_ ?_ ?_ ?_ ?_ ?_ ?_ ?_ ?_ ?_ ?_ ?_ ?_ ?_ ?_ ?_ ?_ ?_ ?_ ?_ ?_ ?_ ?_ ?_ ?_ ?_ ?_ ?_ ?_ ?_ ?_ ?_ ?_ ?_ ?_ ?_ ?_ ?_ ?_ ?_ ?_ ?_ ?_ ?_ ?_ ?_ ?_ ?_ ?_ ?_ ?_ ?_ ?_ ?_ ?_ ?_ ?_ ?_ ?_ ?_ ?_ ?_ ?_ ?_ ?_ ?_ ?_ ?_ ?_ ?_ ?_ ?_ ?_ ?_ ?_ ?_ ?_ ?_ ?_ ?_ ?_ ?_ ?_ ?_ ?_ ?_ ?_ ?_ ?_ ?_ ?_ ?_ ?_ ?_ ?_ ?_ ?_ ?_ ?_ ?_ ?_ ?_ ?_ ?_ ?_ ?_ ?_ ?_ ?_ ?_ ?_ ?_ ?_ ?_ ?_ ?_ ?_ ?_ ?_ ?_ ?_ ?_ ?_ ?_ ?_ ?_ ?_ ?_ ?_ ?_ ?_ ?_ ?_ ?_ ?_ ?_
  all_goals (first|refine' K15.FG.mk ?_ ⟨_,L2.aLf ?_ ?_ ?_⟩|refine' K15.FM.mk ?_ ?_ ⟨_,L2.aLf ?_ ?_ ?_⟩|refine' K15.CK.mk ?_ ⟨?_,?_,?_,?_⟩ ?_ ?_ ?_|skip)
  all_goals (repeat' (first|exact K15.na0|refine' K15.na1 ?_ ?_))
  all_goals (first|k_is|exact K15.na0|exact Eq.refl true|exact Eq.refl (some true)|exact Eq.refl (some false)|kernel_rfl|ac_rfl|skip)
