import PyProof.Rows.All
import Wide.All
import OpenK.AllK
import Wide.FinOn
import Lean
import PyProof.EqAt
import PyProof.EqKinds
import PyProof.TupleCall
import PyProof.LongRange
import PyProof.ListRange
import PyProof.RaisesMany
import PyProof.ExcBaseAll.ValueError
import PyProof.ExcArgs
import PyProof.InstStoreFacts
import PyProof.ExcAttrAll.ValueError
import PyProof.RulesAs
import PyProof.RulesDel
import PyProof.ReprRoads
import PyProof.CallFns
import PyProof.InstSpecial
import PyProof.Rows.RuleN_isinstance
import KE.KIsNot
import PyProof.ReprLen
import PyProof.EnumMake
import PyProof.EnumFor
import PyProof.EnumStmt
import PyProof.Rows.EnumRows
import PyProof.RulesDelMore
import PyProof.Rows.SetFrom
import PyProof.ZipIter
import PyProof.IsRules
import PyProof.Conv_int_bool
import PyProof.IsiTuple
import PyProof.NeKinds
import KE.KEqDict
import PyProof.Rows.FStr
import PyProof.Rows.StrNews
import PyProof.StrCalls2
import PyProof.StrLawsChain
import PyProof.StrLawsTight
import PyProof.StrOps2
import PyProof.WalkInts
import PyProof.DictCompW
import PyProof.DictWalks
import PyProof.Rows.DictUnroll
import PyProof.FactsAll.dict
import PyProof.AttrMissHeap
import PyProof.FactsAll.zip
import KE.KDictOf
import PyProof.StrCalls6
import PyProof.ToksMono
import PyProof.DictUpdate
import PyProof.EqLayable
import PySem.Challenge.RW_roomslaid_k18_flat_there_and_back
set_option hygiene false
set_option autoImplicit true
set_option Elab.async false
set_option linter.all false
set_option maxRecDepth 100000
local macro_rules|`(tactic|ac_rfl)=>`(tactic|decide +kernel)
theorem hide_{p:Prop}(h:let g:=p;g):p:=h
def LpL (p:Prop):Prop:=p
theorem LpL.i{p:Prop}(h:p):LpL p:=h
local macro_rules | `(tactic| obtain $p:rcasesPatMed := $e) => `(tactic| (refine hide_ ?_;intro G_; (rcases $e:term with $p) <;> (unfold G_;try clear G_;try (with_reducible refine LpL.i ?_;intro D_))))
local macro_rules | `(tactic| omega) => `(tactic| lia)
open PySem.W (Frag keepIn findIn codeIn nsIn fnOf mg_of isFn mg_none_of)
open List renaming length_map->δ,getElem?_eq_some_iff->η,getElem?_eq_getElem->θ,length_append->ι,mem_of_getElem?->μ,size_toArray->τ,map_append->χ,getD_eq_getElem?_getD->ω,length_take->Δ,mem_cons_of_mem->Ξ,mem_cons->Φ,mem_singleton->Ψ,mem_cons_self->Ω,length_cons->ii,getElem?_append_right->ij,getElem?_map->iq,getElem?_append_left->iz,mem_map->jf,range->jg,mem_append_right->jh,all_eq_true->ji,zipWith->jj,length_range->jm,not_mem_nil->jp,take_add_one->jt,map_cons->ju,map_map->jw,length_singleton->ki,mem_append->km,mem_iff_getElem?->lc,take_append_drop->lh,append_nil->li,take_of_length_le->lq,getElem_mem->md,append_assoc->mi,getElem?_take_of_lt->mz,mem_append_left->nv,length_replicate->oo,length_eq_zero_iff->pe,filter_cons_of_neg->ph,flatMap_append->qe,pairwise_iff_getElem->qf,getElem?_range->rh,flatMap_singleton->rm,zipWith_cons_cons->rn,nodup_cons->tf,lookup->tu,sum_cons->ud,length_pos_iff->uf,cons_append->uj,pairwise_singleton->ul,contains_cons->uv,find?_cons_of_neg->uw,length_set->ux,find?_cons->uz,range_succ->va,pairwise_map->vj,mem_range->vk,replicate->vo,drop_drop->vz,drop_eq_getElem_cons->wk,mem_or_eq_of_mem_set->wl,map_congr_left->wo,getElem?_replicate->xq,getElem?_set_self->xy,flatMap_cons->yg,drop_zero->yh,nodup_append->ym,getElem?_eq_none->yr,eq_nil_or_concat->yt,concat_eq_append->yu,length_drop->zb,take_length->zd,getElem_map->zf,any_cons->zg,Pairwise->zi,getElem?_set_ne->zj
open PySem.Str renaming ofString->ε,join->jo,cps_append->sq,append_assoc->wj
open PySem renaming wpAny_bind->ζ,Shared->ξ,PyData->ο,sizeLine->ρ,wpAny_pure->Γ,wpAny->ik,starEach->il,mainGlobals->ip,model->ir,boot_len->ja,sizeLine_eq->jk,mem_of_lookup->jr,Program->jy,strLen_append->kc,Around->kg,wpAny_mono->kj,Heap->kq,compareOp->ky,bootBuiltins->lm,sysModules->ly,World->mf,wpAny_truthy_bool->mh,wpAny_loadPart_at->mq,wpAny_loadPart'->mx,wpAny_holding->my,wpAny_field->nj,Spec->om,cLine->ou,FuncData->oz,wpAny_isSubtype_exc->pz,wpAny_Call_Name_kw->qi,Within->ql,wpAny_pyIter_list->qw,backTo->rf,wpAny_richCompare_same_room->rq,wpAny_pyIter_tuple->sf,binaryOp->sg,wpAny_seqItems->sk,wpAny_setField_rec->sr,Builtin->su,behindInMarks->ub,rawInt->uc,wpAny_call_entry->uh,wpAny_getItem_str_slice->ui,wpAny_call->uq,wpAny_standAt->vc,attributeBase->vd,wpAny_newObj_type->vi,assignEach->vm,call_meets->vp,wpAny_setField->vq,codeAny_call_builtin->vt,getMethod->wc,codeAny->wd,codeAny_mono->wf,wpAny_onRaise->wx,holding->xb,letOwnedTupleGo->xg,wpAny_passesOwn->xh,valueAt->xi,tupleKind_room_in1->xl,keywordEach->xo,sliceBounds->xw,foldedSetIterable->ya,wpAny_dictEntries->yk,checkBuiltinCall->zc,wpAny_isInstance->ze,wpAny_attempt->zh,wpAny_updateSeq_pair->zp,Paired->zr
open Nat renaming le_refl->ν,lt_of_lt_of_le->ς,le_trans->Θ,zero_le->iy,ne_of_lt->jb,min_le_left->jz,lt_of_le_of_lt->ms,sub_self->nr,le_of_lt->pk,lt_irrefl->qm,le_succ->qv,not_succ_le_zero->tx,succ_le_succ->ug,add_le_add->vw,ne_of_gt->wb,lt_succ_self->we,not_lt_zero->xk,lt_trans->yf,lt_of_succ_lt_succ->yl,add_le_add_right->zo
open PySem.Heap renaming get?_push_of_some->π,lt_size->io,get?_push_size->iu,get?_update_other->lp,SameBut->oh,size_push->pq,get?_update_self->qg,get?_none_of_le->tq,IsTuple->yi
open PySem.W renaming Frag->υ,kitOne->kh,mg_none_of->mr,findIn->nu,mroIn->ny,kia_one->og,callWith_K->qj,looks_findIn->qu,instObj->rc,methodCall_KW->sv,specialIn->tw,hasDictIn->vh,InstAt->vn,looks_clsIn->wm,Looks->wy,kin_not->xj,cellsFrom_some->yb,plainGet->yy,handedOut_of->zk
open Bool renaming false_ne_true->ψ,and_eq_true->jv,false_eq_true->ow,false_and->qt,eq_false_iff->qz,eq_iff_iff->rg,true_and->ue
open PySem.Value renaming ref->iw,none->mn
open PyProof.Rows renaming boot_isinstance->jd,callWith_type1->rj,envOfC->wn,boot_list->xx,callWith_builtin1->za
open True renaming intro->je
open False renaming elim->jl
open PySem.F renaming plainAttrs_list->jq,slot_list_append->mj,type_list_append->mm,excBase_ValueError->pw,plainAttrs_str->se,slot_tuple_iterator_next->si,args_tuple_add_2->wu,entry_tuple_add->xu,slot_tuple_add->yc,slot_str_join->yv,type_str_join->yw
open PySem.PassesOwn renaming never->jx
open PySem.SeqAt renaming shaped->ke,EqAt->kn,canLay_of_shaped->sd
open PySem.Builtin.SmallTypes renaming nextOf->kf,ownedTupleIsFree->oq,ownedTupleHandOut->wq
open PySem.PyData renaming depthAll->lj,str->px,canLayAll0->ua,depthKv->uk,tuple->yj,hasDictAll->yn
open Option.some renaming inj->lr
open Ne renaming symm->lu
open Int renaming zero_add->mw,toNat_natCast->nq,eq_ofNat_of_zero_le->qy,natCast_add->vb,natCast_nonneg->xm
open Array renaming length_toList->nh,getElem?_eq_getElem->ol,toList_append->qd,getElem?_toList->vf
open PySem.Builtin.Str renaming occurrences->oy
open PySem.W.Looks renaming here->qh,of_pure->vg
open PySem.Txt renaming split->qk
open Option renaming isSome_iff_exists->qo,bind_some->wg
open PySem.Obj renaming mapFields->qp,data_mapFields->uu,isFreed_of_fields->yq
open Nat.succ renaming inj->qq
open PySem.Builtin.ObjectAttr renaming storeInOwnDict->sx,ownDictForStores->wz
open PySem.Builtin.Dict renaming dictSlotArgs->sy
open Sum renaming inr->uo
open ForInStep renaming yield->uy
open PySem.Shared renaming heap->vy
open PySem.Builtin.List renaming listTooLong->ww
open List.cons renaming inj->xa
open List.Pairwise renaming nil->yd
namespace L2
open PySem PySem.Spec PyProof.Rows
abbrev Key:=Sum Int Str
def sQ:Key->Value->Bool
 |.inl k,v=>Value.isInt k v
 |.inr x,v=>Value.isStrOf x v
def keyH (w:mf):Key->Int
 |.inl k=>hashInt k
 |.inr x=>hashStr w x
theorem vJ:∀{k:Key}{v:Value},sQ k v=true->(∃i t,k=Sum.inl i/\v=Value.int i t)\/(∃x t,k=uo x/\v=Value.str x t)
 |.inl i,v,h=>by
  obtain⟨t,e⟩:=Value.isInt_shape (k:=i) (v:=v) h;exact .inl ⟨i,t,rfl,e⟩
 |.inr x,v,h=>by
  obtain⟨t,e⟩:=Value.isStrOf_shape (x:=x) (v:=v) h;exact .inr ⟨x,t,rfl,e⟩
theorem aHr(i:Int)(t:Tok):sQ (.inl i) (.int i t)=true:=by simp[sQ,Value.isInt]
theorem aGr(x:Str)(t:Tok):sQ (.inr x) (.str x t)=true:=by simp[sQ,Value.isStrOf]
theorem aRn(a b:Int):decide ((Sum.inl a:Key)=Sum.inl b)=(a == b):=by
 by_cases e:a=b
 ·subst e;simp
 ·have h:¬ (Sum.inl a:Key)=Sum.inl b:=fun q=>e (Sum.inl.inj q);rw[decide_eq_false h];exact(beq_eq_false_iff_ne.mpr e).symm
theorem aQo(a b:Str):decide ((uo a:Key)=uo b)=decide (a=b):=by
 by_cases e:a=b
 ·subst e;simp
 ·have h:¬ (uo a:Key)=uo b:=fun q=>e (uo.inj q);rw[decide_eq_false h,decide_eq_false e]
theorem aSh(a:Int)(b:Str):decide ((Sum.inl a:Key)=uo b)=false:=decide_eq_false (fun q=>nomatch q)
theorem aRd(a:Str)(b:Int):decide ((uo a:Key)=Sum.inl b)=false:=decide_eq_false (fun q=>nomatch q)
def qX (prog:jy) (w:mf):PySem.KeyKind prog w Key where
 is:=sQ
 hash:=keyH w
 inj:=fun v a b ha hb=>by
  rcases vJ ha with⟨i,t,rfl,rfl⟩|⟨x,t,rfl,rfl⟩
  ·rcases vJ hb with⟨j,u,rfl,e⟩|⟨y,u,rfl,e⟩
   ·injection e with e1 _;rw[e1]
   ·exact nomatch e
  ·rcases vJ hb with⟨j,u,rfl,e⟩|⟨y,u,rfl,e⟩
   ·exact nomatch e
   ·injection e with e1 _;rw[e1]
 byValue:=fun k v h=>by
  rcases vJ h with⟨i,t,rfl,rfl⟩|⟨x,t,rfl,rfl⟩ <;> rfl
 pyHash:=fun hv h=>by
  rcases vJ hv with⟨i,t,rfl,rfl⟩|⟨x,t,rfl,rfl⟩
  ·exact wpAny_pyHash_int h
  ·exact wpAny_pyHash_str h
 eqBool:=fun hu hv h=>by
  rcases vJ hu with⟨i,t,rfl,rfl⟩|⟨x,t,rfl,rfl⟩
  ·rcases vJ hv with⟨j,u,rfl,rfl⟩|⟨y,u,rfl,rfl⟩
   ·rw[aRn]at h;exact wpAny_eqBool_int h
   ·rw[aSh]at h;exact kn.int_str i t y u _ _ _ _ h
  ·rcases vJ hv with⟨j,u,rfl,rfl⟩|⟨y,u,rfl,rfl⟩
   ·rw[aRd]at h;exact kn.str_int x t j u _ _ _ _ h
   ·rw[aQo]at h;exact wpAny_eqBool_str h
 «strs»:=fun k x t v h=>by
  rcases vJ h with⟨i,u,rfl,e⟩|⟨y,u,rfl,e⟩
  ·exact nomatch e
  ·injection e with e1 _;subst e1;cases v <;> rfl
theorem aAk(prog:jy)(w:mf)(i:Int)(t:Tok):(qX prog w).is (.inl i) (.int i t)=true:=aHr i t
theorem aAj(prog:jy)(w:mf)(x:Str)(t:Tok):(qX prog w).is (.inr x) (.str x t)=true:=aGr x t
inductive V where
 |non|bl (b:Bool)|int (i:Int)|str (x:Str)|byt (b:Array UInt8)|flt (b:UInt64)|ref (a:Addr)|ty (n:String)
 deriving DecidableEq
def RelV:V->Value->Prop
 |.non,u=>u=mn
 |.bl b,u=>u=Value.bool b
 |.int i,u=>∃t,u=Value.int i t
 |.str x,u=>∃t,u=Value.str x t
 |.byt b,u=>∃t,u=Value.bytes b t
 |.flt b,u=>∃t,u=Value.float b t
 |.ref a,u=>u=iw a
 |.ty n,u=>u=Value.type n
abbrev kN:List V->List Value->Prop:=zr RelV
theorem kN.length(r:kN xs us):xs.length=us.length:=zr.length r
theorem kN.get:∀{xs:List V}{us:List Value}{i:Nat}{x:V},kN xs us->xs[i]?=some x->∃u,us[i]?=some u/\RelV x u
 |_,_,_,_,.nil,e=>by simp at e
 |_,_,0,_,.cons r _,e=>by simp at e;subst e;exact⟨_,rfl,r⟩
 |_,_,i+1,x,.cons _ t,e=>by
  obtain⟨u,h1,h2⟩:=kN.get (i:=i) (x:=x) t (by simpa using e);exact⟨u,by simpa using h1,h2⟩
theorem kN.set(r:RelV x u):∀{xs:List V}{us:List Value}(i:Nat),kN xs us->kN (xs.set i x) (us.set i u)
 |_,_,_,.nil=>.nil
 |_,_,0,.cons _ t=>.cons r t
 |_,_,i+1,.cons q t=>.cons q (kN.set r i t)
theorem kN.append:∀{xs ys:List V}{us ws:List Value},kN xs us->kN ys ws->kN (xs++ys) (us++ws)
 |_,_,_,_,.nil,s=>s
 |_,_,_,_,.cons r t,s=>.cons r (kN.append t s)
theorem kN.take:∀{xs:List V}{us:List Value}(n:Nat),kN xs us->kN (xs.take n) (us.take n)
 |_,_,0,_=>.nil
 |_,_,_+1,.nil=>.nil
 |_,_,n+1,.cons r t=>.cons r (kN.take n t)
theorem kN.drop:∀{xs:List V}{us:List Value}(n:Nat),kN xs us->kN (xs.drop n) (us.drop n)
 |_,_,0,r=>r
 |_,_,_+1,.nil=>.nil
 |_,_,n+1,.cons _ t=>kN.drop n t
theorem kN.none_of:∀{xs:List V}{us:List Value}{i:Nat},kN xs us->xs[i]?=none->us[i]?=none:=fun {xs us i} r e=>by
 have h1:=r.length;have h2:xs.length<=i:=List.getElem?_eq_none_iff.mp e;exact List.getElem?_eq_none_iff.mpr (by omega)
def zT:Option V->Option Value->Prop
 |some v,some u=>RelV v u
 |none,none=>True
 |_,_=>False
def KV {κ : Type} : List (κ×V)->List (κ×Value)->Prop:=zr fun (p : κ×V) (q : κ×Value)=>p.1=q.1/\RelV p.2 q.2
def kV:Key->V
 |.inl i=>.int i
 |.inr x=>.str x
inductive HO where
 /-- a list -/
 |lst (xs:List V)
 /-- a tuple (never changes) -/
 |tup (xs:List V)
 /-- a dict whose keys are ints and texts;one whose keys are tuples of ints and texts (the empty one is both) -/
 |dK (kvs:List (Key×V))|dT (kvs:List (List Key×V))
 /-- a set of ints: its members,its size -/
 |set (S:Int->Bool) (n:Nat)
 /-- an instance of the class at C,its dict at dx,its attributes -/
 |ins (C dx:Addr) (fs:List (Str×V))
 /-- the dict of the instance at x -/
 |own (x:Addr)
 /-- the dict of an exception -/
 |xd (fs:List (Str×V))
 /-- a bound method,f of x -/
 |met (f x:Addr)
 /-- a range object lo,lo+1,.. below hi -/
 |rng (lo hi:Int)
 /-- a thing that is known to the object (the script;a dict while a loop walks it): read,never written while it is so -/
 |frz (o:Obj) (u:HO)
 /-- a code object's table -/
 |tbl (ps:Array Value)
 /-- any other thing,by what is true of its one object (a def of one's own: SetO a S n := HO.ext fun h => ..) -/
 |ext (φ : kq->Prop)
abbrev Hp:=Addr->Option HO
def upd (H:Hp) (a:Addr) (o:HO):Hp:=fun b=>if b=a then some o else H b
theorem jQ : upd H a o a=some o:=by unfold upd;rw[if_pos rfl]
theorem jZ{H:Hp}{a b:Addr}(h:b≠a):upd H a o b=H b:=by unfold upd;rw[if_neg h]
theorem aMh : upd (upd H a o) a u=upd H a u:=by
 funext b;unfold upd;split <;> rfl
theorem iJ{H:Hp}(h:H a=some o)(h':H b=some u)(d:o≠u):a≠b:=by
 intro e;subst e;rw[h]at h';exact d (lr h')
theorem jL{H:Hp}(h:H a=some o)(h':H b=none):a≠b:=by
 intro e;subst e;rw[h]at h';cases h'
section
variable (P:jy) (w:mf)
def vC (H:Hp) (h:kq) (a:Addr):HO->Prop
 |.lst xs=>xs.length<=ρ/\∃(its:List Value) (n:Nat),kN xs its/\h.get? a=some { cls:=.type "list",data:=.seq its.toArray n }
 |.tup xs=>xs.length<=ρ/\∃its:List Value,kN xs its/\IsTup h a its.toArray
 |.dK kvs=>kvs.length<=ρ/\(a == ly)=false/\∃vs,KV kvs vs/\h.DictOf (qX P w) a vs
 |.dT kvs=>kvs.length<=ρ/\(a == ly)=false/\∃xs:List (List Key×Addr×Value),
   zr (fun (p:List Key×V) (q:List Key×Addr×Value)=>p.1=q.1/\H q.2.1=some (.tup (p.1.map kV))/\RelV p.2 q.2.2) kvs xs ∧
   ∃o es ep,h.get? a=some o/\o.ExactDict/\o.data=.dict es ep/\es.toList=xs.map (entryOfKey (tupleKind (qX P w)))/\(xs.map (·.1)).Nodup
 |.set S n=>h.SetOf (intKind P w) a S n
 |.ins C dx fs=>H dx=some (.own a)/\fs.length<=1000/\dx≠a/\h.get? a=some (rc C dx) ∧
   ∃mA,h.Ns1 dx mA/\(∀f,zT (fs.lookup f) (mA f))/\ql mA (fs.map (·.1))
 |.own _=>∃o,h.get? a=some o
 |.xd fs=>∃mA,h.Ns1 a mA/\∀f,zT (fs.lookup f) (mA f)
 |.rng lo hi=>∃t u v,h.get? a=some { cls:=.type "range",data:=.fields #[.int lo t,.int hi u,.int 1 v] }
 |.frz o u=>h.get? a=some o/\vC H h a u
 |.tbl ps=>h.get? a=some { cls:=.none,data:=.fields ps }
 |.met f x=>h.get? a=some (PySem.W.methodObj (.ref f) (.ref x))
 |.ext φ=>φ h/\(∃o,h.get? a=some o)/\∀h1 h2:kq,φ h1->(∀o,h1.get? a=some o->h2.get? a=some o)->φ h2
def HOk (H:Hp) (h:kq):Prop:=∀a o,H a=some o->vC P w H h a o
end
section
variable {P:jy}{w:mf}{H H':Hp}{h h':kq}{a:Addr}{o:HO}
theorem vC.lt(x:vC P w H h a o):a<h.objs.size:=by
 cases o with
 |lst xs=>obtain⟨_,_,_,_,e⟩:=x;exact io e
 |tup xs=>obtain⟨_,_,_,p⟩:=x;exact p.lt
 |dK kvs=>obtain⟨_,_,_,_,o,_,_,e,_⟩:=x;exact io e
 |dT kvs=>obtain⟨_,_,_,_,o,_,_,e,_⟩:=x;exact io e
 |set S n=>obtain⟨o,_,_,_,e,_⟩:=x;exact io e
 |ins C dx fs=>obtain⟨_,_,_,e,_⟩:=x;exact io e
 |own y=>obtain⟨_,e⟩:=x;exact io e
 |xd fs=>obtain⟨_,⟨_,_,_,e,_⟩,_⟩:=x;exact io e
 |rng lo hi=>obtain⟨_,_,_,e⟩:=x;exact io e
 |frz ob u=>obtain⟨e,_⟩:=x;exact io e
 |tbl ps=>exact io (show h.get? a=some _ from x)
 |met f y=>exact io (show h.get? a=some _ from x)
 |ext φ=>obtain⟨_,⟨_,e⟩,_⟩:=x;exact io e
theorem Paired.mapP{α β : Type}{F G : α->β->Prop}: ∀{l₁ : List α}{l₂ : List β},zr F l₁ l₂->(∀a b,F a b->G a b)->zr G l₁ l₂
 |_,_,.nil,_=>.nil
 |_,_,.cons r t,f=>.cons (f _ _ r) (Paired.mapP t f)
theorem vC.stay(x:vC P w H h a o)(k:∀b u,(b=a\/H b=some (.own a))->h.get? b=some u->h'.get? b=some u)
  (ho:∀b,H b=some (.own a)->H' b=some (.own a))(ht:∀b xs,H b=some (.tup xs)->H' b=some (.tup xs)):vC P w H' h' a o:=by
 induction o with
 |lst xs=>obtain⟨z,its,n,r,e⟩:=x;exact⟨z,its,n,r,k _ _ (.inl rfl) e⟩
 |tup xs=>obtain⟨z,its,r,ob,e,c⟩:=x;exact⟨z,its,r,ob,k _ _ (.inl rfl) e,c⟩
 |dK kvs=>obtain⟨z,y,vs,r,ob,es,ep,e,c⟩:=x;exact⟨z,y,vs,r,ob,es,ep,k _ _ (.inl rfl) e,c⟩
 |dT kvs =>
  obtain⟨z,y,xs,r,ob,es,ep,e,c⟩:=x;exact⟨z,y,xs,Paired.mapP r fun p q z=>⟨z.1,ht _ _ z.2.1,z.2.2⟩,ob,es,ep,k _ _ (.inl rfl) e,c⟩
 |set S n=>obtain⟨ob,es,ep,t,e,c⟩:=x;exact⟨ob,es,ep,t,k _ _ (.inl rfl) e,c⟩
 |ins C dx fs =>
  obtain⟨d,z,ne,e,mA,⟨od,es,ep,e2,c⟩,r⟩:=x;exact⟨ho _ d,z,ne,k _ _ (.inl rfl) e,mA,⟨od,es,ep,k _ _ (.inr d) e2,c⟩,r⟩
 |own y=>obtain⟨ob,e⟩:=x;exact⟨ob,k _ _ (.inl rfl) e⟩
 |xd fs=>obtain⟨mA,⟨od,es,ep,e,c⟩,r⟩:=x;exact⟨mA,⟨od,es,ep,k _ _ (.inl rfl) e,c⟩,r⟩
 |rng lo hi=>obtain⟨t,u,v,e⟩:=x;exact⟨t,u,v,k _ _ (.inl rfl) e⟩
 |frz ob u ih=>obtain⟨e,q⟩:=x;exact⟨k _ _ (.inl rfl) e,ih q⟩
 |tbl ps =>
  have e:h.get? a=some { cls:=.none,data:=.fields ps }:=x;show h'.get? a=some { cls:=.none,data:=.fields ps };exact k a _ (.inl rfl) e
 |met f y =>
  have e:h.get? a=some (PySem.W.methodObj (.ref f) (.ref y)):=x;show h'.get? a=some (PySem.W.methodObj (.ref f) (.ref y));exact k a _ (.inl rfl) e
 |ext φ=>obtain⟨p,⟨o,e⟩,st⟩:=x;exact⟨st _ _ p fun o q=>k _ _ (.inl rfl) q,⟨o,k _ _ (.inl rfl) e⟩,st⟩
theorem HOk.lt(x:HOk P w H h)(e:H a=some o):a<h.objs.size:=(x a o e).lt
theorem HOk.fresh(x:HOk P w H h)(e:h.objs.size<=a):H a=none:=by
 cases q:H a with
 |none=>rfl
 |some u=>exact absurd (ς (x.lt q) e) (qm _)
theorem HOk.kept(x:HOk P w H h)(k:∀b u,h.get? b=some u->h'.get? b=some u):HOk P w H h':=fun a o e =>
 (x a o e).stay (fun b u _ q=>k b u q) (fun _ q=>q) fun _ _ q=>q
theorem HOk.laid(x:HOk P w H h)(k:∀b u,h.get? b=some u->h'.get? b=some u)(hp:h.objs.size<=a)(new:vC P w (upd H a o) h' a o):HOk P w (upd H a o) h':=fun b u e=>by
 have hn:=x.fresh hp
 by_cases hb:b=a
 ·subst hb;rw[jQ]at e;cases e;exact new
 ·rw[jZ hb]at e;exact(x b u e).stay (fun c v _ q=>k c v q) (fun c q=>by rw[jZ (jL q hn)];exact q) fun c xs q=>by rw[jZ (jL q hn)];exact q
end
def Rd (H:Hp) (a:Addr) (u:HO):Prop:=H a=some u\/∃o,H a=some (.frz o u)
theorem Rd.of{H:Hp}(h:H a=some u):Rd H a u:=.inl h
theorem Rd.ok(r:Rd H a u)(x:HOk P w H h):vC P w H h a u:=by
 rcases r with r|⟨o,r⟩
 ·exact x a u r
 ·obtain⟨_,q⟩:=x a _ r;exact q
def Mut:Option HO->Prop
 |some (.lst _)=>True
 |some (.dK _)=>True
 |some (.dT _)=>True
 |some (.set _ _)=>True
 |some (.ins _ _ _)=>True
 |some (.ext _)=>True
 |_=>False
section
variable {P:jy}{w:mf}{H:Hp}{h h':kq}{x e:Addr}{o':HO}
theorem HOk.write(ok:HOk P w H h)(mu:Mut (H x))(he:e=x\/H e=some (.own x))(k:∀b u,b≠e->h.get? b=some u->h'.get? b=some u)(heo:∃u,h'.get? e=some u)
  (new:vC P w (upd H x o') h' x o'):HOk P w (upd H x o') h':=fun b u q=>by
 have nown:∀c y,H c=some (.own y)->c≠x:=fun c y r z=>by subst z;rw[r]at mu;exact mu
 have ntup:∀c xs,H c=some (.tup xs)->c≠x:=fun c xs r z=>by subst z;rw[r]at mu;exact mu
 by_cases hb:b=x
 ·subst hb;rw[jQ]at q;cases q;exact new
 ·rw[jZ hb]at q
  by_cases hbe:b=e
  ·have q':H b=some (.own x):=by
    rcases he with z|z
    ·exact absurd (hbe.trans z) hb
    ·rw[hbe];exact z
   rw[q]at q';cases q';obtain⟨v,hv⟩:=heo;exact⟨v,by rw[hbe];exact hv⟩
  ·refine(ok b u q).stay (fun c v hc r=>k c v ?_ r) (fun c r=>by rw[jZ (nown c b r)];exact r) fun c xs r=>by rw[jZ (ntup c xs r)];exact r
   rcases hc with rfl|hc
   ·exact hbe
   ·rintro rfl;rcases he with z|z
    ·exact nown c b hc z
    ·rw[hc]at z;cases z;exact hb rfl
end
structure Un (fs ex:List Addr) (H H':Hp) (h h':kq):Prop where
 keep:∀b o,h.get? b=some o->H b=none->b∉fs->b∉ex->h'.get? b=some o
 slot:∀b o,h.get? b=some o->H b=none->b∈fs->b∉ex->∃sl,h'.get? b=some { o with slots:=sl }
 free:∀b o,h.get? b=some o->H b=none->b∉ex->H' b=none
 there:∀b o,h.get? b=some o->b∉ex->∃o',h'.get? b=some o'
 tups:∀b xs,H b=some (.tup xs)->H' b=some (.tup xs)
 frzs:∀b o u,H b=some (.frz o u)->H' b=some (.frz o u)
 tbls:∀b ps,H b=some (.tbl ps)->∃more,H' b=some (.tbl (ps++more))
section
variable {fs fs' ex ex':List Addr}{H H1 H2:Hp}{h h1 h2 h':kq}{a x e:Addr}{o:HO}
theorem Un.any(u:Un fs ex H H1 h h1){b:Addr}{ob:Obj}(q:h.get? b=some ob)(n:H b=none)(hx:b∉ex):∃sl,h1.get? b=some { ob with slots:=sl }:=by
 by_cases hb:b∈fs
 ·exact u.slot b ob q n hb hx
 ·exact⟨ob.slots,u.keep b ob q n hb hx⟩
theorem Un.trans(a:Un fs ex H H1 h h1)(b:Un fs ex H1 H2 h1 h2):Un fs ex H H2 h h2 where
 keep:=fun c ob q n hc hx=>b.keep c ob (a.keep c ob q n hc hx) (a.free c ob q n hx) hc hx
 slot:=fun c ob q n hc hx=>by
  obtain⟨sl,e1⟩:=a.slot c ob q n hc hx;obtain⟨sl',e2⟩:=b.slot c _ e1 (a.free c ob q n hx) hc hx;exact⟨sl',e2⟩
 free:=fun c ob q n hx=>by
  obtain⟨o',e1⟩:=a.there c ob q hx;exact b.free c o' e1 (a.free c ob q n hx) hx
 there:=fun c ob q hx=>by
  obtain⟨o',e1⟩:=a.there c ob q hx;exact b.there c o' e1 hx
 tups:=fun c xs q=>b.tups c xs (a.tups c xs q)
 frzs:=fun c ob xs q=>b.frzs c ob xs (a.frzs c ob xs q)
 tbls:=fun c ps q=>by
  obtain⟨m1,e1⟩:=a.tbls c ps q;obtain⟨m2,e2⟩:=b.tbls c _ e1;exact⟨m1++m2,by rw[e2,Array.append_assoc]⟩
theorem Un.kept(k:∀b u,h.get? b=some u->h'.get? b=some u):Un fs ex H H h h' :=
 ⟨fun b ob q _ _ _=>k b ob q,fun b ob q _ _ _=>⟨ob.slots,k b ob q⟩,fun _ _ _ n _=>n,fun b ob q _=>⟨ob,k b ob q⟩,fun _ _ q=>q,fun _ _ _ q=>q,fun _ ps q=>⟨#[],by rw[q];simp⟩⟩
theorem Un.refl:Un fs ex H H h h:=Un.kept fun _ _ q=>q
theorem Un.laid(k:∀b u,h.get? b=some u->h'.get? b=some u)(hp:h.objs.size<=a)(hn:H a=none):Un fs ex H (upd H a o) h h' where
 keep:=fun b u q _ _ _=>k b u q
 slot:=fun b u q _ _ _=>⟨u.slots,k b u q⟩
 free:=fun b u q n _=>by rw[jZ (jb (ς (io q) hp))];exact n
 there:=fun b u q _=>⟨u,k b u q⟩
 tups:=fun b xs q=>by rw[jZ (jL q hn)];exact q
 frzs:=fun b u xs q=>by rw[jZ (jL q hn)];exact q
 tbls:=fun b ps q=>⟨#[],by rw[jZ (jL q hn),q];simp⟩
theorem Un.write(mu:Mut (H x))(he:e=x\/H e=some (.own x))(k:∀b u,b≠e->h.get? b=some u->h'.get? b=some u)(heo:∃u,h'.get? e=some u):Un fs ex H (upd H x o) h h':=by
 have hx:∀b,H b=none->b≠x:=fun b n z=>by subst z;rw[n]at mu;exact mu
 have hb:∀b,H b=none->b≠e:=fun b n z=>by
  subst z;rcases he with r|r
  ·exact hx b n r
  ·rw[n]at r;cases r
 have hm:∀b u,H b=some u->¬ Mut (some u)->b≠x:=fun b u q nm z=>by subst z;rw[q]at mu;exact nm mu
 refine⟨fun b u q n _ _=>k b u (hb b n) q,fun b u q n _ _=>⟨u.slots,k b u (hb b n) q⟩,fun b u q n _=>by rw[jZ (hx b n)];exact n,fun b u q _=>?_,
  fun b xs q=>by rw[jZ (hm b _ q fun z=>z)];exact q,fun b u xs q=>by rw[jZ (hm b _ q fun z=>z)];exact q,fun b ps q=>⟨#[],by rw[jZ (hm b _ q fun z=>z),q];simp⟩⟩
 by_cases hbe:b=e
 ·subst hbe;exact heo
 ·exact⟨u,k b u hbe q⟩
theorem Un.mono(u:Un fs ex H H1 h h1)(hs:∀b∈fs,b∈fs')(hx:∀b∈ex,b∈ex'):Un fs' ex' H H1 h h1 :=
 ⟨fun b ob q n hb he=>u.keep b ob q n (fun z=>hb (hs b z)) fun z=>he (hx b z),fun _ _ q n _ he=>u.any q n fun z=>he (hx _ z),fun b ob q n he=>u.free b ob q n fun z=>he (hx b z),fun b ob q he=>u.there b ob q fun z=>he (hx b z),u.tups,u.frzs,u.tbls⟩
end
def trk (h:kq) (H:Hp):List Addr:=(jg h.objs.size).filter fun a=>(H a).isSome
def uB (h:kq) (H:Hp):kq:=PySem.W.hideAll h (trk h H)
theorem aGt(h:kq)(H:Hp):(uB h H).objs.size=h.objs.size:=PySem.W.hideAll_size _ _
theorem aHx{h:kq}{H:Hp}{b:Addr}(e:h.get? b=some o)(n:H b=none):(uB h H).get? b=some o :=
 PySem.W.hideAll_get _ e fun hm=>by
  have q:(H b).isSome=true:=(List.mem_filter.mp hm).2;rw[n]at q;simp at q
theorem aNh{H:Hp}{b:Addr}(e:(uB h H).get? b=some o):h.get? b=some o/\H b=none:=by
 have e':h.get? b=some o:=PySem.W.of_hideAll (trk h H) e;refine⟨e',?_⟩;cases q:H b with
 |none=>rfl
 |some x =>
  have hm:b∈trk h H:=List.mem_filter.mpr ⟨vk.mpr (io e'),by simp[q]⟩;have z:(uB h H).get? b=none:=PySem.W.hideAll_none (trk h H) hm;rw[z]at e;cases e
def aMt (g h:kq) (L:Addr):List (Addr×Obj):=(jg h.objs.size).filterMap fun a=>if a=L\/(g.get? a).isSome=true then none else (h.get? a).map fun o=>(a,o)
def rest (g h:kq) (L d:Addr):List (Addr×Obj):=(aMt g h L).filter fun p=>decide (p.1≠d)
structure Mod (K:υ) (mg:Str->Option Value) (base:kq):Prop where
 kin:K.In base
 glob:base.Ns ip mg
 blt:∃mb,base.Ns builtinsNs mb/\∀x:Str,x ≠ "__name__"->mb x=lm x
 nolimit:base.NoLimit
structure Cx where
 prog:jy
 w:mf
 K:υ
 mg:Str->Option Value
 base:kq
 A:kg
 N:List Str
 s₀ : ξ
 H₀ : Hp
 env:Env
 outer:List Env
 stack:List Env
 ex:List Addr
 fn:Str->Bool
 calm:Bool
 pn:List (Addr×Obj)
 xe:Value->ξ->Prop
def frs (l:List Env):List Addr:=l.filterMap (·.frame)
abbrev Cx.fs (X:Cx):List Addr:=frs X.outer
def Vis (sc:Scope) (x:Str):Prop:=sc.names.lookup x=some .local\/sc.names.lookup x=some .cell\/sc.names.lookup x=some .free
def Loc (sc:Scope) (x:Str):Prop:=sc.names.lookup x=some .local\/sc.names.lookup x=some .cell
def Look (env:Env) (h:kq) (m:Str->Option Value) (x:Str) (u:Value):Prop :=
 (env.kindOf x=some .local/\m x=some u)\/((env.kindOf x=some .cell\/env.kindOf x=some .free)/\∃c,env.cells.lookup x=some c/\h.IsCell c (some u))
structure Cx.Ok (X:Cx):Prop where
 mod:Mod X.K X.mg X.base
 kind:X.env.scope.kind=.function
 glob:X.env.globals=ip
 blt:X.env.builtins=builtinsNs
 above:X.s₀.heap.objs.size<=X.env.locals
 inj:∀x y c,X.env.cells.lookup x=some c->X.env.cells.lookup y=some c->x=y
 has:∀x,(X.env.kindOf x=some .cell\/X.env.kindOf x=some .free)->∃c,X.env.cells.lookup x=some c
 cab:∀x c,X.fn x=true->X.env.cells.lookup x=some c->X.s₀.heap.objs.size<=c
 hd:X.calm=true->X.A.handled=none
 frames:X.A.frames=some X.stack
 stk:X.stack=X.outer\/(X.stack=X.env::X.outer/\X.env.frame=some X.env.locals)
 exf:∀b∈X.ex,b≠X.env.locals/\∀x c,X.env.cells.lookup x=some c->c≠b
 bs:∀b o,X.base.get? b=some o->X.s₀.heap.get? b=some o/\X.H₀ b=none
 bsz:X.base.objs.size<=X.s₀.heap.objs.size
 noex:∀b o,X.base.get? b=some o->b∉X.ex
 exfs:∀b∈X.ex,b∉X.fs
 funs:X.s₀.heap.FunFrames X.base X.outer
 frf:∀b∈X.fs,X.H₀ b=none
structure Inv (X:Cx) (pins:List (Addr×Obj)) (σ:List (Option V)) (H:Hp) (s:ξ):Prop where
 ok:X.Ok
 os:s.os=X.s₀.os
 bare:AllBare s.gens
 base:Un X.fs X.ex X.H₀ H X.s₀.heap s.heap
 loc:∃m,s.heap.Ns X.env.locals m/\∀(i:Nat) (x:Str) (v:V),X.N[i]?=some x->σ[i]?=some (some v)->Vis X.env.scope x->∃u,RelV v u/\Look X.env s.heap m x u
 cell:∀x c,X.env.cells.lookup x=some c->∃v,s.heap.IsCell c v
 free:H X.env.locals=none
 freeC:∀x c,X.env.cells.lookup x=some c->H c=none
 pin:∀p∈X.pn++pins,s.heap.get? p.1=some p.2/\H p.1=none/\p.1≠X.env.locals/\p.1∉X.fs/\∀v,p.2.data≠.cell v
 hok:HOk X.prog X.w H s.heap
 len : σ.length=X.N.length
section
variable {X:Cx}{pins:List (Addr×Obj)}{σ:List (Option V)}{H H':Hp}{s:ξ}{h':kq}
theorem Cx.Ok.nofr(ok:X.Ok){b:Addr}(e:X.base.get? b=some o):b∉X.fs:=fun hb=>by
 have:=(ok.funs.mem hb).1;rw[e]at this;cases this
theorem Inv.bs(I:Inv X pins σ H s):∀b o,X.base.get? b=some o->s.heap.get? b=some o/\H b=none:=fun b o e =>
 ⟨I.base.keep b o (I.ok.bs b o e).1 (I.ok.bs b o e).2 (I.ok.nofr e) (I.ok.noex b o e),I.base.free b o (I.ok.bs b o e).1 (I.ok.bs b o e).2 (I.ok.noex b o e)⟩
theorem Inv.bk(I:Inv X pins σ H s):∀b o,X.base.get? b=some o->s.heap.get? b=some o:=fun b o e=>(I.bs b o e).1
theorem Inv.mod(I:Inv X pins σ H s):Mod X.K X.mg X.base:=I.ok.mod
theorem Inv.kIn(I:Inv X pins σ H s):X.K.In s.heap:=I.ok.mod.kin.keeps I.bk
theorem Inv.nolimit(I:Inv X pins σ H s):s.heap.NoLimit:=I.ok.mod.nolimit.keeps I.bk
theorem Inv.fr(I:Inv X pins σ H s):∃m,Fr X.base X.env.locals s.heap m :=
 let ⟨m,hn,_⟩:=I.loc
 ⟨m,hn,I.bk,Θ I.ok.bsz I.ok.above⟩
theorem Inv.lt(I:Inv X pins σ H s):X.env.locals<s.heap.objs.size:=let ⟨_,hn,_⟩:=I.loc;hn.lt
theorem Inv.sz(I:Inv X pins σ H s):X.s₀.heap.objs.size<=s.heap.objs.size:=Θ I.ok.above (pk I.lt)
theorem Inv.nofs(I:Inv X pins σ H s){a:Addr}(h:s.heap.objs.size<=a):a∉X.fs:=fun hb=>by
 obtain⟨_,o,ho,_⟩:=I.ok.funs.mem hb;exact absurd (ς (io ho) (Θ I.sz h)) (qm _)
theorem Inv.cne(I:Inv X pins σ H s):∀x c,X.env.cells.lookup x=some c->c≠X.env.locals:=fun x c e z=>by
 obtain⟨v,o,ho,hd⟩:=I.cell x c e;obtain⟨m,⟨o',es,ep,ho',hd',_⟩,_⟩:=I.loc;rw[z,ho']at ho;cases ho;rw[hd']at hd;cases hd
theorem Inv.funs(I:Inv X pins σ H s):s.heap.FunFrames X.base X.outer:=by
 have all:∀(l:List Env),(∀b∈frs l,b∈X.fs)->X.s₀.heap.FunFrames X.base l->s.heap.FunFrames X.base l:=by
  intro l
  induction l with
  |nil=>intro _ _;trivial
  |cons env r ih =>
   intro hs hl;obtain⟨hk,⟨L,o,hf,hn,ho,hd⟩,hr⟩:=hl;have hL:L∈X.fs:=hs L (by unfold frs;rw[List.filterMap_cons,hf];exact Ω);obtain⟨sl,e⟩:=I.base.slot L o ho (I.ok.frf L hL) hL fun z=>I.ok.exfs L z hL;exact⟨hk,⟨L,_,hf,hn,e,hd⟩,ih (fun b hb=>hs b (by unfold frs;rw[List.filterMap_cons,hf];exact Ξ _ hb)) hr⟩
 exact all X.outer (fun _ hb=>hb) I.ok.funs
theorem Inv.stack(I:Inv X pins σ H s):s.heap.FunFrames X.base X.stack:=by
 rcases I.ok.stk with e|⟨e,hf⟩
 ·rw[e];exact I.funs
 ·rw[e];obtain⟨m,hn,_⟩:=I.loc;refine .cons (by rw[I.ok.kind];decide) hf hn ?_ I.funs;exact tq (Θ I.ok.bsz I.ok.above)
theorem Inv.stkSub(I:Inv X pins σ H s):∀b∈frs X.stack,b∈X.env.locals::X.fs:=fun b hb=>by
 rcases I.ok.stk with e|⟨e,hf⟩
 ·rw[e]at hb;exact Ξ _ hb
 ·rw[e]at hb;unfold frs at hb;rw[List.filterMap_cons,hf]at hb;exact hb
theorem Inv.stkFree(I:Inv X pins σ H s):∀b∈frs X.stack,H b=none:=fun b hb=>by
 rcases Φ.mp (I.stkSub b hb) with e|hb
 ·rw[e];exact I.free
 ·obtain⟨_,o,ho,_⟩:=I.ok.funs.mem hb;exact I.base.free b o ho (I.ok.frf b hb) fun z=>I.ok.exfs b z hb
theorem Inv.step{t':Nat}{d':Drawn}{ch:List Addr}(I:Inv X pins σ H s)
  (hch:∀b∈ch,(b∈X.ex\/X.s₀.heap.objs.size<=b)/\b≠X.env.locals/\(∀x c,X.env.cells.lookup x=some c->c≠b)/\∀p∈X.pn++pins,p.1≠b)
  (keep:∀b o,b≠X.env.locals->b∉X.fs->b∉ch->s.heap.get? b=some o->H b=none->h'.get? b=some o)
  (slot:∀b o,b≠X.env.locals->b∈X.fs->b∉ch->s.heap.get? b=some o->H b=none->∃sl,h'.get? b=some { o with slots:=sl })(free:∀b o,b∉ch->s.heap.get? b=some o->H b=none->H' b=none)
  (there:∀b o,b∉ch->s.heap.get? b=some o->∃o',h'.get? b=some o')
  (tups:∀b xs,H b=some (.tup xs)->H' b=some (.tup xs))(frzs:∀b o u,H b=some (.frz o u)->H' b=some (.frz o u))(tbls:∀b ps,H b=some (.tbl ps)->∃more,H' b=some (.tbl (ps++more)))
  (ns:∀m,s.heap.Ns X.env.locals m->h'.Ns X.env.locals m)(hok:HOk X.prog X.w H' h')(hg:AllBare g'):
  Inv X pins σ H' { s with heap:=h',gens:=g',drawn:=d',toks:=t' }:=by
 have neL:∀b o,X.s₀.heap.get? b=some o->b≠X.env.locals:=fun b o e=>jb (ς (io e) I.ok.above);have neC:∀b o,X.s₀.heap.get? b=some o->b∉X.ex->b∉ch:=fun b o e hx hb=>by
  rcases (hch b hb).1 with z|z
  ·exact hx z
  ·exact absurd (ς (io e) z) (qm _)
 have cellK:∀x c,X.env.cells.lookup x=some c->∀v,s.heap.IsCell c v->h'.IsCell c v:=fun x c e v ⟨o,ho,hd⟩=>by
  have nch:c∉ch:=fun z=>(hch c z).2.2.1 x c e rfl
  by_cases hc:c∈X.fs
  ·obtain⟨sl,q⟩:=slot c o (I.cne x c e) hc nch ho (I.freeC x c e);exact⟨_,q,hd⟩
  ·exact⟨o,keep c o (I.cne x c e) hc nch ho (I.freeC x c e),hd⟩
 refine⟨I.ok,I.os,hg,⟨fun b o e n hb hx=>?_,fun b o e n hb hx=>?_,fun b o e n hx=>?_,fun b o e hx=>?_,fun b xs e=>tups b xs (I.base.tups b xs e),fun b o xs e=>frzs b o xs (I.base.frzs b o xs e),fun b ps e=>?_⟩,?_,fun x c e=>?_,?_,fun x c e=>?_,fun p hp=>?_,hok,I.len⟩
 ·exact keep b o (neL b o e) hb (neC b o e hx) (I.base.keep b o e n hb hx) (I.base.free b o e n hx)
 ·obtain⟨sl,e1⟩:=I.base.slot b o e n hb hx;obtain⟨sl',e2⟩:=slot b _ (neL b o e) hb (neC b o e hx) e1 (I.base.free b o e n hx);exact⟨sl',e2⟩
 ·obtain⟨o',e1⟩:=I.base.there b o e hx;exact free b o' (neC b o e hx) e1 (I.base.free b o e n hx)
 ·obtain⟨o',e1⟩:=I.base.there b o e hx;exact there b o' (neC b o e hx) e1
 ·obtain⟨m1,e1⟩:=I.base.tbls b ps e;obtain⟨m2,e2⟩:=tbls b _ e1;exact⟨m1++m2,by rw[e2,Array.append_assoc]⟩
 ·obtain⟨m,hn,hl⟩:=I.loc;refine⟨m,ns m hn,fun i x v e1 e2 e3=>?_⟩;obtain⟨u,r,l⟩:=hl i x v e1 e2 e3;refine⟨u,r,?_⟩;rcases l with l|⟨k,c,e,z⟩
  ·exact .inl l
  ·exact .inr ⟨k,c,e,cellK x c e _ z⟩
 ·obtain⟨v,z⟩:=I.cell x c e;exact⟨v,cellK x c e v z⟩
 ·obtain⟨m,⟨o,_,_,ho,_⟩,_⟩:=I.loc;exact free _ o (fun z=>(hch _ z).2.1 rfl) ho I.free
 ·obtain⟨v,o,ho,hd⟩:=I.cell x c e;exact free c o (fun z=>(hch c z).2.2.1 x c e rfl) ho (I.freeC x c e)
 ·obtain⟨e,n,ne,nf,d⟩:=I.pin p hp;have nch:p.1∉ch:=fun z=>(hch p.1 z).2.2.2 p hp rfl;exact⟨keep p.1 p.2 ne nf nch e n,free p.1 p.2 nch e n,ne,nf,d⟩
theorem Inv.un{t':Nat}(I:Inv X pins σ H s)(u:Un X.fs [] H H' s.heap h')(hok:HOk X.prog X.w H' h'):Inv X pins σ H' { s with heap:=h',toks:=t' }:=by
 obtain⟨m,⟨o,es,ep,ho,r⟩,_⟩:=id I.loc;obtain⟨sl,hL⟩:=u.any ho I.free (by simp);exact I.step (g':=s.gens) (d':=s.drawn) (ch:=[]) (fun _ z=>nomatch z) (fun b o _ hb _ e n=>u.keep b o e n hb (by simp)) (fun b o _ hb _ e n=>u.slot b o e n hb (by simp)) (fun b o _ e n=>u.free b o e n (by simp)) (fun b o _ e=>u.there b o e (by simp)) u.tups u.frzs u.tbls (fun m' hm=>by
  obtain⟨o',es',ep',ho',r'⟩:=hm;rw[ho]at ho';cases ho';exact⟨_,es',ep',hL,r'⟩) hok I.bare
theorem Inv.call{t':Nat}{d':Drawn}(I:Inv X pins σ H s)(u:Un (frs X.stack) ch H H' s.heap h')(hok:HOk X.prog X.w H' h')(hg:AllBare g')
  (hch:∀b∈ch,(b∈X.ex\/X.s₀.heap.objs.size<=b)/\b≠X.env.locals/\(∀x c,X.env.cells.lookup x=some c->c≠b)/\∀p∈X.pn++pins,p.1≠b):
  Inv X pins σ H' { s with heap:=h',gens:=g',drawn:=d',toks:=t' }:=by
 obtain⟨m,⟨o,es,ep,ho,r⟩,_⟩:=id I.loc;obtain⟨sl,hL⟩:=u.any ho I.free fun z=>(hch _ z).2.1 rfl;exact I.step (ch:=ch) hch (fun b o hL hb hc e n=>u.keep b o e n (fun z=>(Φ.mp (I.stkSub b z)).elim hL hb) hc) (fun b o _ _ hc e n=>u.any e n hc) (fun b o hc e n=>u.free b o e n hc) (fun b o hc e=>u.there b o e hc) u.tups u.frzs u.tbls (fun m' hm=>by
  obtain⟨o',es',ep',ho',r'⟩:=hm;rw[ho]at ho';cases ho';exact⟨_,es',ep',hL,r'⟩) hok hg
theorem Inv.turned{t':Nat}{it:Addr}(I:Inv X pins σ H s)(k:∀b o,b≠it->s.heap.get? b=some o->h'.get? b=some o)(hn:H it=none)(hL:it≠X.env.locals)
  (h1:it∈X.ex\/X.s₀.heap.objs.size<=it)(h2:∀x c,X.env.cells.lookup x=some c->c≠it)(h3:∀p∈X.pn++pins,p.1≠it):Inv X pins σ H { s with heap:=h',toks:=t' }:=by
 have nit:∀b u,H b=some u->b≠it:=fun b u e z=>by rw[z,hn]at e;cases e
 refine I.step (g':=s.gens) (d':=s.drawn) (ch:=[it]) (fun b hb=>?_) (fun b o _ _ hc e _=>k b o (fun z=>hc (by simp[z])) e) (fun b o _ _ hc e _=>⟨o.slots,k b o (fun z=>hc (by simp[z])) e⟩) (fun _ _ _ _ n=>n)
  (fun b o hc e=>⟨o,k b o (fun z=>hc (by simp[z])) e⟩) (fun _ _ e=>e) (fun _ _ _ e=>e) (fun b ps e=>⟨#[],by rw[e];simp⟩) (fun m hm=>?_) (fun b u e=>?_) I.bare
 ·have e:b=it:=by simpa using hb
  subst e;exact⟨h1,hL,h2,h3⟩
 ·obtain⟨o,es,ep,ho,r⟩:=hm;exact⟨o,es,ep,k _ o (lu hL) ho,r⟩
 ·refine(I.hok b u e).stay (fun c v hc q=>k c v ?_ q) (fun _ q=>q) fun _ _ q=>q;rcases hc with z|z
  ·rw[z];exact nit b u e
  ·exact nit c _ z
theorem Inv.tok(I:Inv X pins σ H s)(t:Nat):Inv X pins σ H { s with toks:=t }:=I.un (h':=s.heap) (t':=t) Un.refl I.hok
theorem Inv.kept{t':Nat}(I:Inv X pins σ H s)(k:∀b u,s.heap.get? b=some u->h'.get? b=some u):Inv X pins σ H { s with heap:=h',toks:=t' }:=I.un (Un.kept k) (I.hok.kept k)
theorem Inv.laid{a:Addr}{t':Nat}(I:Inv X pins σ H s)(k:∀b u,s.heap.get? b=some u->h'.get? b=some u)(hp:s.heap.objs.size<=a)(new:vC X.prog X.w (upd H a o) h' a o):
  Inv X pins σ (upd H a o) { s with heap:=h',toks:=t' }:=I.un (Un.laid k hp (I.hok.fresh hp)) (I.hok.laid k hp new)
theorem Inv.write{e:Addr}{t':Nat}(I:Inv X pins σ H s)(mu:Mut (H x))(he:e=x\/H e=some (.own x))(k:∀b u,b≠e->s.heap.get? b=some u->h'.get? b=some u)(heo:∃u,h'.get? e=some u)
  (new:vC X.prog X.w (upd H x o) h' x o):Inv X pins σ (upd H x o) { s with heap:=h',toks:=t' }:=I.un (Un.write mu he k heo) (I.hok.write mu he k heo new)
theorem Inv.pins_of{pins':List (Addr×Obj)}(I:Inv X pins σ H s)(h:∀p∈pins',s.heap.get? p.1=some p.2/\H p.1=none/\p.1≠X.env.locals/\p.1∉X.fs/\∀v,p.2.data≠.cell v):Inv X pins' σ H s :=
 ⟨I.ok,I.os,I.bare,I.base,I.loc,I.cell,I.free,I.freeC,fun p hp=>(km.mp hp).elim (fun z=>I.pin p (nv _ z)) (h p),I.hok,I.len⟩
theorem oM{N:List Str}(hN:N.Nodup){i j:Nat}(a:N[i]?=some x)(b:N[j]?=some x):i=j:=by
 obtain⟨h1,e1⟩:=η.mp a;obtain⟨h2,e2⟩:=η.mp b;exact(List.getElem_inj hN).mp (e1.trans e2.symm)
theorem lB{i:Nat}{Q:Unit->ξ->Prop}(I:Inv X pins σ H s)(hN:X.N.Nodup)(hi:X.N[i]?=some x)(hx:Loc X.env.scope x)(r:RelV v u)
  (h:∀s',Inv X pins (σ.set i (some v)) H s'->(∃a,oh a s.heap s'.heap/\(a=X.env.locals\/X.env.cells.lookup x=some a))->Q () s')(hf:X.fn x=true\/X.env.scope.names.lookup x=some .local:=by first|exact .inl rfl|exact .inr rfl|assumption):ik M A (storeName X.env x u) Q E s:=by
 obtain⟨m,hn,hl⟩:=id I.loc;have hcls:(X.env.scope.kind == .class||(X.env.scope.kind == .module&&X.env.locals != X.env.globals))=false:=by rw[I.ok.kind];rfl
 have hiσ:i<σ.length:=by rw[I.len];exact(η.mp hi).1
 have cne:=I.cne;have tracked:∀{a:Addr}{h':kq},(∃o,s.heap.get? a=some o/\H a=none)->oh a s.heap h'->HOk X.prog X.w H h':=fun {a h'} ha hs b ob e=>by
  obtain⟨_,_,hfree⟩:=ha;refine(I.hok b ob e).stay (fun c w' hc q=>(hs.2 c ?_).trans q) (fun _ q=>q) fun _ _ q=>q;rintro rfl;rcases hc with rfl|hc
  ·rw[hfree]at e;cases e
  ·rw[hfree]at hc;cases hc
 rcases hx with hk|hk
 ·refine wpAny_storeName_local hk hn (fun h' hn' hs=>?_) hcls;obtain⟨oL,_,_,hoL,_⟩:=id hn;refine h _ ⟨I.ok,I.os,I.bare,⟨fun b o e n hb hx=>?_,fun b o e n hb hx=>?_,I.base.free,fun b o e hx=>?_,I.base.tups,I.base.frzs,I.base.tbls⟩,⟨_,hn',fun j y v' e1 e2 e3=>?_⟩,fun y c e=>?_,I.free,I.freeC,fun p hp=>?_,tracked ⟨oL,hoL,I.free⟩ hs,by simpa using I.len⟩ ⟨_,hs,.inl rfl⟩
  ·exact(hs.2 b (jb (ς (io e) I.ok.above))).trans (I.base.keep b o e n hb hx)
  ·obtain⟨sl,e1⟩:=I.base.slot b o e n hb hx;exact⟨sl,(hs.2 b (jb (ς (io e) I.ok.above))).trans e1⟩
  ·obtain⟨o',e1⟩:=I.base.there b o e hx;exact⟨o',(hs.2 b (jb (ς (io e) I.ok.above))).trans e1⟩
  ·by_cases hj:j=i
   ·subst hj;rw[hi]at e1;cases e1;rw[xy hiσ]at e2;cases e2;exact⟨u,r,.inl ⟨hk,by simp⟩⟩
   ·rw[zj (lu hj)]at e2;obtain⟨u',r',q⟩:=hl j y v' e1 e2 e3;refine⟨u',r',?_⟩;rcases q with⟨k,e⟩|⟨k,c,e,z⟩
    ·refine .inl ⟨k,?_⟩;have:y≠x:=fun e=>hj (oM hN e1 (e ▸ hi));simp[this,e]
    ·exact .inr ⟨k,c,e,z.sameBut hs (cne y c e)⟩
  ·obtain⟨w',z⟩:=I.cell y c e;exact⟨w',z.sameBut hs (cne y c e)⟩
  ·obtain⟨e,n,ne,nf,d⟩:=I.pin p hp;exact⟨(hs.2 p.1 ne).trans e,n,ne,nf,d⟩
 ·have hfn:X.fn x=true:=by
   rcases hf with z|z
   ·exact z
   ·rw[z]at hk;cases hk
  obtain⟨c,hc⟩:=I.ok.has x (.inl hk);obtain⟨w',z⟩:=I.cell x c hc;refine wpAny_storeName_cell I.ok.kind hk hc z (fun h' hc' hs=>?_);obtain⟨oc,hoc,hocd⟩:=id z;refine h { s with heap:=h' } ⟨I.ok,I.os,I.bare,⟨fun b o e n hb hx=>?_,fun b o e n hb hx=>?_,I.base.free,fun b o e hx=>?_,I.base.tups,I.base.frzs,I.base.tbls⟩,⟨m,hn.sameBut hs (lu (cne x c hc)),fun j y v' e1 e2 e3=>?_⟩,fun y c' e=>?_,I.free,I.freeC,fun p hp=>?_,tracked ⟨oc,hoc,I.freeC x c hc⟩ hs,by simpa using I.len⟩ ⟨c,hs,.inr hc⟩
  ·exact(hs.2 b (jb (ς (io e) (I.ok.cab x c hfn hc)))).trans (I.base.keep b o e n hb hx)
  ·obtain⟨sl,e1⟩:=I.base.slot b o e n hb hx;exact⟨sl,(hs.2 b (jb (ς (io e) (I.ok.cab x c hfn hc)))).trans e1⟩
  ·obtain⟨o',e1⟩:=I.base.there b o e hx;exact⟨o',(hs.2 b (jb (ς (io e) (I.ok.cab x c hfn hc)))).trans e1⟩
  ·by_cases hj:j=i
   ·subst hj;rw[hi]at e1;cases e1;rw[xy hiσ]at e2;cases e2;exact⟨u,r,.inr ⟨.inl hk,c,hc,hc'⟩⟩
   ·rw[zj (lu hj)]at e2;obtain⟨u',r',q⟩:=hl j y v' e1 e2 e3;refine⟨u',r',?_⟩;rcases q with q|⟨k,c',e,z'⟩
    ·exact .inl q
    ·refine .inr ⟨k,c',e,z'.sameBut hs ?_⟩;rintro rfl;exact hj (oM hN e1 (I.ok.inj _ _ _ e hc ▸ hi))
  ·by_cases hcc:c'=c
   ·subst hcc;exact⟨_,hc'⟩
   ·obtain⟨w2,z2⟩:=I.cell y c' e;exact⟨w2,z2.sameBut hs hcc⟩
  ·obtain⟨e,n,ne,nf,d⟩:=I.pin p hp;refine⟨(hs.2 p.1 ?_).trans e,n,ne,nf,d⟩;intro q;rw[q,hoc]at e;have q':oc=p.2:=lr e;exact d w' (by rw[←q'];exact hocd)
theorem aAm{i:Nat}{Q:Unit->ξ->Prop}(I:Inv X pins σ H s)(hN:X.N.Nodup)(hi:X.N[i]?=some x)(hx:Loc X.env.scope x)(r:RelV v u)
  (h:∀s',Inv X pins (σ.set i (some v)) H s'->Q () s')(hf:X.fn x=true\/X.env.scope.names.lookup x=some .local:=by first|exact .inl rfl|exact .inr rfl|assumption):ik M A (storeName X.env x u) Q E s :=
 lB I hN hi hx r (fun s' I' _=>h s' I') hf
theorem Inv.call'{s':ξ}(I:Inv X pins σ H s)(ho:s'.os=s.os)(u:Un (frs X.stack) ch H H' s.heap s'.heap)(hok:HOk X.prog X.w H' s'.heap)(hg:AllBare s'.gens)
  (hch:∀b∈ch,(b∈X.ex\/X.s₀.heap.objs.size<=b)/\b≠X.env.locals/\(∀x c,X.env.cells.lookup x=some c->c≠b)/\∀p∈X.pn++pins,p.1≠b):Inv X pins σ H' s':=by
 obtain⟨h',g',d',t',o'⟩:=s';have e:o'=s.os:=ho;subst e;exact I.call (g':=g') (t':=t') (d':=d') u hok hg hch
end
abbrev XK:=Value->Option Addr->Hp->Prop
abbrev St:=List (Option V)
abbrev VK:=V->Hp->Prop
abbrev TE:=St->Hp->VK->Prop
abbrev TT:=St->Hp->(Bool->Hp->Prop)->Prop
abbrev TA:=St->Hp->(List V->Hp->Prop)->Prop
structure Ends where
 nx:St->Hp->Prop
 rt:VK
 bk:St->Hp->Prop:=fun _ _=>False
 ct:St->Hp->Prop:=fun _ _=>False
abbrev TS:=Ends->St->Hp->Prop
def EP (X:Cx) (pins:List (Addr×Obj)) (σ:St) (Q:VK) (u:Value) (s':ξ):Prop:=∃v H',Inv X pins σ H' s'/\RelV v u/\Q v H'
def TP (X:Cx) (pins:List (Addr×Obj)) (σ:St) (Q:Bool->Hp->Prop) (b:Bool) (s':ξ):Prop:=∃H',Inv X pins σ H' s'/\Q b H'
def AP (X:Cx) (pins:List (Addr×Obj)) (σ:St) (Q:List V->Hp->Prop) (us:List Value) (s':ξ):Prop:=∃vs H',Inv X pins σ H' s'/\kN vs us/\Q vs H'
theorem EP.el{Q:VK}{C:Prop}(h:EP X pins σ Q u s)(f:∀v H,Inv X pins σ H s->RelV v u->Q v H->C):C:=by
 obtain⟨v,H,a,b,c⟩:=h;exact f v H a b c
theorem AP.el{Q:List V->Hp->Prop}{C:Prop}(h:AP X pins σ Q u s)(f:∀v H,Inv X pins σ H s->kN v u->Q v H->C):C:=by
 obtain⟨v,H,a,b,c⟩:=h;exact f v H a b c
def SP (X:Cx) (pins:List (Addr×Obj)) (D:Ends) (f:Flow) (s':ξ):Prop :=
 match f with
 |.next=>∃σ' H',Inv X pins σ' H' s'/\D.nx σ' H'
 |.brk=>∃σ' H',Inv X pins σ' H' s'/\D.bk σ' H'
 |.cont=>∃σ' H',Inv X pins σ' H' s'/\D.ct σ' H'
 |.ret u=>∃v σ' H',Inv X pins σ' H' s'/\RelV v u/\D.rt v H'
def PE (X:Cx) (e:Expr) (t:TE):Prop :=
 ∀(pins:List (Addr×Obj)) (s:ξ) (σ:St) (H:Hp) (Q:VK),Inv X pins σ H s->t σ H Q->ik (ir X.prog X.w) X.A (eval e X.env) (EP X pins σ Q) X.xe s
def PT (X:Cx) (e:Expr) (t:TT):Prop :=
 ∀(pins:List (Addr×Obj)) (s:ξ) (σ:St) (H:Hp) (Q:Bool->Hp->Prop),Inv X pins σ H s->t σ H Q->ik (ir X.prog X.w) X.A (isTrue e X.env (eval e X.env)) (TP X pins σ Q) X.xe s
def PW (X:Cx) (e:Expr) (t:TT):Prop :=
 ∀(whole:Sem Value) (pins:List (Addr×Obj)) (s:ξ) (σ:St) (H:Hp) (Q:Bool->Hp->Prop),Inv X pins σ H s->t σ H Q->ik (ir X.prog X.w) X.A (isTrue e X.env whole) (TP X pins σ Q) X.xe s
theorem PW.pt(h:PW X e t):PT X e t:=h _
def PA (X:Cx) (es:List Expr) (t:TA):Prop :=
 ∀(pos:Pos) (pins:List (Addr×Obj)) (s:ξ) (σ:St) (H:Hp) (Q:List V->Hp->Prop),Inv X pins σ H s->t σ H Q->ik (ir X.prog X.w) X.A (spliced (rf pos (il es X.env))) (AP X pins σ Q) X.xe s
def PS (X:Cx) (st:Stmt) (t:TS):Prop :=
 ∀(pins:List (Addr×Obj)) (s:ξ) (σ:St) (H:Hp) (D:Ends),Inv X pins σ H s->t D σ H->ik (ir X.prog X.w) X.A (exec st X.env) (SP X pins D) X.xe s
def PSs (X:Cx) (st:List Stmt) (t:TS):Prop :=
 ∀(pins:List (Addr×Obj)) (s:ξ) (σ:St) (H:Hp) (D:Ends),Inv X pins σ H s->t D σ H->ik (ir X.prog X.w) X.A (execs st X.env) (SP X pins D) X.xe s
theorem thn{α : Type}{t:Sem α}{Q Q' : α->ξ->Prop}{M:Model}{A:kg}{E:Value->ξ->Prop}{s:ξ}(h:ik M A t Q E s)(hQ:∀a s,Q a s->Q' a s):ik M A t Q' E s:=kj h hQ fun _ _ x=>x
section
variable {X:Cx}
inductive aLk (i:Nat) (σ:St) (H:Hp) (Q:VK):Prop|mk:∀v,σ[i]?=some (some v)->Q v H->aLk i σ H Q
def aAg (i:Nat):TE:=fun σ H Q=>aLk i σ H Q
def tC (v:V):TE:=fun _ H Q=>Q v H
theorem aRr{i:Nat}(hN:X.N[i]?=some x)(hv:Vis X.env.scope x)(hd:(x == ("__debug__" : Str))=false:=by decide)(hcd:(x == ("__classdict__" : Str))=false:=by decide):PE X (.Name x pos) (aAg i):=by
 intro pins s σ H Q I h;obtain⟨v,e,h⟩:=h;obtain⟨m,hn,hl⟩:=I.loc;obtain⟨u,r,l⟩:=hl i x v hN e hv;have fin:EP X pins σ Q u s:=⟨v,H,I,r,h⟩;rcases l with⟨hk,hm⟩|⟨hk,c,hc,hcell⟩
 ·exact wpAny_Name (wpAny_loadName_local I.ok.kind hk hn hm fin) hd
 ·rcases hk with hk|hk
  ·exact wpAny_Name (wpAny_loadName_cell I.ok.kind hk hc hcell fin) hd
  ·exact wpAny_Name (wpAny_loadName_free I.ok.kind hk hc hcell fin hcd) hd
theorem jC{i j pos}: PE X (.Constant (.int i) j pos) (tC (.int i)):=fun _ _ _ H _ I h=>wpAny_Constant_int ⟨.int i,H,I.tok _,⟨_,rfl⟩,h⟩
theorem yJ{b j pos}: PE X (.Constant (.bool b) j pos) (tC (.bl b)):=fun _ _ _ H _ I h=>Constant_bool ⟨.bl b,H,I,rfl,h⟩
theorem vE{j pos}: PE X (.Constant .none j pos) (tC .non):=fun _ _ _ H _ I h=>Constant_none ⟨.non,H,I,rfl,h⟩
theorem jO{x j pos}: PE X (.Constant (.str x) j pos) (tC (.str x)):=fun _ _ _ H _ I h=>Calls.Constant_str ⟨.str x,H,I.tok _,⟨_,rfl⟩,h⟩
def Gl (X:Cx) (x:Str):Prop:=X.env.kindOf x=some .globalImplicit
theorem cM{Q:Value->ξ->Prop}(I:Inv X pins σ H s)(hg:Gl X x)(hm:X.mg x=some u)(h:Q u s)
  (hd:(x == ("__debug__" : Str))=false:=by decide):ik (ir X.prog X.w) X.A (eval (.Name x pos) X.env) Q E s :=
 Calls.Name_function_global I.ok.kind hg (Calls.loadGlobal_global (by rw[I.ok.glob];exact I.mod.glob.keeps I.bk) hm h) hd
theorem lR{Q:Value->ξ->Prop}(I:Inv X pins σ H s)(hg:Gl X x)(hm:X.mg x=none)(hv:lm x=some u)(h:Q u s)
  (hn:x ≠ "__name__":=by decide)(hd:(x == ("__debug__" : Str))=false:=by decide):ik (ir X.prog X.w) X.A (eval (.Name x pos) X.env) Q E s:=by
 obtain⟨mb,h1,h2⟩:=I.mod.blt;exact Calls.Name_function_global I.ok.kind hg (Calls.loadGlobal_builtin (by rw[I.ok.glob];exact I.mod.glob.keeps I.bk) hm (by rw[I.ok.blt];exact h1.keeps I.bk) ((h2 x hn).trans hv) h) hd
theorem qL(hg:Gl X x)(hm:X.mg x=some u)(r:RelV v u)(hd:(x == ("__debug__" : Str))=false:=by decide):PE X (.Name x pos) (tC v) :=
 fun _ _ _ H _ I h=>cM I hg hm ⟨v,H,I,r,h⟩ hd
theorem vI(hg:Gl X x)(hm:X.mg x=none)(hv:lm x=some u)(r:RelV v u)(hn:x ≠ "__name__":=by decide)(hd:(x == ("__debug__" : Str))=false:=by decide):PE X (.Name x pos) (tC v) :=
 fun _ _ _ H _ I h=>lR I hg hm hv ⟨v,H,I,r,h⟩ hn hd
variable {a b:Expr}{ta tb:TE}{pos:Pos}
def PC (X:Cx) (op:CmpOp) (a b:Expr) (t:TE):Prop :=
 ∀(pins:List (Addr×Obj)) (s:ξ) (σ:St) (H:Hp) (Q:VK),Inv X pins σ H s->t σ H Q →
  ik (ir X.prog X.w) X.A (eval a X.env) (fun v s₁=>ik (ir X.prog X.w) X.A (eval b X.env) (fun u s₂=>ik (ir X.prog X.w) X.A (ky op v u) (EP X pins σ Q) X.xe s₂) X.xe s₁) X.xe s
theorem aCh(b:Expr){op:CmpOp}(h:op≠.In)(h2:op≠.NotIn):ub op b=false:=by
 have e1:(op == CmpOp.In)=false:=by cases op <;> first|rfl|exact absurd rfl h
 have e2:(op == CmpOp.NotIn)=false:=by cases op <;> first|rfl|exact absurd rfl h2
 cases b <;> simp[ub,e1,e2]
def tB (t:TE):TT:=fun σ H Q=>t σ H fun x H1=>∃c,x=.bl c/\Q c H1
theorem aRu(h:PC X op a b t)(h1:ub op b=false:=by first|exact aCh _ (by decide) (by decide)|rfl):PE X (.Compare a [op] [b] pos) t:=fun pins s σ H Q I hw=>wpAny_Compare1 (h pins s σ H Q I hw) h1
theorem aQi(h:PC X op a b t)(h1:ub op b=false:=by first|exact aCh _ (by decide) (by decide)|rfl):PT X (.Compare a [op] [b] pos) (tB t):=by
 intro pins s σ H Q I hw;refine wpAny_isTrue_Compare1 (thn (h pins s σ H _ I hw) fun v s1 h1=>thn h1 fun u s2 h2=>thn h2 fun c s3 zq=>?_) h1;obtain⟨x,H1,I1,r1,q1⟩:=zq;obtain⟨d,rfl,q⟩:=q1;cases r1;exact mh ⟨H1,I1,q⟩
theorem kZ(h:PE X e t)(he:∀whole,isTrue e X.env whole=(do let v ←whole;standAt e.pos;xb [v] (truthy v)):=by intro _;rfl):PT X e (tB t):=by
 intro pins s σ H Q I hw;refine isTrue_plain (thn (h pins s σ H _ I hw) fun v s1 zq=>?_) (he _);obtain⟨x,H1,I1,r1,q1⟩:=zq;obtain⟨d,rfl,q⟩:=q1;cases r1;exact mh ⟨H1,I1,q⟩
variable {tA tB':TT}{rest:List Expr}
def tAnd (t u:TT):TT:=fun σ H Q=>t σ H fun c H1=>if c=true then u σ H1 Q else Q false H1
def tOr (t u:TT):TT:=fun σ H Q=>t σ H fun c H1=>if c=true then Q true H1 else u σ H1 Q
def tNot (t:TT):TT:=fun σ H Q=>t σ H fun c H1=>Q (!c) H1
theorem aFf(ha:PT X a tA):PW X (.BoolOp .And [a] pos) tA:=by
 intro wh pins s σ H Q I h;refine isTrue_and (thn (ha pins s σ H Q I h) fun c s1 e=>?_);cases c with
 |true=>exact isTrue_and_nil e
 |false=>exact e
theorem xX(ha:PT X a tA):PW X (.BoolOp .Or [a] pos) tA:=by
 intro wh pins s σ H Q I h;refine isTrue_or (thn (ha pins s σ H Q I h) fun c s1 e=>?_);cases c with
 |false=>exact isTrue_or_nil e
 |true=>exact e
theorem aIp(ha:PT X a tA)(hb:PW X (.BoolOp .And (b::rest) pos) tB'):PW X (.BoolOp .And (a::b::rest) pos) (tAnd tA tB'):=by
 intro wh pins s σ H Q I h;refine isTrue_and (thn (ha pins s σ H _ I h) fun c s1 zq=>?_);obtain⟨H1,I1,q1⟩:=zq;cases c with
 |true=>exact hb wh pins s1 σ H1 Q I1 q1
 |false=>exact⟨H1,I1,q1⟩
theorem xL(ha:PT X a tA)(hb:PW X (.BoolOp .Or (b::rest) pos) tB'):PW X (.BoolOp .Or (a::b::rest) pos) (tOr tA tB'):=by
 intro wh pins s σ H Q I h;refine isTrue_or (thn (ha pins s σ H _ I h) fun c s1 zq=>?_);obtain⟨H1,I1,q1⟩:=zq;cases c with
 |true=>exact⟨H1,I1,q1⟩
 |false=>exact hb wh pins s1 σ H1 Q I1 q1
theorem qT(ha:PT X a tA):PT X (.UnaryOp .Not a pos) (tNot tA):=by
 intro pins s σ H Q I h;exact isTrue_not (ha pins s σ H (fun c H1=>Q (!c) H1) I h)
def tAndV (ta tb:TE):TE:=fun σ H Q=>ta σ H fun x H1=>∃c,x=.bl c/\if c=true then tb σ H1 Q else Q (.bl false) H1
def tOrV (ta tb:TE):TE:=fun σ H Q=>ta σ H fun x H1=>∃c,x=.bl c/\if c=true then Q (.bl true) H1 else tb σ H1 Q
def tNotV (ta:TE):TE:=fun σ H Q=>ta σ H fun x H1=>∃c,x=.bl c/\Q (.bl (!c)) H1
theorem xI{op}(h:PE X a t):PE X (.BoolOp op [a] pos) t:=fun pins s σ H Q I hw=>BoolOp_one (h pins s σ H Q I hw)
theorem vN(ha:PE X a ta)(hb:PE X (.BoolOp .And (b::rest) pos) tb):PE X (.BoolOp .And (a::b::rest) pos) (tAndV ta tb):=by
 intro pins s σ H Q I h;refine BoolOp_and (thn (ha pins s σ H _ I h) fun v s1 zq=>?_);obtain⟨x,H1,I1,r1,q1⟩:=zq;obtain⟨c,rfl,q1⟩:=q1;cases r1;refine mh ?_;cases c with
 |true=>exact hb pins s1 σ H1 Q I1 q1
 |false=>exact⟨.bl false,H1,I1,rfl,q1⟩
theorem pe_or(ha:PE X a ta)(hb:PE X (.BoolOp .Or (b::rest) pos) tb):PE X (.BoolOp .Or (a::b::rest) pos) (tOrV ta tb):=by
 intro pins s σ H Q I h;refine BoolOp_or (thn (ha pins s σ H _ I h) fun v s1 zq=>?_);obtain⟨x,H1,I1,r1,q1⟩:=zq;obtain⟨c,rfl,q1⟩:=q1;cases r1;refine mh ?_;cases c with
 |false=>exact hb pins s1 σ H1 Q I1 q1
 |true=>exact⟨.bl true,H1,I1,rfl,q1⟩
theorem aJm(ha:PE X a ta):PE X (.UnaryOp .Not a pos) (tNotV ta):=by
 intro pins s σ H Q I h;refine UnaryOp_ (thn (ha pins s σ H _ I h) fun v s1 zq=>?_);obtain⟨x,H1,I1,r1,q1⟩:=zq;obtain⟨c,rfl,q1⟩:=q1;cases r1;exact not_of (mh ⟨.bl (!c),H1,I1,rfl,q1⟩)
def tIf (t:TT) (ta tb:TE):TE:=fun σ H Q=>t σ H fun c H1=>if c=true then ta σ H1 Q else tb σ H1 Q
theorem aAi(hc:PT X c tA)(ha:PE X a ta)(hb:PE X b tb):PE X (.IfExp c a b pos) (tIf tA ta tb):=by
 intro pins s σ H Q I h;refine wpAny_IfExp (thn (hc pins s σ H _ I h) fun d s1 zq=>?_);obtain⟨H1,I1,q1⟩:=zq;cases d with
 |true=>exact ha pins s1 σ H1 Q I1 q1
 |false=>exact hb pins s1 σ H1 Q I1 q1
end
def SqL (K:υ) (H:Hp) (a:Addr) (xs:List V):Prop :=
 Rd H a (.lst xs) ∨
  ∃(o:Obj) (its:Array Value) (n:Nat),K.lookup a=some o/\o.cls=.type "list"/\o.dict=none/\o.data=.seq its n/\its.size<=ρ/\kN xs its.toList
def SqT (K:υ) (H:Hp) (a:Addr) (xs:List V):Prop :=
 Rd H a (.tup xs) ∨
  ∃(o:Obj) (its:Array Value) (n:Nat),K.lookup a=some o/\o.cls=.type "tuple"/\o.data=.seq its n/\its.size<=ρ/\kN xs its.toList
def absV:Value->Option V
 |.none=>some .non
 |.bool b=>some (.bl b)
 |.int i _=>some (.int i)
 |.str x _=>some (.str x)
 |.bytes b _=>some (.byt b)
 |.float b _=>some (.flt b)
 |.ref a=>some (.ref a)
 |.type n=>some (.ty n)
 |_=>none
theorem RelV.abs(r:RelV x u):absV u=some x:=by
 cases x with
 |non=>cases r;rfl
 |bl _=>cases r;rfl
 |int _=>obtain⟨t,rfl⟩:=r;rfl
 |str _=>obtain⟨t,rfl⟩:=r;rfl
 |byt _=>obtain⟨t,rfl⟩:=r;rfl
 |flt _=>obtain⟨t,rfl⟩:=r;rfl
 |ref _=>cases r;rfl
 |ty _=>cases r;rfl
theorem RelV.inj(r:RelV x u)(q:RelV y u):x=y:=lr (r.abs.symm.trans q.abs)
theorem kN.inj:∀{xs ys:List V}{us:List Value},kN xs us->kN ys us->xs=ys
 |_,_,_,.nil,.nil=>rfl
 |_,_,_,.cons r t,.cons r' t'=>by rw[r.inj r',kN.inj t t']
section
variable {X:Cx}{pins:List (Addr×Obj)}{σ:St}{H:Hp}{s:ξ}{a:Addr}{xs ys:List V}
theorem SqL.of{K:υ}(h:H a=some (.lst xs)):SqL K H a xs:=.inl (.inl h)
theorem SqT.of{K:υ}(h:H a=some (.tup xs)):SqT K H a xs:=.inl (.inl h)
theorem Inv.list(I:Inv X pins σ H s)(h:SqL X.K H a xs):∃its:List Value,kN xs its/\PlainL s.heap a its.toArray/\xs.length<=ρ:=by
 rcases h with h|⟨o,its,n,hk,hc,hd,hs,hz,r⟩
 ·obtain⟨z,its,n,r,e⟩:=h.ok I.hok;exact⟨its,r,⟨_,n,e,rfl,rfl,rfl⟩,z⟩
 ·refine⟨its.toList,r,⟨o,n,I.kIn a o hk,hc,hd,by simpa using hs⟩,?_⟩;have e:=r.length;simp only[nh]at e;omega
theorem Inv.tuple(I:Inv X pins σ H s)(h:SqT X.K H a xs):∃its:List Value,kN xs its/\IsTup s.heap a its.toArray/\xs.length<=ρ:=by
 rcases h with h|⟨o,its,n,hk,hc,hs,hz,r⟩
 ·obtain⟨z,its,r,p⟩:=h.ok I.hok;exact⟨its,r,p,z⟩
 ·refine⟨its.toList,r,⟨o,I.kIn a o hk,hc,n,by simpa using hs⟩,?_⟩;have e:=r.length;simp only[nh]at e;omega
theorem Inv.list_inj(I:Inv X pins σ H s)(h:SqL X.K H a xs)(h':SqL X.K H a ys):xs=ys:=by
 obtain⟨its,r,⟨o,n,e,_,_,d⟩,_⟩:=I.list h;obtain⟨its',r',⟨o',n',e',_,_,d'⟩,_⟩:=I.list h';rw[e]at e';cases e';rw[d]at d';injection d' with d1 _;have:its=its':=by simpa using congrArg Array.toList d1
 subst this;exact r.inj r'
theorem Inv.tuple_inj(I:Inv X pins σ H s)(h:SqT X.K H a xs)(h':SqT X.K H a ys):xs=ys:=by
 obtain⟨its,r,⟨o,e,_,n,d⟩,_⟩:=I.tuple h;obtain⟨its',r',⟨o',e',_,n',d'⟩,_⟩:=I.tuple h';rw[e]at e';cases e';rw[d]at d';injection d' with d1 _;have:its=its':=by simpa using congrArg Array.toList d1
 subst this;exact r.inj r'
end
abbrev Cx.wish (X:Cx) (E:Value->ξ->Prop):Cx:={ X with xe:=E }
abbrev Cx.nox (X:Cx):Cx:=X.wish fun _ _=>False
theorem Cx.Ok.wish{X:Cx}(ok:X.Ok)(E:Value->ξ->Prop):(X.wish E).Ok :=
 ⟨ok.mod,ok.kind,ok.glob,ok.blt,ok.above,ok.inj,ok.has,ok.cab,ok.hd,ok.frames,ok.stk,ok.exf,ok.bs,ok.bsz,ok.noex,ok.exfs,ok.funs,ok.frf⟩
theorem Cx.Ok.unwish{X:Cx}(ok:(X.wish E).Ok):X.Ok :=
 ⟨ok.mod,ok.kind,ok.glob,ok.blt,ok.above,ok.inj,ok.has,ok.cab,ok.hd,ok.frames,ok.stk,ok.exf,ok.bs,ok.bsz,ok.noex,ok.exfs,ok.funs,ok.frf⟩
section
variable {X:Cx}{pins:List (Addr×Obj)}{σ:St}{H:Hp}{s:ξ}{E:Value->ξ->Prop}
theorem Inv.wish(I:Inv X pins σ H s)(E:Value->ξ->Prop):Inv (X.wish E) pins σ H s:=⟨I.ok.wish E,I.os,I.bare,I.base,I.loc,I.cell,I.free,I.freeC,I.pin,I.hok,I.len⟩
theorem Inv.unwish(I:Inv (X.wish E) pins σ H s):Inv X pins σ H s:=⟨I.ok.unwish,I.os,I.bare,I.base,I.loc,I.cell,I.free,I.freeC,I.pin,I.hok,I.len⟩
theorem SP.unwish(h:SP (X.wish E) pins D f s'):SP X pins D f s':=by
 cases f with
 |next=>obtain⟨σ',H',I,q⟩:=h;exact⟨σ',H',I.unwish,q⟩
 |brk=>obtain⟨σ',H',I,q⟩:=h;exact⟨σ',H',I.unwish,q⟩
 |cont=>obtain⟨σ',H',I,q⟩:=h;exact⟨σ',H',I.unwish,q⟩
 |ret u=>obtain⟨v,σ',H',I,r,q⟩:=h;exact⟨v,σ',H',I.unwish,r,q⟩
theorem PE.nox(h:PE X.nox e t):PE X e t:=fun pins s σ H Q I hw =>
 kj (h pins s σ H Q (I.wish _) hw) (fun _ _ zq=>zq.el fun v H' I' r q=>⟨v,H',I'.unwish,r,q⟩) fun _ _ z=>jl z
theorem PT.nox(h:PT X.nox e t):PT X e t:=fun pins s σ H Q I hw =>
 kj (h pins s σ H Q (I.wish _) hw) (fun _ _ ⟨H',I',q⟩=>⟨H',I'.unwish,q⟩) fun _ _ z=>jl z
theorem PSs.nox{st:List Stmt}{t:TS}(h:PSs X.nox st t):PSs X st t:=fun pins s σ H D I hw =>
 kj (h pins s σ H D (I.wish _) hw) (fun _ _ q=>q.unwish) fun _ _ z=>jl z
end
section
variable {X:Cx}{st:Stmt}{rest:List Stmt}{t u:TS}{e:Expr}{te:TE}{pos:Pos}
def tNext:TS:=fun D σ H=>D.nx σ H
def vP (t u:TS):TS:=fun D σ H=>t { D with nx:=u D } σ H
theorem jP:PSs X [] tNext:=fun _ _ σ H _ I h=>wpAny_execs_nil ⟨σ,H,I,h⟩
theorem jD(h1:PS X st t)(h2:PSs X rest u):PSs X (st::rest) (vP t u):=by
 intro pins s σ H D I h;refine wpAny_execs_cons (thn (h1 pins s σ H { D with nx:=u D } I h) fun f s1 q=>?_);cases f with
 |next =>
  obtain⟨σ',H',I',q⟩:=q;exact h2 pins s1 σ' H' D I' q
 |ret v=>exact q
 |brk=>exact q
 |cont=>exact q
theorem jE(h1:PS X st t):PSs X [st] t:=by
 intro pins s σ H D I h;refine wpAny_execs_cons (thn (h1 pins s σ H D I h) fun f s1 q=>?_);cases f with
 |next=>exact wpAny_execs_nil q
 |ret v=>exact q
 |brk=>exact q
 |cont=>exact q
theorem Inv.quiet(I:Inv X pins σ H s):interactive X.env=false:=by simp[interactive,I.ok.kind]
def tDrop (te:TE):TS:=fun D σ H=>te σ H fun _ H1=>D.nx σ H1
theorem vO(he:PE X e te)(hs:swapsWith e none pos.line X.env=pure false:=by rfl):PS X (.Expr e pos) (tDrop te):=by
 intro pins s σ H D I h;exact wpAny_Expr_any (thn (he pins s σ H _ I h) fun v s1 zq=>zq.el fun x H1 I1 r1 q1=>⟨σ,H1,I1,q1⟩) I.quiet hs
def tRet (te:TE):TS:=fun D σ H=>te σ H D.rt
theorem jJ(he:PE X e te):PS X (.Return (some e) pos) (tRet te):=by
 intro pins s σ H D I h;exact wpAny_Return_some (thn (he pins s σ H _ I h) fun v s1 zq=>zq.el fun x H1 I1 r1 q1=>⟨x,σ,H1,I1,r1,q1⟩)
def aGz (c:TT) (t u:TS):TS:=fun D σ H=>c σ H fun b H1=>if b=true then t D σ H1 else u D σ H1
theorem kK(hc:PT X c tc)(ha:PSs X a t)(hb:PSs X b u):PS X (.If c a b pos) (aGz tc t u):=by
 intro pins s σ H D I h;refine wpAny_If (thn (hc pins s σ H _ I h) fun d s1 zq=>?_);obtain⟨H1,I1,q1⟩:=zq;cases d with
 |true=>exact ha pins s1 σ H1 D I1 q1
 |false=>exact hb pins s1 σ H1 D I1 q1
def aQp:TS:=fun _ _ _=>False
theorem xY:PS X st aQp:=fun _ _ _ _ _ _ h=>h.elim
end
abbrev TG:=V->St->Hp->(St->Hp->Prop)->Prop
abbrev TGs:=List V->St->Hp->(St->Hp->Prop)->Prop
def PG (X:Cx) (target:Expr) (t:TG):Prop :=
 ∀(pins:List (Addr×Obj)) (s:ξ) (σ:St) (H:Hp) (v:V) (u:Value) (Q:St->Hp->Prop),Inv X pins σ H s->RelV v u->t v σ H Q →
  ik (ir X.prog X.w) X.A (assign target X.env u) (fun _ s'=>∃σ' H',Inv X pins σ' H' s'/\Q σ' H') X.xe s
def PGs (X:Cx) (ts:List Expr) (t:TGs):Prop :=
 ∀(pins:List (Addr×Obj)) (s:ξ) (σ:St) (H:Hp) (vs:List V) (us:List Value) (Q:St->Hp->Prop),Inv X pins σ H s->kN vs us->t vs σ H Q →
  ik (ir X.prog X.w) X.A (assignInOrder ((vm ts X.env).map (·.2)) us) (fun _ s'=>∃σ' H',Inv X pins σ' H' s'/\Q σ' H') X.xe s
abbrev TSet:=V->V->V->Hp->(Hp->Prop)->Prop
def PSet (X:Cx) (t:TSet):Prop :=
 ∀(pins:List (Addr×Obj)) (s:ξ) (σ:St) (H:Hp) (o i v:V) (ov iv u:Value) (Q:Hp->Prop),Inv X pins σ H s->RelV o ov->RelV i iv->RelV v u->t o i v H Q →
  ik (ir X.prog X.w) X.A (setItem ov iv u) (fun _ s'=>∃H',Inv X pins σ H' s'/\Q H') X.xe s
section
variable {X:Cx}{pos:Pos}
def aQ (i:Nat):TG:=fun v σ H Q=>Q (σ.set i (some v)) H
theorem nX{i:Nat}(hN:X.N.Nodup)(hi:X.N[i]?=some x)(hx:Loc X.env.scope x)(hf:X.fn x=true\/X.env.scope.names.lookup x=some .local:=by first|exact .inl rfl|exact .inr rfl|assumption):PG X (.Name x pos) (aQ i):=by
 intro pins s σ H v u Q I r h;exact wpAny_assign_Name (aAm I hN hi hx r (fun s' I'=>⟨_,H,I',h⟩) hf)
inductive aIj (vs:List V) (σ:St) (H:Hp) (Q:St->Hp->Prop):Prop|mk:vs=[]->Q σ H->aIj vs σ H Q
def gNil:TGs:=fun vs σ H Q=>aIj vs σ H Q
inductive aEv (t:TG) (u:TGs) (vs:List V) (σ:St) (H:Hp) (Q:St->Hp->Prop):Prop|mk:∀v r,vs=v::r->(t v σ H fun σ' H'=>u r σ' H' Q)->aEv t u vs σ H Q
def gCons (t:TG) (u:TGs):TGs:=fun vs σ H Q=>aEv t u vs σ H Q
theorem qH:PGs X [] gNil:=by
 intro pins s σ H vs us Q I r h;obtain⟨e,h⟩:=h;subst e;cases r;exact assignInOrder_nil ⟨σ,H,I,h⟩
theorem jX(h1:PG X e t)(h2:PGs X es u)
  (hs:(vm (e::es) X.env).map (·.2)=assign e X.env::(vm es X.env).map (·.2):=by rfl):PGs X (e::es) (gCons t u):=by
 intro pins s σ H vs us Q I r h;obtain⟨v,vr,e1,h⟩:=h;subst e1;cases r with
 |cons r rr =>
  rw[hs];refine assignInOrder_cons (thn (h1 pins s σ H _ _ _ I r h) fun _ s1 zq=>?_);obtain⟨σ1,H1,I1,q1⟩:=zq;exact h2 pins s1 σ1 H1 _ _ Q I1 rr q1
inductive aIc (K:υ) (n:Nat) (t:TGs) (v:V) (σ:St) (H:Hp) (Q:St->Hp->Prop):Prop|mk:∀a xs,v=.ref a->SqT K H a xs->xs.length=n->t xs σ H Q->aIc K n t v σ H Q
def gTup (K:υ) (n:Nat) (t:TGs):TG:=fun v σ H Q=>aIc K n t v σ H Q
theorem xP{n:Nat}(hc:X.calm=true)(h:PGs X es t)
  (hn:(vm es X.env).length=n:=by rfl)(hst:(vm es X.env).findIdx? (·.1)=none:=by rfl):PG X (.Tuple es k pos) (gTup X.K n t):=by
 intro pins s σ H v u Q I r hw;obtain⟨a,xs,e1,hq,hl,hw⟩:=hw;subst e1;cases r;obtain⟨its,rv,ht,hz⟩:=I.tuple hq;refine assign_Tuple_tuple (I.ok.hd hc) ht (by simp[hn,←hl,rv.length]) hst fun h' hx=>?_;have I1:Inv X pins σ H { s with heap:=h' }:=I.kept (t':=s.toks) fun b o e=>hx b o (jb (io e)) e;exact h pins _ σ H xs _ Q I1 (by simpa using rv) hw
def gSub (to ti:TE) (t:TSet):TG:=fun v σ H Q=>to σ H fun o H1=>ti σ H1 fun i H2=>t o i v H2 fun H3=>Q σ H3
theorem dQ(ho:PE X o to)(hi:PE X i ti)(hs:PSet X t)
  (ha:∀v,assign (.Subscript o i pos) X.env v=(do
   let ov ←xb [v] (eval o X.env)
   let iv ←xb [v,ov] (eval i X.env)
   standAt pos
   xb [v,ov,iv] (setItem ov iv v)
   release [v,ov,iv] []):=by intro _;rfl):PG X (.Subscript o i pos) (gSub to ti t):=by
 intro pins s σ H v u Q I r h;rw[ha];refine ζ (my (thn (ho pins s σ H _ I h) fun ov s1 zq=>?_));obtain⟨x,H1,I1,r1,q1⟩:=zq;refine ζ (my (thn (hi pins s1 σ H1 _ I1 q1) fun iv s2 zq=>?_));obtain⟨y,H2,I2,r2,q2⟩:=zq;refine ζ (vc (ζ (my (thn (hs pins s2 σ H2 x y v ov iv u _ I2 r1 r2 r q2) fun _ s3 zq=>?_))));obtain⟨H3,I3,q3⟩:=zq;exact wpAny_release ⟨σ,H3,I3,q3⟩
def aKi (te:TE) (g:TG):TS:=fun D σ H=>te σ H fun x H1=>g x σ H1 D.nx
theorem bY(he:PE X e te)(hg:PG X tg g)(hs:swapsWithSole [tg] e pos.line X.env=pure false:=by rfl)(hw:swappedStores [tg] e X.env=pure none:=by rfl)
  (h1:(vm [tg] X.env).map (·.2)=[assign tg X.env]:=by rfl):PS X (.Assign [tg] e pos) (aKi te g):=by
 intro pins s σ H D I h;refine wpAny_Assign_stores (thn (he pins s σ H _ I h) fun v s1 zq=>?_) hs hw;obtain⟨x,H1,I1,r1,q1⟩:=zq;rw[h1];exact thn (hg pins s1 σ H1 x v _ I1 r1 q1) fun _ s2 q=>q
theorem aLw{i:Nat}(hN:X.N.Nodup)(hi:X.N[i]?=some x)(hx:Loc X.env.scope x)(he:PE X e te)(hs:swapsWith e (some (.Name x pos')) pos.line X.env=pure false:=by rfl)(hf:X.fn x=true\/X.env.scope.names.lookup x=some .local:=by first|exact .inl rfl|exact .inr rfl|assumption):
  PS X (.Assign [.Name x pos'] e pos) (aKi te (aQ i)):=by
 intro pins s σ H D I h;refine wpAny_Assign_Name (thn (he pins s σ H _ I h) fun v s1 zq=>?_) hs;obtain⟨y,H1,I1,r1,q1⟩:=zq;exact aAm I1 hN hi hx r1 (fun s2 I2=>⟨_,H1,I2,q1⟩) hf
end
structure It where
 go:Nat->Hp->Prop
 yld:Nat->Hp->V->Hp->Prop
 stop:Nat->Hp->Prop
def dZ (X:Cx) (pins:List (Addr×Obj)) (H:Hp) (b:Addr):Prop :=
 H b=none/\b≠X.env.locals/\b∉X.fs/\(b∈X.ex\/X.s₀.heap.objs.size<=b)/\(∀x c,X.env.cells.lookup x=some c->c≠b)/\∀p∈X.pn++pins,p.1≠b
theorem Inv.fpOk{H':Hp}{b:Addr}(I:Inv X pins σ H s)(hb:s.heap.objs.size<=b)(hn:H' b=none):dZ X pins H' b:=by
 refine⟨hn,wb (ς I.lt hb),I.nofs hb,.inr (Θ I.sz hb),fun x c e z=>?_,fun p hp z=>?_⟩
 ·obtain⟨v,q⟩:=I.cell x c e;exact absurd (ς q.lt (by rw[z];exact hb)) (qm _)
 ·exact absurd (ς (io (I.pin p hp).1) (by rw[z];exact hb)) (qm _)
structure Turn (P:jy) (w:mf) (K:υ) (tg:Expr) (J:It) (fp:List Addr) (it:Addr) (tn:Nat->kq->Prop):Prop where
 mem:it∈fp
 obj:∀i h,tn i h->∀b∈fp,∃o,h.get? b=some o/\∀v,o.data≠.cell v
 keep:∀i h h',tn i h->(∀b∈fp,∀o,h.get? b=some o->h'.get? b=some o)->tn i h'
 item:∀(X:Cx),X.prog=P->X.w=w->X.K=K->X.calm=true->∀(i:Nat) (pins:List (Addr×Obj)) (s:ξ) (σ:St) (H:Hp) (E:Value->ξ->Prop),Inv X pins σ H s->(∀b∈fp,dZ X pins H b)->tn i s.heap->J.go i H →
  ik (ir P w) X.A (pyNext (.ref it)) (fun r s1=>∃u,r=some u ∧
   ik (ir P w) X.A (xg tg (.ref it) u) (fun _ s2=>∃x H',Inv X pins σ H' s2/\RelV x u/\J.yld i H x H'/\tn (i+1) s2.heap/\∀b∈fp,H' b=none) E s1) E s
 done:∀(X:Cx),X.prog=P->X.w=w->X.K=K->X.calm=true->∀(i:Nat) (pins:List (Addr×Obj)) (s:ξ) (σ:St) (H:Hp) (E:Value->ξ->Prop),Inv X pins σ H s->(∀b∈fp,dZ X pins H b)->tn i s.heap->J.stop i H →
  ik (ir P w) X.A (pyNext (.ref it)) (fun r s1=>r=none/\Inv X pins σ H s1) E s
 self:∀(A:kg) (i:Nat) (s:ξ) (Q:Value->ξ->Prop) (E:Value->ξ->Prop),tn i s.heap->Q (.ref it) s->ik (ir P w) A (pyIter (.ref it)) Q E s
abbrev TI:=St->Hp->(It->Hp->Prop)->Prop
def PIE (X:Cx) (pins:List (Addr×Obj)) (σ:St) (tg:Expr) (R:It->Hp->Prop) (itv:Value) (s2:ξ):Prop :=
 ∃(it:Addr) (fp:List Addr) (tn:Nat->kq->Prop) (J:It) (H':Hp),itv=.ref it/\Inv X pins σ H' s2/\Turn X.prog X.w X.K tg J fp it tn/\tn 0 s2.heap/\(∀b∈fp,dZ X pins H' b)/\R J H'
def PI (X:Cx) (tg iter:Expr) (wi:TI):Prop :=
 ∀(pins:List (Addr×Obj)) (s:ξ) (σ:St) (H:Hp) (R:It->Hp->Prop),Inv X pins σ H s->wi σ H R →
  ik (ir X.prog X.w) X.A (eval iter X.env) (fun v s1=>ik (ir X.prog X.w) X.A (pyIter v) (PIE X pins σ tg R) X.xe s1) X.xe s
theorem aFx{s:ξ}{it:Addr}{Q:Unit->ξ->Prop}(ho:s.heap.get? it=some o)(hc:o.cls=.type n)(hd:o.data=.fields vs)
  (hn : ["enumerate","zip","dict_itemiterator","dict_reverseitemiterator","odict_iterator","itertools.zip_longest","itertools.pairwise"].contains n=false)(hQ:Q () s):ik M A (xg tg (.ref it) u) Q E s:=by
 unfold xg;cases tg <;> first
  |exact Γ hQ
  | (cases u <;> first
      |exact Γ hQ
      | (refine ζ (wpAny_load ho ?_)
         rw[hc,hd];show ik M A (if (["enumerate","zip","dict_itemiterator","dict_reverseitemiterator","odict_iterator","itertools.zip_longest","itertools.pairwise"].contains n&&vs[0]? == some (uc _))=true then _ else _) Q E s;rw[if_neg (by intro h;rw[hn,qt]at h;cases h)];exact Γ hQ))
def Itl (K:υ) (a:Addr):It :=
 ⟨fun i H=>∃xs x,SqL K H a xs/\xs[i]?=some x,fun i H x H'=>H'=H/\∀xs,SqL K H a xs->xs[i]?=some x,fun i H=>∃xs,SqL K H a xs/\xs.length<=i⟩
def Itt (K:υ) (a:Addr):It :=
 ⟨fun i H=>∃xs x,SqT K H a xs/\xs[i]?=some x,fun i H x H'=>H'=H/\∀xs,SqT K H a xs->xs[i]?=some x,fun i H=>∃xs,SqT K H a xs/\xs.length<=i⟩
def Itr (lo:Int) (n:Nat):It:=⟨fun i _=>i<n,fun i H x H'=>H'=H/\x=.int (lo+i),fun i _=>n<=i⟩
theorem tN{K:υ}(a it:Addr):Turn P w K tg (Itl K a) [it] it (fun i h=>h.IsListIter it a i) where
 mem:=by simp
 obj:=fun i h st b hb=>by
  have e:b=it:=by simpa using hb
  subst e;obtain⟨o,e,c,d⟩:=st;exact⟨o,e,fun v z=>by rw[d]at z;cases z⟩
 keep:=fun i h h' st k=>st.at fun o e=>k it (by simp) o e
 item:=by
  intro X hP hw hK hc i pins s σ H E I hf st hg;subst hP hw hK;obtain⟨xs,x,hq,hx⟩:=hg;obtain⟨its,rv,p,hz⟩:=I.list hq;obtain⟨u,hu,ru⟩:=rv.get hx;obtain⟨f0,f1,f2,f3,f4,f5⟩:=hf it (by simp);refine wpAny_pyNext_list_item st p.isList (x:=u) (by simpa using hu) fun h' st' sb=>?_;have I1:Inv X pins σ H { s with heap:=h' }:=I.turned (t':=s.toks) (fun b o hb e=>(sb.2 b hb).trans e) f0 f1 f3 f4 f5;obtain⟨o,e,c,d⟩:=id st';exact⟨u,rfl,aFx (s:={ s with heap:=h' }) e c d (by decide) ⟨x,H,I1,ru,⟨rfl,fun ys hy=>by rw[I.list_inj hy hq];exact hx⟩,st',fun b hb=>(hf b hb).1⟩⟩
 done:=by
  intro X hP hw hK hc i pins s σ H E I hf st hg;subst hP hw hK;obtain⟨xs,hq,hx⟩:=hg;obtain⟨its,rv,p,hz⟩:=I.list hq;obtain⟨f0,f1,f2,f3,f4,f5⟩:=hf it (by simp);have hl:=rv.length;exact wpAny_pyNext_list_end (I.ok.hd hc) st p.isList (by simp;omega) fun h' eb=>⟨rfl,I.turned (t':=s.toks) (fun b o hb e=>eb b o hb e) f0 f1 f3 f4 f5⟩
 self:=fun _ _ _ _ _ st h=>wpAny_pyIter_listiter st h
theorem pG{K:υ}(a it:Addr):Turn P w K tg (Itt K a) [it] it (fun i h=>h.IsTupleIter it a i) where
 mem:=by simp
 obj:=fun i h st b hb=>by
  have e:b=it:=by simpa using hb
  subst e;obtain⟨o,e,c,d⟩:=st;exact⟨o,e,fun v z=>by rw[d]at z;cases z⟩
 keep:=fun i h h' st k=>st.at fun o e=>k it (by simp) o e
 item:=by
  intro X hP hw hK hc i pins s σ H E I hf st hg;subst hP hw hK;obtain⟨xs,x,hq,hx⟩:=hg;obtain⟨its,rv,p,hz⟩:=I.tuple hq;obtain⟨u,hu,ru⟩:=rv.get hx;obtain⟨f0,f1,f2,f3,f4,f5⟩:=hf it (by simp);refine wpAny_pyNext_tuple_item st (show s.heap.IsTuple a its.toArray from p) (x:=u) (by simpa using hu) fun h' st' sb=>?_;have I1:Inv X pins σ H { s with heap:=h' }:=I.turned (t':=s.toks) (fun b o hb e=>(sb.2 b hb).trans e) f0 f1 f3 f4 f5;obtain⟨o,e,c,d⟩:=id st';exact⟨u,rfl,aFx (s:={ s with heap:=h' }) e c d (by decide) ⟨x,H,I1,ru,⟨rfl,fun ys hy=>by rw[I.tuple_inj hy hq];exact hx⟩,st',fun b hb=>(hf b hb).1⟩⟩
 done:=by
  intro X hP hw hK hc i pins s σ H E I hf st hg;subst hP hw hK;obtain⟨xs,hq,hx⟩:=hg;obtain⟨its,rv,p,hz⟩:=I.tuple hq;obtain⟨f0,f1,f2,f3,f4,f5⟩:=hf it (by simp);have hl:=rv.length;exact wpAny_pyNext_tuple_end (I.ok.hd hc) st (show s.heap.IsTuple a its.toArray from p) (by simp;omega) fun h' eb=>⟨rfl,I.turned (t':=s.toks) (fun b o hb e=>eb b o hb e) f0 f1 f3 f4 f5⟩
 self:=fun _ _ _ _ _ st h=>wpAny_pyIter_tupleiter st h
theorem aCx{K:υ}(it:Addr)(lo:Int)(n:Nat):Turn P w K tg (Itr lo n) [it] it (fun i h=>IsRangeIter h it (lo+(i:Nat)*1) ((n:Int)-(i:Nat)) 1) where
 mem:=by simp
 obj:=fun i h st b hb=>by
  have e:b=it:=by simpa using hb
  subst e;exact⟨_,st,fun v z=>by
   have z':Data.fields _=Data.cell v:=z;cases z'⟩
 keep:=fun i h h' st k=>k it (by simp) _ st
 item:=by
  intro X hP hw hK hc i pins s σ H E I hf st hg;subst hP hw hK;obtain⟨f0,f1,f2,f3,f4,f5⟩:=hf it (by simp);have W:=Walks.range (prog:=X.prog) (w:=X.w) (I.ok.hd hc) it lo 1 n;refine W.item i s _ _ hg st fun v h' tk hv st' kk=>?_;obtain⟨t,rfl⟩:=hv;have I1:Inv X pins σ H { s with heap:=h',toks:=tk }:=I.turned (fun b o hb e=>kk b o (by simpa using hb) e) f0 f1 f3 f4 f5;refine⟨_,rfl,aFx (s:={ s with heap:=h',toks:=tk }) (n:="range_iterator") st' rfl rfl (by decide) ⟨.int (lo+i),H,I1,⟨t,?_⟩,⟨rfl,rfl⟩,st',fun b hb=>(hf b hb).1⟩⟩;rw[Int.mul_one]
 done:=by
  intro X hP hw hK hc i pins s σ H E I hf st hg;subst hP hw hK;obtain⟨f0,f1,f2,f3,f4,f5⟩:=hf it (by simp);exact wpAny_pyNext_range_end (I.ok.hd hc) st (by have:n<=i:=hg;omega) fun h' eb=>⟨rfl,I.turned (t':=s.toks) (fun b o hb e=>eb b o hb e) f0 f1 f3 f4 f5⟩
 self:=fun _ _ _ _ _ st h=>wpAny_pyIter_rangeiter st h
section
variable {X:Cx}{tg:Expr}
inductive aFn (K:υ) (R:It->Hp->Prop) (x:V) (H1:Hp):Prop|mk:∀a,x=.ref a->((∃xs,SqL K H1 a xs))->R (Itl K a) H1->aFn K R x H1
def aPj (K:υ) (tl:TE):TI:=fun σ H R=>tl σ H fun x H1=>aFn K R x H1
def iTup (K:υ) (tl:TE):TI:=fun σ H R=>tl σ H fun x H1=>∃a,x=.ref a/\(∃xs,SqT K H1 a xs)/\R (Itt K a) H1
theorem qO(hl:PE X l tl):PI X tg l (aPj X.K tl):=by
 intro pins s σ H R I h;refine thn (hl pins s σ H _ I h) fun v s1 zq=>?_;obtain⟨x,H1,I1,r1,q1⟩:=zq;obtain⟨a,e,⟨xs,hq⟩,q⟩:=q1;subst e;cases r1;obtain⟨its,rv,p,hz⟩:=I1.list hq;refine qw p.isList ?_;refine⟨s1.heap.objs.size,[s1.heap.objs.size],_,_,H1,rfl,I1.kept (t':=s1.toks) fun b o e=>π _ e,tN a _,⟨_,iu _ rfl,rfl,rfl⟩,fun b hb=>?_,q⟩;have e:b=s1.heap.objs.size:=by simpa using hb
 subst e;exact I1.fpOk (ν _) (I1.hok.fresh (ν _))
theorem fH(hl:PE X l tl):PI X tg l (iTup X.K tl):=by
 intro pins s σ H R I h;refine thn (hl pins s σ H _ I h) fun v s1 zq=>?_;obtain⟨x,H1,I1,r1,q1⟩:=zq;obtain⟨a,e,⟨xs,hq⟩,q⟩:=q1;subst e;cases r1;obtain⟨its,rv,p,hz⟩:=I1.tuple hq;refine sf (show s1.heap.IsTuple a its.toArray from p) ?_;refine⟨s1.heap.objs.size,[s1.heap.objs.size],_,_,H1,rfl,I1.kept (t':=s1.toks) fun b o e=>π _ e,pG a _,⟨_,iu _ rfl,rfl,rfl⟩,fun b hb=>?_,q⟩;have e:b=s1.heap.objs.size:=by simpa using hb
 subst e;exact I1.fpOk (ν _) (I1.hok.fresh (ν _))
theorem aIv{s:ξ}{R:It->Hp->Prop}{lo hi:Int}{tk:Nat}(I:Inv X pins σ H s)(h1 : -(2 ^ 62)<=lo)(h2:lo<2 ^ 62)(h3 : -(2 ^ 62)<=hi)(h4:hi<2 ^ 62)
  (q:R (Itr lo (hi-lo).toNat) H):ik (ir X.prog X.w) X.A (pyIter (.ref s.heap.objs.size)) (PIE X pins σ tg R) E { s with heap:=s.heap.push { cls:=.type "range",data:=.fields #[.int lo t,.int hi u,.int 1 v] },toks:=tk }:=by
 refine wpAny_pyIter_range (IsRange.new ..) (small_one h1 h2 h3 h4) ?_;have I1:Inv X pins σ H { s with heap:=s.heap.push { cls:=.type "range",data:=.fields #[.int lo t,.int hi u,.int 1 v] },toks:=tk }:=I.kept fun b o e=>π _ e;refine⟨(s.heap.push { cls:=.type "range",data:=.fields #[.int lo t,.int hi u,.int 1 v] }).objs.size,[(s.heap.push { cls:=.type "range",data:=.fields #[.int lo t,.int hi u,.int 1 v] }).objs.size],_,_,H,rfl,
  I1.kept (t':=tk) fun b o e=>π _ e,aCx _ lo (hi-lo).toNat,?_,fun b hb=>?_,q⟩
 ·have e1:lo+((0:Nat):Int)*1=lo:=by simp
  have e2:(((hi-lo).toNat:Nat):Int)-((0:Nat):Int)=su.Range.rangeSize lo hi 1:=by rw[rangeSize_one];split <;> omega
  show IsRangeIter _ _ (lo+((0:Nat):Int)*1) ((((hi-lo).toNat:Nat):Int)-((0:Nat):Int)) 1;rw[e1,e2];exact iu _ rfl
 ·have e:b=(s.heap.push { cls:=.type "range",data:=.fields #[.int lo t,.int hi u,.int 1 v] }).objs.size:=by simpa using hb
  subst e;exact I1.fpOk (ν _) (I1.hok.fresh (ν _))
inductive aEr (R:It->Hp->Prop) (vs:List V) (H1:Hp):Prop|mk:∀j:Int,vs=[.int j]->-(2 ^ 62)<=j->j<2 ^ 62->R (Itr 0 j.toNat) H1->aEr R vs H1
def iRng1 (ta:TA):TI:=fun σ H R=>ta σ H fun vs H1=>aEr R vs H1
theorem vD{a:Expr}(hg:Gl X "range")(hm:X.mg "range" = none)(ha:PA X [a] ta)(hs:il [a] X.env=[(false,eval a X.env)]:=by rfl):PI X tg (.Call (.Name "range" p) [a] [] pos) (iRng1 ta):=by
 intro pins s σ H R I h;refine Call_ (lR I hg hm boot_range (rj (thn (ha pos pins s σ H _ I h) fun us s1 zq=>?_) hs rfl));obtain⟨vs,H1,I1,r1,q1⟩:=zq;obtain⟨j,e,q1,q2,q⟩:=q1;subst e;cases r1 with
 |cons r rr =>
  cases rr;obtain⟨t,rfl⟩:=r;exact call_range_1 (aIv I1 (by omega) (by omega) q1 q2 (by simpa using q))
def tFor (wi:TI) (g:TG) (tb:TS):TS:=fun D σ H=>wi σ H fun J H1=>∃W:Nat->Nat->St->Hp->Prop,(∃m,W 0 m σ H1)/\∀i m σ H,W i m σ H →
 (J.stop i H/\D.nx σ H)\/(J.go i H/\∃N:St->Hp->Prop,(∀σ' H',N σ' H'->∃m',m'<m/\W (i+1) m' σ' H')/\∀x H',J.yld i H x H'->g x σ H' fun σ2 H2=>tb { D with nx:=N,ct:=N,bk:=D.nx } σ2 H2)
def dO (fp:List Addr) (h:kq):List (Addr×Obj):=fp.filterMap fun b=>(h.get? b).map fun o=>(b,o)
theorem yM{fp:List Addr}{h:kq}{b:Addr}(hb:b∈fp)(e:h.get? b=some o):(b,o)∈dO fp h:=List.mem_filterMap.mpr ⟨b,hb,by rw[e];rfl⟩
theorem aHb{p:Addr×Obj}(hp:p∈dO fp h):p.1∈fp/\h.get? p.1=some p.2:=by
 obtain⟨b,hb,e⟩:=List.mem_filterMap.mp hp;cases q:h.get? b with
 |none=>rw[q]at e;cases e
 |some o =>
  rw[q]at e;have e':(b,o)=p:=lr e;subst e';exact⟨hb,q⟩
theorem Inv.pinned{fp:List Addr}(I:Inv X pins σ H s)(hf:∀b∈fp,dZ X pins H b)(ho:∀b∈fp,∃o,s.heap.get? b=some o/\∀v,o.data≠.cell v):Inv X (pins++dO fp s.heap) σ H s :=
 I.pins_of fun p hp=>(km.mp hp).elim (fun z=>I.pin p (jh _ z)) fun z=>by
  obtain⟨hb,e⟩:=aHb z;obtain⟨f0,f1,f2,_⟩:=hf p.1 hb;obtain⟨o,e',d⟩:=ho p.1 hb;rw[e]at e';cases e';exact⟨e,f0,f1,f2,d⟩
theorem Inv.unpinned{pins pl:List (Addr×Obj)}(I:Inv X (pins++pl) σ H s):Inv X pins σ H s:=I.pins_of fun p hp=>I.pin p (jh _ (nv _ hp))
theorem xG(hp:PassesOwn (ir X.prog X.w) X.A X.env X.xe)(hc:X.calm=true)(hi:PI X tg iter wi)(hg:PG X tg g)(hb:PSs X body tb)
  (hs:∀x,ya iter X.env x=pure x:=by intro _;rfl):PS X (.For tg iter body [] pos) (tFor wi g tb):=by
 intro pins s σ H D I h;refine wpAny_For (thn (hi pins s σ H _ I h) fun v s1 h1=>thn h1 fun itv s2 h2=>?_) hs;obtain⟨it,fp,tn,J,H2,e,I2,T,st2,f2,W,⟨m0,w0⟩,turn⟩:=h2;subst e;have stat:∀{H':Hp},(∀b∈fp,H' b=none)->∀b∈fp,dZ X pins H' b:=fun hn b hb=>⟨hn b hb,(f2 b hb).2⟩;refine codeAny_forLoop_any (fun n s'=>∃i σ' H',Inv X pins σ' H' s'/\tn i s'.heap/\(∀b∈fp,H' b=none)/\W i n σ' H') ?_ m0 ⟨0,σ,H2,I2,st2,fun b hb=>(f2 b hb).1,w0⟩;rintro n s3 ⟨i,σ3,H3,I3,st3,fr3,w3⟩;rcases turn i n σ3 H3 w3 with⟨stop,qn⟩|⟨go,N,hN,step⟩
 ·refine xh hp (thn (T.done X rfl rfl rfl hc i pins s3 σ3 H3 X.xe I3 (stat fr3) st3 stop) fun r s4 zq=>?_);obtain⟨hr,I4⟩:=zq;subst hr;exact wpAny_execs_nil ⟨σ3,H3,I4,qn⟩
 ·refine xh hp (thn (T.item X rfl rfl rfl hc i pins s3 σ3 H3 X.xe I3 (stat fr3) st3 go) fun r s4 zq=>?_);obtain⟨u,hr,h4⟩:=zq;subst hr;refine xh hp (thn h4 fun _ s5 zq=>?_);obtain⟨x,H5,I5,r5,y5,st5,fr5⟩:=zq;have I5':=I5.pinned (stat fr5) (T.obj _ _ st5);refine xh hp (thn (hg _ s5 σ3 H5 x u _ I5' r5 (step x H5 y5)) fun _ s6 zq=>?_);obtain⟨σ6,H6,I6,q6⟩:=zq;refine xh hp (thn (hb _ s6 σ6 H6 _ I6 q6) fun f s7 q7=>?_);have again:∀{σ7:St}{H7:Hp},Inv X (pins++dO fp s5.heap) σ7 H7 s7->N σ7 H7->∃m,m<n/\∃i σ' H',Inv X pins σ' H' s7/\tn i s7.heap/\(∀b∈fp,H' b=none)/\W i m σ' H':=fun {σ7 H7} I7 n7=>by
   obtain⟨m',hm,w7⟩:=hN σ7 H7 n7;refine⟨m',hm,i+1,σ7,H7,I7.unpinned,T.keep _ _ _ st5 fun b hb o e=>(I7.pin (b,o) (jh _ (jh _ (yM hb e)))).1,fun b hb=>?_,w7⟩;obtain⟨o,e,d⟩:=T.obj _ _ st5 b hb;exact(I7.pin (b,o) (jh _ (jh _ (yM hb e)))).2.1
  cases f with
  |next=>obtain⟨σ7,H7,I7,n7⟩:=q7;exact again I7 n7
  |cont=>obtain⟨σ7,H7,I7,n7⟩:=q7;exact again I7 n7
  |brk=>obtain⟨σ7,H7,I7,q7⟩:=q7;exact⟨σ7,H7,I7.unpinned,q7⟩
  |ret v=>obtain⟨x7,σ7,H7,I7,r7,q7⟩:=q7;exact⟨x7,σ7,H7,I7.unpinned,r7,q7⟩
end
theorem xM{K:υ}{xs:List V}{g:TG}{tb:TS}{D:Ends}{σ:St}(Pv:Nat->St->Hp->Prop)(h0:Pv 0 σ H)(hl:∀i σ H,i<=xs.length->Pv i σ H->SqL K H a xs)
  (hs:∀i x σ H,xs[i]?=some x->Pv i σ H->LpL (let D2:Ends:={ D with nx:=Pv (i+1),ct:=Pv (i+1),bk:=D.nx };g x σ H fun σ2 H2=>tb D2 σ2 H2))(hd:∀σ H,Pv xs.length σ H->D.nx σ H):
  ∃W:Nat->Nat->St->Hp->Prop,(∃m,W 0 m σ H)/\∀i m σ H,W i m σ H →
   ((Itl K a).stop i H/\D.nx σ H)\/((Itl K a).go i H/\∃N:St->Hp->Prop,(∀σ' H',N σ' H'->∃m',m'<m/\W (i+1) m' σ' H')/\∀x H',(Itl K a).yld i H x H'->g x σ H' fun σ2 H2=>tb { D with nx:=N,ct:=N,bk:=D.nx } σ2 H2):=by
 refine⟨fun i m σ H=>m=xs.length-i/\i<=xs.length/\Pv i σ H,⟨xs.length,by simp,iy _,h0⟩,?_⟩;rintro i m σ H ⟨rfl,hi,p⟩;have q:=hl i σ H hi p
 by_cases hlt:i<xs.length
 ·refine .inr ⟨⟨xs,xs[i],q,by simp[hlt]⟩,Pv (i+1),fun σ' H' p'=>⟨xs.length-(i+1),by omega,rfl,hlt,p'⟩,fun x H' y=>?_⟩;obtain⟨e,y⟩:=y;subst e;exact hs i x σ _ (y xs q) p
 ·have e:i=xs.length:=by omega
  subst e;exact .inl ⟨⟨xs,q,ν _⟩,hd σ H p⟩
theorem yR{lo:Int}{n:Nat}{g:TG}{tb:TS}{D:Ends}{σ:St}(Pv:Nat->St->Hp->Prop)(h0:Pv 0 σ H)
  (hs:∀i σ H,i<n->Pv i σ H->LpL (let D2:Ends:={ D with nx:=Pv (i+1),ct:=Pv (i+1),bk:=D.nx };g (.int (lo+i)) σ H fun σ2 H2=>tb D2 σ2 H2))(hd:∀σ H,Pv n σ H->D.nx σ H):
  ∃W:Nat->Nat->St->Hp->Prop,(∃m,W 0 m σ H)/\∀i m σ H,W i m σ H →
   ((Itr lo n).stop i H/\D.nx σ H)\/((Itr lo n).go i H/\∃N:St->Hp->Prop,(∀σ' H',N σ' H'->∃m',m'<m/\W (i+1) m' σ' H')/\∀x H',(Itr lo n).yld i H x H'->g x σ H' fun σ2 H2=>tb { D with nx:=N,ct:=N,bk:=D.nx } σ2 H2):=by
 refine⟨fun i m σ H=>m=n-i/\i<=n/\Pv i σ H,⟨n,by simp,iy _,h0⟩,?_⟩;rintro i m σ H ⟨rfl,hi,p⟩
 by_cases hlt:i<n
 ·refine .inr ⟨hlt,Pv (i+1),fun σ' H' p'=>⟨n-(i+1),by omega,rfl,hlt,p'⟩,fun x H' y=>?_⟩;obtain⟨e,y⟩:=y;subst e y;exact hs i σ _ hlt p
 ·have e:i=n:=by omega
  subst e;exact .inl ⟨ν _,hd σ H p⟩
abbrev R2:=V->V->Hp->VK->Prop
def OpR (X:Cx) (f:Value->Value->Sem Value) (r:R2):Prop :=
 ∀(pins:List (Addr×Obj)) (s:ξ) (σ:St) (H:Hp) (x y:V) (v u:Value) (Q:VK),Inv X pins σ H s->RelV x v->RelV y u->r x y H Q →
  ik (ir X.prog X.w) X.A (f v u) (EP X pins σ Q) X.xe s
def UnR (X:Cx) (f:Value->Sem Value) (r:V->Hp->VK->Prop):Prop :=
 ∀(pins:List (Addr×Obj)) (s:ξ) (σ:St) (H:Hp) (x:V) (v:Value) (Q:VK),Inv X pins σ H s->RelV x v->r x H Q →
  ik (ir X.prog X.w) X.A (f v) (EP X pins σ Q) X.xe s
def xA (X:Cx) (f:Value) (r:List V->Hp->VK->Prop):Prop :=
 ∀(pins:List (Addr×Obj)) (s:ξ) (σ:St) (H:Hp) (xs:List V) (us:List Value) (Q:VK),Inv X pins σ H s->kN xs us->r xs H Q →
  ik (ir X.prog X.w) X.A (call f us) (EP X pins σ Q) X.xe s
def TruR (X:Cx) (r:V->Hp->(Bool->Hp->Prop)->Prop):Prop :=
 ∀(pins:List (Addr×Obj)) (s:ξ) (σ:St) (H:Hp) (x:V) (v:Value) (Q:Bool->Hp->Prop),Inv X pins σ H s->RelV x v->r x H Q →
  ik (ir X.prog X.w) X.A (truthy v) (TP X pins σ Q) X.xe s
def tOp (r:R2) (ta tb:TE):TE:=fun σ H Q=>ta σ H fun x H1=>tb σ H1 fun y H2=>r x y H2 Q
def tUn (r:V->Hp->VK->Prop) (ta:TE):TE:=fun σ H Q=>ta σ H fun x H1=>r x H1 Q
inductive rI_i (C:Int->Int->Prop) (g:Int->Int->V) (x:V) (y:V) (H:Hp) (Q:VK):Prop|mk:∀i j,x=.int i->y=.int j->C i j->Q (g i j) H->rI_i C g x y H Q
def rI (C:Int->Int->Prop) (g:Int->Int->V):R2:=fun x y H Q=>rI_i C g x y H Q
inductive aPu (g:Int->Int->V) (x:V) (y:V) (H:Hp) (Q:VK):Prop|mk:∀i j,x=.int i->y=.int j->Q (g i j) H->aPu g x y H Q
def rI0 (g:Int->Int->V):R2:=fun x y H Q=>aPu g x y H Q
def rU (g:Int->V):V->Hp->VK->Prop:=fun x H Q=>∃i,x=.int i/\Q (g i) H
section
variable {X:Cx}{a b c:Expr}{ta tb tc:TE}{pos:Pos}
theorem binT(ha:PE X a ta)(hb:PE X b tb){R:V->V->Hp->Prop}(I:Inv X pins σ H s)
  (h:ta σ H fun x H1=>tb σ H1 fun y H2=>R x y H2){f:Value->Value->Sem Value}
  (hf:∀v u s2 x y H2,Inv X pins σ H2 s2->RelV x v->RelV y u->R x y H2->ik (ir X.prog X.w) X.A (f v u) Q X.xe s2):
  ik (ir X.prog X.w) X.A (eval a X.env) (fun v s₁=>ik (ir X.prog X.w) X.A (eval b X.env) (fun u s₂=>ik (ir X.prog X.w) X.A (f v u) Q X.xe s₂) X.xe s₁) X.xe s:=by
 refine thn (ha pins s σ H _ I h) fun v s1 zq=>?_;obtain⟨x,H1,I1,r1,q1⟩:=zq;refine thn (hb pins s1 σ H1 _ I1 q1) fun u s2 zq=>?_;obtain⟨y,H2,I2,r2,q2⟩:=zq;exact hf v u s2 x y H2 I2 r1 r2 q2
theorem jY(ho:OpR X (sg op) r)(ha:PE X a ta)(hb:PE X b tb):PE X (.BinOp a op b pos) (tOp r ta tb):=by
 intro pins s σ H Q I h;exact wpAny_BinOp (binT ha hb I h fun v u s2 x y H2 I2 rx ry q=>ho pins s2 σ H2 x y v u Q I2 rx ry q)
theorem iI(ho:UnR X (unaryOp op) r)(ha:PE X a ta):PE X (.UnaryOp op a pos) (tUn r ta):=by
 intro pins s σ H Q I h;exact UnaryOp_ (thn (ha pins s σ H _ I h) fun v s1 zq=>zq.el fun x H1 I1 r1 q1=>ho pins s1 σ H1 x v Q I1 r1 q1)
theorem opI{f:Value->Value->Sem Value}{C:Int->Int->Prop}{g:Int->Int->Int}
  (rule:∀(i j:Int) (t u:Tok) (s:ξ) (Q:Value->ξ->Prop) (E:Value->ξ->Prop),C i j->Q (.int (g i j) s.toks) { s with toks:=s.toks+1 }->ik (ir X.prog X.w) X.A (f (.int i t) (.int j u)) Q E s):
  OpR X f (rI C fun i j=>.int (g i j)):=by
 intro pins s σ H x y v u Q I rx ry h;obtain⟨i,j,rfl,rfl,hc,q⟩:=h;obtain⟨t,rfl⟩:=rx;obtain⟨t',rfl⟩:=ry;exact rule i j t t' s _ _ hc ⟨.int (g i j),H,I.tok _,⟨_,rfl⟩,q⟩
theorem opI0{f:Value->Value->Sem Value}{g:Int->Int->Int}
  (rule:∀(i j:Int) (t u:Tok) (s:ξ) (Q:Value->ξ->Prop) (E:Value->ξ->Prop),Q (.int (g i j) s.toks) { s with toks:=s.toks+1 }->ik (ir X.prog X.w) X.A (f (.int i t) (.int j u)) Q E s):
  OpR X f (rI0 fun i j=>.int (g i j)):=by
 intro pins s σ H x y v u Q I rx ry h;obtain⟨i,j,rfl,rfl,q⟩:=h;obtain⟨t,rfl⟩:=rx;obtain⟨t',rfl⟩:=ry;exact rule i j t t' s _ _ ⟨.int (g i j),H,I.tok _,⟨_,rfl⟩,q⟩
theorem opB0{f:Value->Value->Sem Value}{g:Int->Int->Bool}
  (rule:∀(i j:Int) (t u:Tok) (s:ξ) (Q:Value->ξ->Prop) (E:Value->ξ->Prop),Q (.bool (g i j)) s->ik (ir X.prog X.w) X.A (f (.int i t) (.int j u)) Q E s):
  OpR X f (rI0 fun i j=>.bl (g i j)):=by
 intro pins s σ H x y v u Q I rx ry h;obtain⟨i,j,rfl,rfl,q⟩:=h;obtain⟨t,rfl⟩:=rx;obtain⟨t',rfl⟩:=ry;exact rule i j t t' s _ _ ⟨.bl (g i j),H,I,rfl,q⟩
def CDiv (i j:Int):Prop:=0<j/\j<1073741824
def CPow (i j:Int):Prop:=0<=j/\j<=1000000/\i.natAbs<2 ^ 64
def CMul (i j:Int):Prop:=(-(2 ^ 64)<i/\i<2 ^ 64)\/(-(2 ^ 64)<j/\j<2 ^ 64)
theorem CMul.ok(h:CMul i j):IntMulOk i j:=by
 rcases h with⟨h1,h2⟩|⟨h1,h2⟩
 ·exact .of_left (intBits_le_64 h1 h2)
 ·exact .of_right (intBits_le_64 h1 h2)
theorem qJ:OpR X (sg .Add) (rI0 fun i j=>.int (i+j)):=opI0 fun _ _ _ _ _ _ _ q=>add_int q
theorem zZ:OpR X (sg .Sub) (rI0 fun i j=>.int (i-j)):=opI0 fun _ _ _ _ _ _ _ q=>sub_int q
theorem zL:OpR X (sg .Mult) (rI CMul fun i j=>.int (i*j)):=opI fun _ _ _ _ _ _ _ hc q=>mul_int q hc.ok
theorem aMr:OpR X (sg .FloorDiv) (rI CDiv fun i j=>.int (i / j)):=opI fun i j _ _ _ _ _ hc q=>by
 have h1:(0:Int)<j:=hc.1;have h2:j<1073741824:=hc.2;exact floordiv_int (by omega) (by rw[Int.fdiv_eq_ediv_of_nonneg i (by omega)];exact q) (.inl (PyProof.noPylong_small (by omega)))
theorem zK:OpR X (sg .Mod) (rI (fun _ j=>0<j) fun i j=>.int (i % j)):=opI fun i j _ _ _ _ _ hc q=>by
 have h1:(0:Int)<j:=hc;exact mod_int' (by omega) (by rw[Int.fmod_eq_emod_of_nonneg i (by omega)];exact q)
theorem aQc:OpR X (sg .Pow) (rI CPow fun i j=>.int (i ^ j.toNat)):=opI fun _ _ _ _ _ _ _ hc q=>pow_int_small hc.1 hc.2.1 hc.2.2 q
theorem wC:OpR X (sg .LShift) (rI CPow fun i j=>.int (i*2 ^ j.toNat)):=opI fun _ _ _ _ _ _ _ hc q=>lshift_int_small hc.1 hc.2.1 hc.2.2 q
theorem unI{f:Value->Sem Value}{g:Int->Int}
  (rule:∀(i:Int) (t:Tok) (s:ξ) (Q:Value->ξ->Prop) (E:Value->ξ->Prop),Q (.int (g i) s.toks) { s with toks:=s.toks+1 }->ik (ir X.prog X.w) X.A (f (.int i t)) Q E s):
  UnR X f (rU fun i=>.int (g i)):=by
 intro pins s σ H x v Q I rx h;obtain⟨i,rfl,q⟩:=h;obtain⟨t,rfl⟩:=rx;exact rule i t s _ _ ⟨.int (g i),H,I.tok _,⟨_,rfl⟩,q⟩
theorem cH:UnR X (unaryOp .USub) (rU fun i=>.int (-i)):=unI fun _ _ _ _ _ q=>neg_int q
end
def scal:V->V->Bool
 |.non,.non=>true | .non,.int _=>true | .int _,.non=>true | .non,.bl _=>true | .bl _,.non=>true | .non,.str _=>true | .str _,.non=>true
 |.int _,.int _=>true | .bl _,.bl _=>true | .str _,.str _=>true | .byt _,.byt _=>true
 |.int _,.str _=>true | .str _,.int _=>true | .bl _,.str _=>true | .str _,.bl _=>true
 |_,_=>false
inductive aPs (x:V) (y:V) (H:Hp) (Q:VK):Prop|mk:scal x y=true->Q (.bl (decide (x=y))) H->aPs x y H Q
def rEq:R2:=fun x y H Q=>aPs x y H Q
inductive aOz (x:V) (y:V) (H:Hp) (Q:VK):Prop|mk:scal x y=true->Q (.bl (!decide (x=y))) H->aOz x y H Q
def rNe:R2:=fun x y H Q=>aOz x y H Q
theorem aFl : decide (V.int i=V.int j)=(i == j):=by
 rw[rg];simp
theorem aJz : decide (V.bl i=V.bl j)=(i == j):=by
 rw[rg];simp
theorem aFd : decide (V.str i=V.str j)=(i == j):=by
 rw[rg];simp
theorem aGa : decide (V.byt i=V.byt j)=(i.toList == j.toList):=by
 rw[rg];cases i;cases j;simp
section
variable {X:Cx}{a b c:Expr}{ta tb tc:TE}{pos:Pos}
theorem qG{Q:VK}{k':Bool}(I:Inv X pins σ H s)(q:Q (.bl k) H)(e:k=k'):EP X pins σ Q (.bool k') s:=by
 subst e;exact⟨.bl k,H,I,rfl,q⟩
theorem kW:OpR X (ky .Eq) rEq:=by
 intro pins s σ H x y v u Q I rx ry h;obtain⟨hs,q⟩:=h;cases x with
 |non =>
  cases rx;cases y with
  |non=>cases ry;exact PySem.EqNone.eq_none_none (qG I q (by simp))
  |bl j=>cases ry;exact PySem.EqNone.eq_none_bool (qG I q (by simp))
  |int j=>obtain⟨t',rfl⟩:=ry;exact PySem.EqNone.eq_none_int (qG I q (by simp))
  |str j=>obtain⟨t',rfl⟩:=ry;exact PySem.EqNone.eq_none_str (qG I q (by simp))
  |_=>exact absurd (show false=true from hs) ψ
 |bl i =>
  cases rx;cases y with
  |non=>cases ry;exact PySem.EqNone.eq_bool_none (qG I q (by simp))
  |bl j=>cases ry;exact eq_bool (qG I q aJz)
  |str j=>obtain⟨t',rfl⟩:=ry;exact PySem.EqMixed.eq_bool_str (qG I q (by simp))
  |_=>exact absurd (show false=true from hs) ψ
 |int i =>
  obtain⟨t,rfl⟩:=rx;cases y with
  |non=>cases ry;exact PySem.EqNone.eq_int_none (qG I q (by simp))
  |int j=>obtain⟨t',rfl⟩:=ry;exact eq_int (qG I q aFl)
  |str j=>obtain⟨t',rfl⟩:=ry;exact PySem.EqMixed.eq_int_str (qG I q (by simp))
  |_=>exact absurd (show false=true from hs) ψ
 |str i =>
  obtain⟨t,rfl⟩:=rx;cases y with
  |non=>cases ry;exact PySem.EqNone.eq_str_none (qG I q (by simp))
  |bl j=>cases ry;exact PySem.EqMixed.eq_str_bool (qG I q (by simp))
  |int j=>obtain⟨t',rfl⟩:=ry;exact PySem.EqMixed.eq_str_int (qG I q (by simp))
  |str j=>obtain⟨t',rfl⟩:=ry;exact eq_str (qG I q aFd)
  |_=>exact absurd (show false=true from hs) ψ
 |byt i =>
  obtain⟨t,rfl⟩:=rx;cases y with
  |byt j=>obtain⟨t',rfl⟩:=ry;exact PySem.W.eq_bytes (qG I q aGa)
  |_=>exact absurd (show false=true from hs) ψ
 |_=>cases y <;> exact absurd (show false=true from hs) ψ
theorem dP:OpR X (ky .NotEq) rNe:=by
 intro pins s σ H x y v u Q I rx ry h;obtain⟨hs,q⟩:=h;cases x with
 |non =>
  cases rx;cases y with
  |non=>cases ry;exact PySem.EqNone.ne_none_none (qG I q (by simp))
  |bl j=>cases ry;exact PySem.EqNone.ne_none_bool (qG I q (by simp))
  |int j=>obtain⟨t',rfl⟩:=ry;exact PySem.EqNone.ne_none_int (qG I q (by simp))
  |str j=>obtain⟨t',rfl⟩:=ry;exact PySem.EqNone.ne_none_str (qG I q (by simp))
  |_=>exact absurd (show false=true from hs) ψ
 |bl i =>
  cases rx;cases y with
  |non=>cases ry;exact PySem.EqNone.ne_bool_none (qG I q (by simp))
  |bl j=>cases ry;exact ne_bool (qG I q (congrArg not aJz))
  |str j=>obtain⟨t',rfl⟩:=ry;exact PySem.EqMixed.ne_bool_str (qG I q (by simp))
  |_=>exact absurd (show false=true from hs) ψ
 |int i =>
  obtain⟨t,rfl⟩:=rx;cases y with
  |non=>cases ry;exact PySem.EqNone.ne_int_none (qG I q (by simp))
  |int j=>obtain⟨t',rfl⟩:=ry;exact ne_int (qG I q (congrArg not aFl))
  |str j=>obtain⟨t',rfl⟩:=ry;exact PySem.EqMixed.ne_int_str (qG I q (by simp))
  |_=>exact absurd (show false=true from hs) ψ
 |str i =>
  obtain⟨t,rfl⟩:=rx;cases y with
  |non=>cases ry;exact PySem.EqNone.ne_str_none (qG I q (by simp))
  |bl j=>cases ry;exact PySem.EqMixed.ne_str_bool (qG I q (by simp))
  |int j=>obtain⟨t',rfl⟩:=ry;exact PySem.EqMixed.ne_str_int (qG I q (by simp))
  |str j=>obtain⟨t',rfl⟩:=ry;exact ne_str (qG I q (congrArg not aFd))
  |_=>exact absurd (show false=true from hs) ψ
 |byt i =>
  obtain⟨t,rfl⟩:=rx;cases y with
  |byt j=>obtain⟨t',rfl⟩:=ry;exact PySem.W.ne_bytes (qG I q (congrArg not aGa))
  |_=>exact absurd (show false=true from hs) ψ
 |_=>cases y <;> exact absurd (show false=true from hs) ψ
theorem aGe:OpR X (ky .Lt) (rI0 fun i j=>.bl (decide (i<j))):=opB0 fun _ _ _ _ _ _ _ q=>lt_int q
theorem cZ:OpR X (ky .LtE) (rI0 fun i j=>.bl (decide (i<=j))):=opB0 fun _ _ _ _ _ _ _ q=>le_int q
theorem fC:OpR X (ky .Gt) (rI0 fun i j=>.bl (decide (j<i))):=opB0 fun _ _ _ _ _ _ _ q=>gt_int q
theorem op_ge:OpR X (ky .GtE) (rI0 fun i j=>.bl (decide (j<=i))):=opB0 fun _ _ _ _ _ _ _ q=>ge_int q
theorem aGy:OpR X (ky .In) (fun x y H Q=>∃i j,x=.str i/\y=.str j/\Q (.bl (!(oy j i 0 j.length 1).isEmpty)) H):=by
 intro pins s σ H x y v u Q I rx ry h;obtain⟨i,j,rfl,rfl,q⟩:=h;obtain⟨t,rfl⟩:=rx;obtain⟨t',rfl⟩:=ry;exact in_str (qG I q rfl)
theorem pW:OpR X (ky .Is) (fun x y H Q=>y=.non/\Q (.bl (decide (x=.non))) H):=by
 intro pins s σ H x y v u Q I rx ry h;obtain⟨rfl,q⟩:=h;cases ry;refine is_none_gen (qG I q ?_);cases x <;> first
  | (cases rx;rfl)
  | (obtain⟨t,rfl⟩:=rx;rfl)
theorem tV:OpR X (ky .IsNot) (fun x y H Q=>y=.non/\Q (.bl (!decide (x=.non))) H):=by
 intro pins s σ H x y v u Q I rx ry h;obtain⟨rfl,q⟩:=h;cases ry;refine isnot_none_gen (qG I q ?_);cases x <;> first
  | (cases rx;rfl)
  | (obtain⟨t,rfl⟩:=rx;rfl)
theorem OpR.or{r r':R2}(h:OpR X f r)(h':OpR X f r'):OpR X f (fun x y H Q=>r x y H Q\/r' x y H Q):=by
 intro pins s σ H x y v u Q I rx ry q;rcases q with q|q
 ·exact h pins s σ H x y v u Q I rx ry q
 ·exact h' pins s σ H x y v u Q I rx ry q
theorem vG(b:Expr){op:CmpOp}(h:op≠.In:=by decide)(h2:op≠.NotIn:=by decide):ub op b=false:=by
 have e1:(op == CmpOp.In)=false:=by cases op <;> first|rfl|exact absurd rfl h
 have e2:(op == CmpOp.NotIn)=false:=by cases op <;> first|rfl|exact absurd rfl h2
 cases b <;> simp[ub,e1,e2]
theorem qK(ho:OpR X (ky op) r)(ha:PE X a ta)(hb:PE X b tb)(hm:ub op b=false):PE X (.Compare a [op] [b] pos) (tOp r ta tb):=by
 intro pins s σ H Q I h;exact wpAny_Compare1 (binT ha hb I h fun v u s2 x y H2 I2 rx ry q=>ho pins s2 σ H2 x y v u Q I2 rx ry q) hm
inductive aFa (Q:Bool->Hp->Prop) (x:V) (H':Hp):Prop|mk:∀k,x=.bl k->Q k H'->aFa Q x H'
def aIr (t:TE):TT:=fun σ H Q=>t σ H fun x H'=>aFa Q x H'
theorem nZ(ho:OpR X (ky op) r)(ha:PE X a ta)(hb:PE X b tb)(hm:ub op b=false):PT X (.Compare a [op] [b] pos) (aIr (tOp r ta tb)):=by
 intro pins s σ H Q I h;refine wpAny_isTrue_Compare1 (thn (ha pins s σ H _ I h) fun v s1 zq=>zq.el fun x H1 I1 r1 q1=>thn (hb pins s1 σ H1 _ I1 q1) fun u s2 zq=>zq.el fun y H2 I2 r2 q2=>
  thn (ho pins s2 σ H2 x y v u _ I2 r1 r2 q2) fun c s3 ⟨z,H3,I3,r3,k,e,q3⟩=>?_) hm
 subst e;cases r3;exact mh ⟨H3,I3,q3⟩
def aLb (r r':R2) (ta tb tc:TE):TE:=fun σ H Q=>ta σ H fun x H1=>tb σ H1 fun y H2=>r x y H2 fun z H3=>∃k,z=.bl k ∧
 (if k=true then tc σ H3 fun w' H4=>r' y w' H4 Q else Q (.bl false) H3)
theorem aAd(ho:OpR X (ky op) r)(ho':OpR X (ky op') r')(ha:PE X a ta)(hb:PE X b tb)(hc:PE X c tc)
  (hm:lastMarks [op,op'] [b,c]=false:=by with_unfolding_all rfl):PE X (.Compare a [op,op'] [b,c] pos) (aLb r r' ta tb tc):=by
 intro pins s σ H Q I h;refine Compare_chain (thn (ha pins s σ H _ I h) fun v s1 zq=>zq.el fun x H1 I1 r1 q1=>chain_link (thn (hb pins s1 σ H1 _ I1 q1) fun u s2 zq=>zq.el fun y H2 I2 r2 q2=>
  thn (ho pins s2 σ H2 x y v u _ I2 r1 r2 q2) fun d s3 ⟨z,H3,I3,r3,k,e,q3⟩=>?_)) hm
 subst e;cases r3;refine mh ?_;cases k with
 |false=>exact ite_ff ⟨.bl false,H3,I3,rfl,q3⟩
 |true=>exact ite_tt (chain_last (thn (hc pins s3 σ H3 _ I3 q3) fun w' s4 zq=>zq.el fun z' H4 I4 r4 q4=>ho' pins s4 σ H4 y z' u w' Q I4 r2 r4 q4))
theorem iO(ho:OpR X (ky op) r)(ho':OpR X (ky op') r')(ha:PE X a ta)(hb:PE X b tb)(hc:PE X c tc)
  (hm:lastMarks [op,op'] [b,c]=false:=by with_unfolding_all rfl):PT X (.Compare a [op,op'] [b,c] pos) (aIr (aLb r r' ta tb tc)):=by
 intro pins s σ H Q I h;refine isTrue_chain (thn (ha pins s σ H _ I h) fun v s1 zq=>zq.el fun x H1 I1 r1 q1=>test_link (thn (hb pins s1 σ H1 _ I1 q1) fun u s2 zq=>zq.el fun y H2 I2 r2 q2=>
  thn (ho pins s2 σ H2 x y v u _ I2 r1 r2 q2) fun d s3 ⟨z,H3,I3,r3,k,e,q3⟩=>?_)) hm
 subst e;cases r3;refine mh ?_;cases k with
 |false =>
  obtain⟨k',e',q'⟩:=q3;cases e';exact ite_ff ⟨H3,I3,q'⟩
 |true =>
  refine ite_tt (test_last (thn (hc pins s3 σ H3 _ I3 q3) fun w' s4 zq=>zq.el fun z' H4 I4 r4 q4=>thn (ho' pins s4 σ H4 y z' u w' _ I4 r2 r4 q4) fun d' s5 zq=>?_));obtain⟨z2,H5,I5,r5,k2,e2,q5⟩:=zq;subst e2;cases r5;exact mh ⟨H5,I5,q5⟩
def TruV (K:υ) (x:V) (H:Hp) (k:Bool):Prop :=
 match x with
 |.non=>k=false
 |.bl b=>k=b
 |.int i=>k=(i != 0)
 |.str y=>y.length<=ρ/\k=((y.length:Int) != 0)
 |.byt y=>y.size<=ρ/\k=((y.size:Int) != 0)
 |.ref p=>(∃xs,SqL K H p xs/\k = !xs.isEmpty)\/(∃xs,SqT K H p xs/\k = !xs.isEmpty)\/∃kvs,H p=some (.dK kvs)/\k = !kvs.isEmpty
 |_=>False
theorem aDa{κ : Type}{kvs:List (κ×V)}{vs:List (κ×Value)}(r:KV kvs vs):(!vs.isEmpty) = !kvs.isEmpty:=by
 cases r <;> rfl
theorem oW(r:kN xs its):(!its.toArray.isEmpty) = !xs.isEmpty:=by
 cases r <;> simp
theorem gT:(ρ:Nat)<2 ^ 63:=by rw[jk];decide
theorem aRa:TruR X (fun x H Q=>∃k,TruV X.K x H k/\Q k H):=by
 intro pins s σ H x v Q I rx h;obtain⟨k,e,q⟩:=h;have hl:=gT;have hs:ρ=16777216:=jk;cases x with
 |non =>
  cases rx;have e':k=false:=e;subst e';exact truthy_none ⟨H,I,q⟩
 |bl b =>
  cases rx;have e':k=b:=e;subst e';exact mh ⟨H,I,q⟩
 |int i =>
  obtain⟨t,rfl⟩:=rx;have e':k=(i != 0):=e;subst e';exact PySem.P.truthy_int ⟨H,I,q⟩
 |str y =>
  obtain⟨t,rfl⟩:=rx;obtain⟨hy,e'⟩ : y.length<=ρ/\k=((y.length:Int) != 0):=e;subst e';exact PySem.P.truthy_str (by omega) ⟨H,I.tok _,q⟩
 |byt y =>
  obtain⟨t,rfl⟩:=rx;obtain⟨hy,e'⟩ : y.size<=ρ/\k=((y.size:Int) != 0):=e;subst e';exact PySem.W.truthy_bytes (by omega) ⟨H,I.tok _,q⟩
 |ref p =>
  cases rx;have e':(∃xs,SqL X.K H p xs/\k = !xs.isEmpty)\/(∃xs,SqT X.K H p xs/\k = !xs.isEmpty)\/∃kvs,H p=some (.dK kvs)/\k = !kvs.isEmpty:=e;rcases e' with⟨xs,hx,e'⟩|⟨xs,hx,e'⟩|⟨kvs,hx,e'⟩
  ·subst e';obtain⟨its,r,pl,hz⟩:=I.list hx;have hlen:=r.length;exact wpAny_truthy_list pl.isList (by simp only[τ];omega) ⟨H,I.tok _,by rw[oW r];exact q⟩
  ·subst e';obtain⟨its,r,pl,hz⟩:=I.tuple hx;have hlen:=r.length;exact truthy_tuple pl (by simp only[τ];omega) ⟨H,I.tok _,by rw[oW r];exact q⟩
  ·subst e';obtain⟨hz,hS,vs,r,m⟩ : kvs.length<=ρ/\(p == ly)=false/\∃vs,KV kvs vs/\s.heap.DictOf (qX X.prog X.w) p vs:=I.hok p _ hx;have hlen:kvs.length=vs.length:=zr.length r;exact wpAny_truthy_dict hS m (by omega) ⟨H,I.tok _,by rw[aDa r];exact q⟩
 |_=>exact(show False from e).elim
theorem dD(ha:PE X a ta)(he:∀whole,isTrue a X.env whole=(do let v ←whole;standAt a.pos;xb [v] (truthy v))):
  PT X a (fun σ H Q=>ta σ H fun x H'=>∃k,TruV X.K x H' k/\Q k H'):=by
 intro pins s σ H Q I h;exact isTrue_plain (thn (ha pins s σ H _ I h) fun v s1 zq=>zq.el fun x H1 I1 r1 q1=>aRa pins s1 σ H1 x v Q I1 r1 q1) (he _)
theorem qM:OpR X (sg .Add) (fun x y H Q=>∃i j,x=.str i/\y=.str j/\i.length+j.length<=ρ/\Q (.str (i++j)) H):=by
 intro pins s σ H x y v u Q I rx ry h;obtain⟨i,j,rfl,rfl,hz,q⟩:=h;obtain⟨t,rfl⟩:=rx;obtain⟨t',rfl⟩:=ry;exact add_str (fun t' tk=>⟨.str (i++j),H,I.tok _,⟨_,rfl⟩,q⟩) hz
theorem vals1{x:V}(r:kN [x] us):∃u,us=[u]/\RelV x u:=by
 cases r with
 |cons r1 r2=>cases r2;exact⟨_,rfl,r1⟩
theorem vals2{x y:V}(r:kN [x,y] us):∃u w',us=[u,w']/\RelV x u/\RelV y w':=by
 cases r with
 |cons r1 r2 =>
  cases r2 with
  |cons r3 r4=>cases r4;exact⟨_,_,rfl,r1,r3⟩
theorem tI(hc:X.calm=true):xA X (.builtin "max") (fun xs H Q=>∃i j,xs=[.int i,.int j]/\Q (.int (if j > i then j else i)) H):=by
 intro pins s σ H xs us Q I r h;obtain⟨i,j,rfl,q⟩:=h;obtain⟨u,w',rfl,⟨t,rfl⟩,⟨t',rfl⟩⟩:=vals2 r;refine max_two_ints (I.ok.hd hc) fun h' tk k=>⟨_,H,I.kept k,?_,q⟩
 by_cases hj:j > i
 ·rw[if_pos hj,if_pos hj];exact⟨_,rfl⟩
 ·rw[if_neg hj,if_neg hj];exact⟨_,rfl⟩
theorem sW(hc:X.calm=true):xA X (.builtin "min") (fun xs H Q=>∃i j,xs=[.int i,.int j]/\Q (.int (if j<i then j else i)) H):=by
 intro pins s σ H xs us Q I r h;obtain⟨i,j,rfl,q⟩:=h;obtain⟨u,w',rfl,⟨t,rfl⟩,⟨t',rfl⟩⟩:=vals2 r;refine min_two_ints (I.ok.hd hc) fun h' tk k=>⟨_,H,I.kept k,?_,q⟩
 by_cases hj:j<i
 ·rw[if_pos hj,if_pos hj];exact⟨_,rfl⟩
 ·rw[if_neg hj,if_neg hj];exact⟨_,rfl⟩
theorem yG:xA X (.type "str") (fun xs H Q=>∃i,xs=[.int i]/\i.natAbs.log2<1920/\Q (.str (toString i)) H):=by
 intro pins s σ H xs us Q I r h;obtain⟨i,rfl,hz,q⟩:=h;obtain⟨u,rfl,t,rfl⟩:=vals1 r;exact PySem.P.str_of_int hz ⟨.str _,H,I.tok _,⟨_,rfl⟩,q⟩
def LenV (K:υ) (x:V) (H:Hp) (n:Nat):Prop :=
 match x with
 |.str y=>y.length<=ρ/\n=y.length
 |.byt y=>y.size<=ρ/\n=y.size
 |.ref p=>(∃xs,SqL K H p xs/\n=xs.length)\/∃xs,SqT K H p xs/\n=xs.length
 |_=>False
theorem aCg:xA X (.builtin "len") (fun xs H Q=>∃x n,xs=[x]/\LenV X.K x H n/\Q (.int n) H):=by
 intro pins s σ H xs us Q I r h;obtain⟨x,n,rfl,e,q⟩:=h;obtain⟨u,rfl,rx⟩:=vals1 r;have hl:=gT;have hs:ρ=16777216:=jk;cases x with
 |str y =>
  obtain⟨t,rfl⟩:=rx;obtain⟨hy,e'⟩ : y.length<=ρ/\n=y.length:=e;subst e';exact len_str (by omega) ⟨.int _,H,I.tok _,⟨_,rfl⟩,q⟩
 |byt y =>
  obtain⟨t,rfl⟩:=rx;obtain⟨hy,e'⟩ : y.size<=ρ/\n=y.size:=e;subst e';exact PySem.W.len_bytes (by omega) ⟨.int _,H,I.tok _,⟨_,rfl⟩,q⟩
 |ref p =>
  cases rx;have e':(∃xs,SqL X.K H p xs/\n=xs.length)\/∃xs,SqT X.K H p xs/\n=xs.length:=e;rcases e' with⟨xs,hx,e'⟩|⟨xs,hx,e'⟩
  ·subst e';obtain⟨its,r',pl,hz⟩:=I.list hx;have hlen:=r'.length;exact Calls.call_len_list pl.isList (by simp only[τ];omega) ⟨.int xs.length,H,I.tok _,⟨_,by simp only[τ];rw[hlen]⟩,q⟩
  ·subst e';obtain⟨its,r',pl,hz⟩:=I.tuple hx;have hlen:=r'.length;exact len_tuple pl (by simp only[τ];omega) ⟨.int xs.length,H,I.tok _,⟨_,by simp only[τ];rw[hlen]⟩,q⟩
 |_=>exact(show False from e).elim
end
structure aEo (h:kq) (x dx C:Addr) (mA:Str->Option Value):Prop where
 obj:h.get? x=some (rc C dx)
 ns:h.Ns1 dx mA
 ne:dx≠x
theorem iW{h:kq}{mA:Str->Option Value}(n:h.Ns1 dx mA):∃od,h.get? dx=some od/\∀name,PySem.W.lookIn name od=some (mA name):=by
 obtain⟨o,es,ep,ho,hd,hk,_,hm⟩:=n;refine⟨o,ho,fun name=>?_⟩;have e:=hm name;unfold nsFind findBy at e;rw[←Array.find?_toList]at e;unfold PySem.W.lookIn;rw[hd];dsimp only
 split
 ·rename_i y q;rw[q]at e;exact congrArg some e
 ·rename_i q;rw[q]at e;have a:es.toList.any (·.refKey)=false:=by
   rw[List.any_eq_false];intro y hy;obtain⟨z,t,hkey⟩:=hk y (Array.mem_toList_iff.mp hy);simp[DictEntry.refKey,hkey]
  have a':¬ es.toList.any (·.refKey)=true:=by rw[a];exact ψ
  rw[if_neg a'];exact congrArg some e
theorem aEo.look{mA:Str->Option Value}(I:aEo h x dx C mA):∃od,vn h x (rc C dx) C (some od)/\∀name,PySem.W.lookIn name od=some (mA name) :=
 let ⟨od,ho,hl⟩:=iW I.ns
 ⟨od,⟨I.obj,rfl,rfl,ho⟩,hl⟩
section
variable {prog:jy}{w:mf}{A:kg}{E:Value->ξ->Prop}{s:ξ}{K:υ}{x dx C f:Addr}{mA:Str->Option Value}{name:Str}{v:Value}
theorem aMn{Q:Value->ξ->Prop}(X:K.In s.heap)(I:aEo s.heap x dx C mA)(hg:yy K C name=true)(hh:vh K C=true)
  (ha:nu K (.ref C) name=some none)(hv:mA name=some v)(hv':PySem.W.handedIn v=true)(h:Q v { s with toks:=s.toks+1 }):
  ik (ir prog w) A (getAttr (.ref x) name expr) Q E s:=by
 obtain⟨od,J,hl⟩:=I.look;exact PySem.W.get_value X J (PySem.W.plainGet_of hg).1 (PySem.W.findObj_own hh ha rfl (by rw[hl,hv])) hv' h
theorem aLe{Q:Value×List Value->ξ->Prop}(X:K.In s.heap)(I:aEo s.heap x dx C mA)(hg:yy K C name=true)
  (hf:nu K (.ref C) name=some (some (.ref f)))(ht:isFn K (.ref f)=true)(hv:mA name=none)(h:Q (.ref f,[.ref x]) s):
  ik (ir prog w) A (wc (.ref x) name pl) Q E s:=by
 obtain⟨od,J,hl⟩:=I.look;exact PySem.W.method_fn X J (PySem.W.plainGet_of hg).1 (PySem.W.plainGet_of hg).2 hf (beq_iff_eq.mp ht) (by show(PySem.W.lookIn name od).map (·.isSome)=some false;rw[hl,hv];rfl) h
theorem aNp{Q:Unit->ξ->Prop}(X:K.In s.heap)(I:aEo s.heap x dx C mA)
  (hs:nu K (.ref C) "__setattr__" = some (some (.builtin "object.__setattr__")))(hp:PySem.W.plainOver K C=true)(ht:PySem.W.takerIn K C name=some none)(hh:vh K C=true)
  (hw:ql mA ns)(hsz:ns.length<=ρ)
  (h:∀h',aEo h' x dx C (fun y=>if y=name then some v else mA y)->oh dx s.heap h'->Q () { s with heap:=h',toks:=s.toks+2 }):
  ik (ir prog w) A (setAttr (.ref x) name v) Q E s:=by
 obtain⟨od,J,hl⟩:=I.look;refine PySem.W.set_plain X J hs (PySem.W.osa_open (s:={ s with toks:=s.toks+1 }) (r:=none) X J hp ht fun b=>?_);obtain⟨cd,hc,hd'⟩:=PySem.W.any_some hh;have hx:s.heap.get? x=some ⟨.ref C,some dx,.plain,#[]⟩:=I.obj;refine ζ (Γ (ζ (ζ (wpAny_loadPart hx (ζ (qh (s:={ s with toks:=s.toks+1 }) (wm X hc) ?_))))));rw[hd'];refine Γ (a:=some dx) (ζ (Γ (ζ ?_)));refine wpAny_nsSet1 (s:={ s with toks:=s.toks+1 }) I.ns fun h' hn2 hs2=>?_;obtain⟨oD,esD,epD,hoD,hdD,hcD⟩:=hn2.count (ql.cons name v hw);refine ζ (wpAny_lookBehind hoD (by rw[hdD];exact pastItsLine_dict (Θ hcD (by rw[ii];omega))) ?_);exact Γ (h _ ⟨(hs2.2 _ (lu I.ne)).trans I.obj,hn2,I.ne⟩ hs2)
theorem aLl{vs:List Value}{kw:List (Str×Value)}(X:K.In s.heap)(hm:PySem.W.makesIn K C=true)
  (hi:nu K (.ref C) "__init__" = some (some (.ref f)))(hf:PySem.W.typeIn K (.ref f)=some (.type "function"))
  (h:wd (ir prog w) (A.under (.builtin "type.__call__" ⟨.ref C::vs,kw⟩)) (.call (.ref f) ⟨.ref (s.heap.objs.size+1)::vs,kw⟩) (PySem.W.InitBack (s.heap.objs.size+1) R)
   { s with heap:=(s.heap.push PySem.W.emptyDict).push (rc C s.heap.objs.size) }):
  wd (ir prog w) A (.call (.ref C) ⟨vs,kw⟩) R s:=by
 obtain⟨hh,g,d,t,os⟩:=s;exact PySem.W.make_core (PySem.W.makes_of X hm) (qu X hi) (fun self=>PySem.W.bind_fn X self hf) (.inl rfl) h
end
def aG (f:Str) (v:V):List (Str×V)->List (Str×V)
 |[]=>[(f,v)]
 | (g,x)::r=>if g=f then (g,v)::r else (g,x)::aG f v r
theorem eB(f g:Str)(v:V):∀fs:List (Str×V),(aG f v fs).lookup g=if g=f then some v else fs.lookup g
 |[]=>by
  show tu g [(f,v)]=_
  by_cases h:g=f
  ·have hb:(g == f)=true:=beq_iff_eq.mpr h;simp only[tu,hb,if_pos h]
  ·have hb:(g == f)=false:=beq_eq_false_iff_ne.mpr h;simp only[tu,hb,if_neg h]
 | (k,x)::r=>by
  have ih:=eB f g v r;rw[show aG f v ((k,x)::r)=(if k=f then (k,v)::r else (k,x)::aG f v r) from rfl]
  by_cases hk:k=f
  ·rw[if_pos hk]
   by_cases h:g=k
   ·have hb:(g == k)=true:=beq_iff_eq.mpr h;simp only[tu,hb,if_pos (h.trans hk)]
   ·have hb:(g == k)=false:=beq_eq_false_iff_ne.mpr h;simp only[tu,hb,if_neg (fun e:g=f=>h (e.trans hk.symm))]
  ·rw[if_neg hk]
   by_cases h:g=k
   ·have hb:(g == k)=true:=beq_iff_eq.mpr h;simp only[tu,hb,if_neg (fun e:g=f=>hk (h.symm.trans e))]
   ·have hb:(g == k)=false:=beq_eq_false_iff_ne.mpr h;simp only[tu,hb];exact ih
theorem bN(f:Str)(v:V):∀fs:List (Str×V),f∈(aG f v fs).map (·.1)/\∀g,g∈fs.map (·.1)->g∈(aG f v fs).map (·.1)
 |[]=>⟨by simp[aG],fun g h=>by simp at h⟩
 | (k,x)::r=>by
  obtain⟨i1,i2⟩:=bN f v r;rw[show aG f v ((k,x)::r)=(if k=f then (k,v)::r else (k,x)::aG f v r) from rfl]
  by_cases hk:k=f
  ·rw[if_pos hk];subst hk;exact⟨by simp,fun g h=>by simpa using h⟩
  ·rw[if_neg hk];refine⟨?_,fun g h=>?_⟩
   ·rw[ju];exact Ξ _ i1
   ·rw[ju]at h ⊢;rcases Φ.mp h with e|e
    ·exact Φ.mpr (.inl e)
    ·exact Ξ _ (i2 g e)
theorem mP(f:Str)(v:V):∀fs:List (Str×V),(aG f v fs).length<=fs.length+1
 |[]=>by simp[aG]
 | (k,x)::r=>by
  have ih:=mP f v r;rw[show aG f v ((k,x)::r)=(if k=f then (k,v)::r else (k,x)::aG f v r) from rfl]
  by_cases hk:k=f
  ·rw[if_pos hk,ii,ii];omega
  ·rw[if_neg hk,ii,ii];omega
theorem zT.some_of(r:zT (some v) o):∃u,o=some u/\RelV v u:=by
 cases o with
 |none=>exact(show False from r).elim
 |some u=>exact⟨u,rfl,r⟩
theorem zT.none_of(r:zT none o):o=none:=by
 cases o with
 |none=>rfl
 |some u=>exact(show False from r).elim
theorem tK(r:RelV v u):PySem.W.handedIn u=true:=by
 cases v with
 |non=>cases (show u=mn from r);rfl
 |bl b=>cases (show u=Value.bool b from r);rfl
 |int i=>obtain⟨t,e⟩:=(show ∃t,u=Value.int i t from r);cases e;rfl
 |str x=>obtain⟨t,e⟩:=(show ∃t,u=Value.str x t from r);cases e;rfl
 |byt b=>obtain⟨t,e⟩:=(show ∃t,u=Value.bytes b t from r);cases e;rfl
 |flt b=>obtain⟨t,e⟩:=(show ∃t,u=Value.float b t from r);cases e;rfl
 |ref a=>cases (show u=iw a from r);rfl
 |ty n=>cases (show u=Value.type n from r);rfl
section
variable {P:jy}{w:mf}{H H':Hp}{h h':kq}{a C dx:Addr}{fs fs':List (Str×V)}
theorem nY(hok:HOk P w H h)(e:H a=some (.ins C dx fs)):∃mA,aEo h a dx C mA/\(∀f,zT (fs.lookup f) (mA f))/\ql mA (fs.map (·.1))/\fs.length<=1000/\H dx=some (.own a):=by
 obtain⟨d,z,ne,ob,mA,n,r,q⟩:=(show vC P w H h a (.ins C dx fs) from hok a _ e);exact⟨mA,⟨ob,n,ne⟩,r,q,z,d⟩
end
structure Cls (K:υ) (C:Addr):Prop where
 pg:yy K C Str.empty=true
 hd:vh K C=true
 po:PySem.W.plainOver K C=true
 sa:nu K (.ref C) "__setattr__" = some (some (.builtin "object.__setattr__"))
theorem Cls.get{K:υ}(c:Cls K C)(f:Str):yy K C f=true:=c.pg
def zD (K:υ) (C:Addr) (f:Str):Prop:=nu K (.ref C) f=some none
theorem zD.taker{K:υ}(n:zD K C f):PySem.W.takerIn K C f=some none:=by
 unfold PySem.W.takerIn;rw[show nu K (.ref C) f=some none from n];rfl
structure Meth (K:υ) (C:Addr) (m:Str) (f:Addr):Prop where
 at_:nu K (.ref C) m=some (some (.ref f))
 fn:isFn K (.ref f)=true
 kp:keepIn K (.ref f)=true
section
variable {X:Cx}{pins:List (Addr×Obj)}{σ:St}{H:Hp}{s:ξ}{a C dx:Addr}{fs:List (Str×V)}{f:Str}{v:V}{A:kg}{E:Value->ξ->Prop}
theorem aCr{Q:Value->ξ->Prop}(I:Inv X pins σ H s)(e:H a=some (.ins C dx fs))(c:Cls X.K C)(n:zD X.K C f)(l:fs.lookup f=some v)
  (h:∀u s',Inv X pins σ H s'->RelV v u->Q u s'):ik (ir X.prog X.w) A (getAttr (.ref a) f b) Q E s:=by
 obtain⟨mA,O,r,_,_,_⟩:=nY I.hok e;obtain⟨u,hu,ru⟩:=zT.some_of (v:=v) (o:=mA f) (by rw[←l];exact r f);exact aMn I.kIn O (c.get f) c.hd n hu (tK ru) (h u _ (I.tok _) ru)
theorem fG{Q:Value×List Value->ξ->Prop}(I:Inv X pins σ H s)(e:H a=some (.ins C dx fs))(c:Cls X.K C)(k:Meth X.K C m g)(l:fs.lookup m=none)
  (h:Q (.ref g,[.ref a]) s):ik (ir X.prog X.w) A (wc (.ref a) m pl) Q E s:=by
 obtain⟨mA,O,r,_,_,_⟩:=nY I.hok e;have hn:mA m=none:=zT.none_of (by rw[←l];exact r m);exact aLe I.kIn O (c.get m) k.at_ k.fn hn h
theorem aCz{Q:Unit->ξ->Prop}(I:Inv X pins σ H s)(e:H a=some (.ins C dx fs))(c:Cls X.K C)(n:zD X.K C f)(hl:fs.length<1000)(ry:RelV y u)
  (h:∀s',Inv X pins σ (upd H a (.ins C dx (aG f y fs))) s'->Q () s'):ik (ir X.prog X.w) A (setAttr (.ref a) f u) Q E s:=by
 obtain⟨mA,O,r,wi,_,ho⟩:=nY I.hok e;have hz:(fs.map (·.1)).length<=ρ:=by rw[δ,jk];omega
 refine aNp I.kIn O c.sa c.po n.taker c.hd wi hz fun h' O' sb=>h _ ?_;have hd:∃o,h'.get? dx=some o:=let ⟨o,_,_,e',_⟩:=O'.ns; ⟨o,e'⟩;refine I.write (x:=a) (e:=dx) (by rw[e];exact je) (.inr ho) (fun b q hb z=>(sb.2 b hb).trans z) hd ?_;refine⟨by rw[jZ O.ne];exact ho,?_,O.ne,O'.obj,_,O'.ns,fun g=>?_,fun g hg=>?_⟩
 ·have:=mP f y fs;omega
 ·show zT ((aG f y fs).lookup g) (if g=f then some u else mA g);rw[eB]
  by_cases q:g=f
  ·rw[if_pos q,if_pos q];exact ry
  ·rw[if_neg q,if_neg q];exact r g
 ·by_cases q:g=f
  ·rw[q];exact(bN f y fs).1
  ·refine(bN f y fs).2 g (wi g fun z=>hg ?_);show(if g=f then some u else mA g)=none;rw[if_neg q];exact z
theorem Inv.made(I:Inv X pins σ H s):Inv X pins σ (upd (upd H s.heap.objs.size (.own (s.heap.objs.size+1))) (s.heap.objs.size+1) (.ins C s.heap.objs.size []))
  { s with heap:=(s.heap.push PySem.W.emptyDict).push (rc C s.heap.objs.size) }:=by
 have e1:(s.heap.push PySem.W.emptyDict).get? s.heap.objs.size=some PySem.W.emptyDict:=iu s.heap rfl;have e2:((s.heap.push PySem.W.emptyDict).push (rc C s.heap.objs.size)).get? (s.heap.objs.size+1)=some (rc C s.heap.objs.size):=by
  have:=iu (s.heap.push PySem.W.emptyDict) (o:=rc C s.heap.objs.size) rfl
  rwa [pq]at this
 have e3:(s.heap.push PySem.W.emptyDict).Ns s.heap.objs.size (fun _=>none):=⟨PySem.W.emptyDict,#[],_,e1,rfl,(fun e he=>absurd he (by simp)),fun _=>rfl⟩;have I1:=I.laid (a:=s.heap.objs.size) (o:=.own (s.heap.objs.size+1)) (h':=s.heap.push PySem.W.emptyDict) (t':=s.toks) (fun b u q=>π _ q) (ν _) ⟨_,e1⟩;refine I1.laid (a:=s.heap.objs.size+1) (o:=.ins C s.heap.objs.size []) (t':=s.toks) (fun b u q=>π _ q) (Nat.le_of_eq (pq _ _)) ?_;have ne:s.heap.objs.size≠s.heap.objs.size+1:=jb (we _);refine⟨by rw[jZ ne,jQ],iy _,ne,e2,fun _=>none,(kq.Ns1.of_empty e3).at fun o q=>π _ q,fun _=>je,fun y hy=>absurd rfl hy⟩
theorem aFk(hb:vd e f env (eval e env)=eval e env)
  (h:ik (ir prog w) A (eval e env) (fun o s₁=>ik (ir prog w) A (getAttr o f true) Q E s₁) E s):ik (ir prog w) A (eval (.Attribute e f pos) env) Q E s :=
 Attribute_any_ h (by rw[arm_eval_Attribute,hb])
end
inductive aJv (K:υ) (f:Str) (Q:VK) (x:V) (H1:Hp):Prop|mk:∀a C dx fs v,x=.ref a->H1 a=some (.ins C dx fs)->Cls K C->zD K C f->fs.lookup f=some v->Q v H1->aJv K f Q x H1
def tFld (K:υ) (ta:TE) (f:Str):TE:=fun σ H Q=>ta σ H fun x H1=>aJv K f Q x H1
def sFld (K:υ) (ta tv:TE) (f:Str):TS:=fun D σ H=>tv σ H fun y H1=>ta σ H1 fun x H2=>∃a C dx fs,x=.ref a/\H2 a=some (.ins C dx fs)/\Cls K C/\zD K C f/\fs.length<1000 ∧
 D.nx σ (upd H2 a (.ins C dx (aG f y fs)))
section
variable {X:Cx}{o e value:Expr}{f:Str}{pos pos' tpos:Pos}{ta tv:TE}
theorem qD(he:PE X e ta)(hb:vd e f X.env (eval e X.env)=eval e X.env):PE X (.Attribute e f pos) (tFld X.K ta f):=by
 intro pins s σ H Q I h;refine aFk hb (thn (he pins s σ H _ I h) fun u s1 zq=>?_);obtain⟨x,H1,I1,rx,a,C,dx,fs,v,ex,ea,c,n,l,q⟩:=zq;subst ex;obtain rfl:u=iw a:=rx;exact aCr I1 ea c n l fun u' s2 I2 ru=>⟨v,H1,I2,ru,q⟩
theorem dR(ha:PE X o ta)(hv:PE X value tv)(hs:swapsWith value (some (.Attribute o f pos')) pos.line X.env=pure false):PS X (.Assign [.Attribute o f pos'] value pos) (sFld X.K ta tv f):=by
 intro pins s σ H D I h;refine plainObj_wpAny_Assign_Attribute (thn (hv pins s σ H _ I h) fun u s1 zq=>zq.el fun y H1 I1 ry q=>thn (ha pins s1 σ H1 _ I1 q) fun ov s2 zq=>?_) hs;obtain⟨x,H2,I2,rx,a,C,dx,fs,ex,ea,c,n,l,q2⟩:=zq;subst ex;obtain rfl:ov=iw a:=rx;exact aCz I2 ea c n l ry fun s3 I3=>⟨σ,_,I3,q2⟩
end
section
variable {X:Cx}{pins:List (Addr×Obj)}{σ:St}{H:Hp}{s:ξ}{A:kg}{E:Value->ξ->Prop}{Q:Value->ξ->Prop}{c:Value}{b:Bool}
inductive gM (K:υ) (H:Hp):V->Value->Prop where
 |non:gM K H .non (.type "NoneType")
 |bl (x:Bool):gM K H (.bl x) (.type "bool")
 |int (i:Int):gM K H (.int i) (.type "int")
 |str (x:Str):gM K H (.str x) (.type "str")
 |flt (x:UInt64):gM K H (.flt x) (.type "float")
 |lst {a:Addr}{xs:List V}(e:H a=some (.lst xs)):gM K H (.ref a) (.type "list")
 |frz {a:Addr}{o:Obj}{xs:List V}(e:H a=some (.frz o (.lst xs))):gM K H (.ref a) (.type "list")
 |tup {a:Addr}{xs:List V}(e:H a=some (.tup xs)):gM K H (.ref a) (.type "tuple")
 |dK {a:Addr}{kvs:List (Key×V)}(e:H a=some (.dK kvs)):gM K H (.ref a) (.type "dict")
 |dT {a:Addr}{kvs:List (List Key×V)}(e:H a=some (.dT kvs)):gM K H (.ref a) (.type "dict")
 |ins {a C dx:Addr}{fs:List (Str×V)}(e:H a=some (.ins C dx fs)) (cl:Cls K C) (ha:nu K (.ref C) "__class__" = some (some (.builtin "object.__class__")))
   (hn:tw K (.builtin "object.__class__") "__get__" = some (some (.builtin "getset_descriptor.__get__"))) (htk:PySem.W.takesIn K (.builtin "object.__class__")=some true)
   (hm:ny K C (.type "object")=some true):gM K H (.ref a) (.ref C)
theorem aHk(I:Inv X pins σ H s)(rx:RelV x u)(ty:gM X.K H x t)(e:kh X.K t c=some b)(h:∀tk,Q (.bool b) { s with toks:=tk }):
  ik (ir X.prog X.w) A (call (.builtin "isinstance") [u,c]) Q E s:=by
 cases ty with
 |non=>cases (show u=mn from rx);exact og PySem.W.kitx_none I.kIn je e (fun z=>nomatch z) h
 |bl y=>cases (show u=Value.bool y from rx);exact og PySem.W.kitx_bool I.kIn je e (fun z=>nomatch z) h
 |int i=>obtain⟨t,q⟩:=(show ∃t,u=Value.int i t from rx);cases q;exact og PySem.W.kitx_int I.kIn je e (fun z=>nomatch z) h
 |str y=>obtain⟨t,q⟩:=(show ∃t,u=Value.str y t from rx);cases q;exact og PySem.W.kitx_str I.kIn je e (fun z=>nomatch z) h
 |flt y=>obtain⟨t,q⟩:=(show ∃t,u=Value.float y t from rx);cases q;exact og PySem.W.kitx_float I.kIn je e (fun z=>nomatch z) h
 | @lst a xs ea =>
  cases (show u=iw a from rx);obtain⟨_,_,n,_,h1⟩:=(show vC X.prog X.w H s.heap a (.lst xs) from I.hok a _ ea);exact og PySem.W.kitx_list I.kIn ⟨_,h1,rfl⟩ e (fun z=>nomatch z) h
 | @frz a ob xs ea =>
  cases (show u=iw a from rx);obtain⟨_,_,_,n,_,h1⟩:=(show vC X.prog X.w H s.heap a (.frz ob (.lst xs)) from I.hok a _ ea);exact og PySem.W.kitx_list I.kIn ⟨_,h1,rfl⟩ e (fun z=>nomatch z) h
 | @tup a xs ea =>
  cases (show u=iw a from rx);obtain⟨_,_,_,p⟩:=(show vC X.prog X.w H s.heap a (.tup xs) from I.hok a _ ea);obtain⟨o,h1,h2,_⟩:=p;exact og PySem.W.kitx_tuple I.kIn ⟨o,h1,h2⟩ e (fun z=>nomatch z) h
 | @dK a kvs ea =>
  cases (show u=iw a from rx);obtain⟨_,_,vs,_,p⟩:=(show vC X.prog X.w H s.heap a (.dK kvs) from I.hok a _ ea);obtain⟨o,es,ep,h1,h2,_⟩:=p;exact og PySem.W.kitx_dict I.kIn ⟨o,h1,h2.1⟩ e (fun z=>nomatch z) h
 | @dT a kvs ea =>
  cases (show u=iw a from rx);obtain⟨_,_,xs,_,o,es,ep,h1,h2,_⟩:=(show vC X.prog X.w H s.heap a (.dT kvs) from I.hok a _ ea);exact og PySem.W.kitx_dict I.kIn ⟨o,h1,h2.1⟩ e (fun z=>nomatch z) h
 | @ins a C dx fs ea cl ha hn htk hm =>
  cases (show u=iw a from rx);obtain⟨mA,O,_⟩:=nY I.hok ea;obtain⟨od,J,_⟩:=O.look;exact og (PySem.W.kitx_own (cl.get _) cl.hd ha hn htk hm) I.kIn J e (fun z=>nomatch z) h
end
structure vQ (k:Nat) (A:kg):Prop where
 hd:A.handled=none
 dp:A.depth+3*k+5<recursionLimit
 un:A.units+16*k+200<ou
 gd:A.guards=some []
theorem vQ.mono{j:Nat}(r:vQ k A)(h:j<=k):vQ j A:=⟨r.hd,by have:=r.dp;omega,by have:=r.un;omega,r.gd⟩
theorem vQ.deeper{k:Nat}(r:vQ (k+1) A)(env:Env):vQ k (A.deeper env) :=
 ⟨r.hd,by have:=r.dp;show A.depth+1+3*k+5<_;omega,by have:=r.un;show A.units+3+16*k+200<_;omega,r.gd⟩
theorem vQ.in1{k:Nat}(r:vQ (k+1) A):vQ k A.in1 :=
 ⟨r.hd,by have:=r.dp;show A.depth+3*k+5<_;omega,by have:=r.un;show A.units+1+16*k+200<_;omega,r.gd⟩
theorem aDe{A:kg}{us:List Value}{kw:List (Str×Value)}: (A.under (.builtin "type.__call__" ⟨.ref C::us,kw⟩)).depth=A.depth+1:=by
 first|rfl|simp[kg.under,Code.weight,Code.isCreation,Code.isGuard,Code.isCaller,Code.frames,Code.isFrame,guardIds]
theorem aDm{A:kg}{us:List Value}{kw:List (Str×Value)}: (A.under (.builtin "type.__call__" ⟨.ref C::us,kw⟩)).units=A.units+1:=by
 first|rfl|simp[kg.under,Code.cUnits,Code.frames,Code.isFrame]
theorem aBc{A:kg}{us:List Value}{kw:List (Str×Value)}: (A.under (.builtin "type.__call__" ⟨.ref C::us,kw⟩)).guards=A.guards:=by
 have hg:guardIds.contains "type.__call__" = false:=by ac_rfl
 have e:Code.guards (.builtin "type.__call__" ⟨.ref C::us,kw⟩)=[]:=by
  unfold Code.guards;rw[if_neg (fun z=>by rw[show Code.isGuard (.builtin "type.__call__" ⟨.ref C::us,kw⟩)=guardIds.contains "type.__call__" from rfl,hg]at z;cases z)]
 unfold kg.under;rw[e];rfl
theorem vQ.make{k:Nat}(r:vQ (k+1) A)(C:Addr)(us:List Value)(kw:List (Str×Value)):vQ k (A.under (.builtin "type.__call__" ⟨.ref C::us,kw⟩)) :=
 ⟨r.hd,by have:=r.dp;rw[aDe];omega,by have:=r.un;rw[aDm];omega,aBc.trans r.gd⟩
theorem vQ.depth(r:vQ k A):A.depth<recursionLimit:=by have:=r.dp;omega
theorem vQ.units(r:vQ k A):A.units+64<ou:=by have:=r.un;omega
def aKc:TA:=fun _ H Q=>Q [] H
def aPm (ta:TE) (tr:TA):TA:=fun σ H Q=>ta σ H fun x H1=>tr σ H1 fun xs H2=>Q (x::xs) H2
section
variable {X:Cx}{e:Expr}{es:List Expr}{te:TE}{t:TA}{pos:Pos}
theorem jB:PA X [] aKc:=fun _ _ _ _ H Q I h=>Calls.spliced_nil ⟨[],H,I,.nil,h⟩
theorem jA(ha:PE X e te)(hr:PA X es t)(hs:il (e::es) X.env=(false,eval e X.env)::il es X.env:=by rfl):PA X (e::es) (aPm te t):=by
 intro pos pins s σ H Q I h;rw[hs];show ik _ _ (spliced ((false,eval e X.env)::rf pos (il es X.env))) _ _ s;refine Calls.spliced_cons (thn (ha pins s σ H _ I h) fun u s1 zq=>?_);obtain⟨x,H1,I1,r1,q1⟩:=zq;exact thn (hr pos pins s1 σ H1 _ I1 q1) fun us s2 zq=>zq.el fun xs H2 I2 r2 q2=>⟨x::xs,H2,I2,.cons r1 r2,q2⟩
inductive aJe (Q:VK) (xs:List V) (H1:Hp):Prop|mk:xs.length<=ρ->(∀p,H1 p=none->Q (.ref p) (upd H1 p (.tup xs)))->aJe Q xs H1
def tTup (t:TA):TE:=fun σ H Q=>t σ H fun xs H1=>aJe Q xs H1
inductive aKj (Q:VK) (xs:List V) (H1:Hp):Prop|mk:xs.length<=ρ->(∀p,H1 p=none->Q (.ref p) (upd H1 p (.lst xs)))->aKj Q xs H1
def tLst (t:TA):TE:=fun σ H Q=>t σ H fun xs H1=>aKj Q xs H1
theorem kT{x1}(h:PA X es t):PE X (.Tuple es x1 pos) (tTup t):=by
 intro pins s σ H Q I hq;refine wpAny_Tuple_spliced (thn (h pos pins s σ H _ I hq) fun us s1 ⟨xs,H1,I1,r,z,q⟩=>⟨by rw[←r.length];exact z,?_⟩);have hf:H1 s1.heap.objs.size=none:=I1.hok.fresh (ν _);refine⟨.ref s1.heap.objs.size,upd H1 s1.heap.objs.size (.tup xs),I1.laid (t':=s1.toks) (fun b u e=>π _ e) (ν _) ?_,rfl,q _ hf⟩;exact⟨z,us,r,⟨_,iu _ rfl,rfl,_,rfl⟩⟩
theorem kU(h:PA X es t):PE X (.List es pos) (tLst t):=by
 intro pins s σ H Q I hq;refine wpAny_List_spliced (thn (h pos pins s σ H _ I hq) fun us s1 ⟨xs,H1,I1,r,z,q⟩=>⟨by rw[←r.length];exact z,?_⟩);have hf:H1 s1.heap.objs.size=none:=I1.hok.fresh (ν _);refine⟨.ref s1.heap.objs.size,upd H1 s1.heap.objs.size (.lst xs),I1.laid (t':=s1.toks) (fun b u e=>π _ e) (ν _) ?_,rfl,q _ hf⟩;exact⟨z,us,0,r,iu _ rfl⟩
end
abbrev Sp:=List V->Hp->VK->XK->Prop
abbrev CXT:=List Env->Hp->ξ->XK->Value->ξ->Prop
structure mT (P:jy) (w:mf) (K:υ) (mg:Str->Option Value) (base:kq) (A:kg) (outer:List Env) (s:ξ) (H:Hp):Prop where
 frames:A.frames=some outer
 mod:Mod K mg base
 bs:∀b o,base.get? b=some o->s.heap.get? b=some o/\H b=none
 bsz:base.objs.size<=s.heap.objs.size
 funs:s.heap.FunFrames base outer
 frf:∀b∈frs outer,H b=none
 hok:HOk P w H s.heap
 bare:AllBare s.gens
def CE (outer:List Env) (P:jy) (w:mf) (H:Hp) (s:ξ) (Q:VK) (u:Value) (s':ξ):Prop :=
 ∃v H',s'.os=s.os/\AllBare s'.gens/\Un (frs outer) [] H H' s.heap s'.heap/\HOk P w H' s'.heap/\RelV v u/\Q v H'
def CR (CX:CXT) (outer:List Env) (P:jy) (w:mf) (H:Hp) (s:ξ) (Q:VK) (E:XK) (r:Result) (s':ξ):Prop :=
 match r with
 |.ok (.ret u)=>CE outer P w H s Q u s'
 |.ok _=>False
 |.error e=>CX outer H s E e s'
structure kJ (P:jy) (w:mf) (K:υ) (mg:Str->Option Value) (base:kq) (CX:CXT) (k:Nat) (f:Addr) (fd:oz) (ps:List Str) (sp:Sp):Prop where
 len:∀vs H Q E,sp vs H Q E->vs.length=ps.length
 run:∀(A:kg) (outer:List Env) (s:ξ) (H:Hp) (args:Args) (us:List Value) (vs:List V) (Q:VK) (E:XK),vQ k A->mT P w K mg base A outer s H->BindsTo s fd args (ps.zip us)->kN vs us->sp vs H Q E →
  wd (ir P w) A (.call (.ref f) args) (CR CX outer P w H s Q E) s
theorem kJ.mono{K:υ}{k:Nat}(F:kJ P w K mg base CX j f fd ps sp)(h:j<=k):
  kJ P w K mg base CX k f fd ps sp:=⟨F.len,fun A outer s H args us vs Q E hr=>F.run A outer s H args us vs Q E (hr.mono h)⟩
theorem kJ.imp{K:υ}{sp sp':Sp}(F:kJ P w K mg base CX k f fd ps sp)
  (h:∀vs H Q E,sp' vs H Q E->sp vs H Q E):kJ P w K mg base CX k f fd ps sp' :=
 ⟨fun vs H Q E q=>F.len vs H Q E (h _ _ _ _ q),fun A outer s H args us vs Q E hr he hb hv hs=>F.run A outer s H args us vs Q E hr he hb hv (h _ _ _ _ hs)⟩
theorem mT.make{K:υ}(e:mT P w K mg base A outer s H)(C:Addr)(us:List Value)(kw:List (Str×Value)):
  mT P w K mg base (A.under (.builtin "type.__call__" ⟨.ref C::us,kw⟩)) outer s H:=⟨by first|exact e.frames|(simpa [kg.under,Code.envs,Code.isFrame,pushEnvs] using e.frames),e.mod,e.bs,e.bsz,e.funs,e.frf,e.hok,e.bare⟩
theorem mT.in1{K:υ}(e:mT P w K mg base A outer s H):
  mT P w K mg base A.in1 outer s H:=⟨e.frames,e.mod,e.bs,e.bsz,e.funs,e.frf,e.hok,e.bare⟩
section
variable {X:Cx}{pins:List (Addr×Obj)}{σ:St}{H:Hp}{s s':ξ}
theorem Inv.env0(I:Inv X pins σ H s):mT X.prog X.w X.K X.mg X.base X.A X.stack s H :=
 ⟨I.ok.frames,I.ok.mod,I.bs,Θ I.ok.bsz I.sz,I.stack,I.stkFree,I.hok,I.bare⟩
theorem Inv.after(I:Inv X pins σ H s)(h:CE X.stack X.prog X.w H s Q u s'):EP X pins σ Q u s':=by
 obtain⟨v,H',os,bare,un,hok,r,q⟩:=h;obtain⟨hh,g,d,t,os'⟩:=s';obtain rfl:os'=s.os:=os;exact⟨v,H',I.call (h':=hh) (g':=g) (d':=d) (t':=t) (ch:=[]) un hok bare (fun b z=>absurd z (by simp)),r,q⟩
end
def tM (sp:Sp) (dvs:List V) (E:XK) (t:TA):TE:=fun σ H Q=>t σ H fun vs H1=>sp (vs++dvs) H1 Q E
def aOq (C:Addr) (m:Str) (sp:Sp) (dvs:List V) (E:XK) (ta:TE) (t:TA):TE:=fun σ H Q=>ta σ H fun x H1=>∃a dx fs,x=.ref a/\H1 a=some (.ins C dx fs)/\fs.lookup m=none ∧
 t σ H1 fun vs H2=>sp (x::(vs++dvs)) H2 Q E
def aPk (C:Addr) (sp:Sp) (dvs:List V) (E:XK) (t:TA):TE:=fun σ H Q=>t σ H fun vs H1=>∀x dx,H1 x=none->H1 dx=none->dx≠x →
 sp (.ref x::(vs++dvs)) (upd (upd H1 dx (.own x)) x (.ins C dx [])) (fun v H2=>v=.non/\Q (.ref x) H2) E
def Binds (K:υ) (fd:oz) (ps:List Str) (ds:List Value):Prop :=
 ∀(s:ξ) (us:List Value),K.In s.heap->(us++ds).length=ps.length->BindsTo s fd ⟨us,[]⟩ (ps.zip (us++ds))
theorem Binds.all{K:υ}{ps:List Str}(h:∀us:List Value,us.length=ps.length->bindArgs fd ⟨us,[]⟩=pure (ps.zip us)):Binds K fd ps []:=fun s us _ hl=>by
 rw[li]at hl ⊢;exact .of_eq (h us hl)
def xS (CX:CXT) (X:Cx) (E:XK):Prop:=∀(pins:List (Addr×Obj)) (σ:St) (H:Hp) (s:ξ) (e:Value) (s':ξ),Inv X pins σ H s->CX X.stack H s E e s'->X.xe e s'
section
variable {X:Cx}{CX:CXT}{k:Nat}{f C:Addr}{fd:oz}{ps:List Str}{sp:Sp}{dvs:List V}{ds:List Value}{E:XK}{x m:Str}{p pos apos:Pos}{e o:Expr}{es:List Expr}{ta:TE}{t:TA}
theorem pH{Q:VK}(F:kJ X.prog X.w X.K X.mg X.base CX k f fd ps sp)(hr:vQ k X.A)(hb:Binds X.K fd ps ds)(hd:kN dvs ds)(hx:xS CX X E)
  (I:Inv X pins σ H s)(r:kN vs us)(h:sp (vs++dvs) H Q E):ik (ir X.prog X.w) X.A (call (.ref f) us) (EP X pins σ Q) X.xe s:=by
 have r2:kN (vs++dvs) (us++ds):=r.append hd;have hl:(us++ds).length=ps.length:=by rw[←r2.length];exact F.len _ _ _ _ h
 refine uq (wf (F.run X.A X.stack s H ⟨us,[]⟩ (us++ds) (vs++dvs) Q E hr I.env0 (hb s us I.kIn hl) r2 h) fun r s' hq=>?_);cases r with
 |error e=>exact hx pins σ H s e s' I hq
 |ok fl =>
  cases fl with
  |ret u=>exact I.after hq
  |next=>exact jl hq
  |brk=>exact jl hq
  |cont=>exact jl hq
theorem aNj(F:kJ X.prog X.w X.K X.mg X.base CX k f fd ps sp)(hr:vQ k X.A)(hg:Gl X x)(hm:X.mg x=some (.ref f))(hk:keepIn X.K (.ref f)=true)(hb:Binds X.K fd ps ds)(hd:kN dvs ds)(hx:xS CX X E)
  (ha:PA X (e::es) t)(hdb:(x == ("__debug__" : Str))=false:=by decide)(he:il (e::es) X.env=(false,eval e X.env)::il es X.env:=by rfl)(hpl:(rf pos (il es X.env)).any (·.1)=false:=by rfl):
  PE X (.Call (.Name x p) (e::es) [] pos) (tM sp dvs E t):=by
 intro pins s σ H Q I h;refine qi (cM I hg hm ?_ hdb);refine qj (h₀:=X.base) I.ok.mod.kin hk (thn (ha pos pins s σ H _ I h) fun us s1 zq=>zq.el fun vs H1 I1 r q=>⟨I1.kIn,?_⟩) he hpl;exact pH F hr hb hd hx I1 r q
theorem aIk(he:PE X o ta)(c:Cls X.K C)(hm:Meth X.K C m f)(F:kJ X.prog X.w X.K X.mg X.base CX k f fd ps sp)(hr:vQ k X.A)(hb:Binds X.K fd ps ds)(hd:kN dvs ds)(hx:xS CX X E)
  (ht:eval (.Call (.Attribute o m apos) [] [] pos) X.env=(do
   let ov ←eval o X.env
   standAt apos.atName
   let (f,first) ←xb [ov] (wc ov m pl)
   callWith pos f first (rf pos (il [] X.env)) (backToKw pos (xo [] X.env))):=by rfl):
  PE X (.Call (.Attribute o m apos) [] [] pos) (aOq C m sp dvs E ta aKc):=by
 intro pins s σ H Q I h;refine sv (pl:=pl) (thn (he pins s σ H _ I h) fun u s1 zq=>?_) ht;obtain⟨x,H1,I1,rx,a,dx,fs,ex,ea,l,q⟩:=zq;subst ex;obtain rfl:u=iw a:=rx;refine fG I1 ea c hm l ?_;exact PySem.W.callWith_K0 (first:=[.ref a]) I1.kIn hm.kp (pH (us:=[.ref a]) (vs:=[.ref a]) F hr hb hd hx I1 (.cons rfl .nil) q)
structure Mk (K:υ) (C f:Addr):Prop where
 makes:PySem.W.makesIn K C=true
 init:nu K (.ref C) "__init__" = some (some (.ref f))
 fn:isFn K (.ref f)=true
 kp:keepIn K (.ref C)=true
theorem aKt{H:Hp}{Q:VK}(M:Mk X.K C f)(F:kJ X.prog X.w X.K X.mg X.base CX k f fd ps sp)(hr:vQ (k+1) X.A)(hb:Binds X.K fd ps ds)(hd:kN dvs ds)
  (hx:xS CX X E)(I:Inv X pins σ H s)(r:kN vs us)
  (h:∀x dx,H x=none->H dx=none->dx≠x->sp (.ref x::(vs++dvs)) (upd (upd H dx (.own x)) x (.ins C dx [])) (fun v H2=>v=.non/\Q (.ref x) H2) E):
  ik (ir X.prog X.w) X.A (call (.ref C) us) (EP X pins σ Q) X.xe s:=by
 have hq:=h (s.heap.objs.size+1) s.heap.objs.size (I.hok.fresh (qv _)) (I.hok.fresh (ν _)) (jb (we _));have I2:=Inv.made (C:=C) I;have r2:kN (V.ref (s.heap.objs.size+1)::(vs++dvs)) (iw (s.heap.objs.size+1)::(us++ds)):=.cons rfl (r.append hd);have hl:(iw (s.heap.objs.size+1)::us++ds).length=ps.length:=by
  have e:=r2.length;rw[F.len _ _ _ _ hq]at e;exact e.symm
 refine uq (aLl (f:=f) I.kIn M.makes M.init (beq_iff_eq.mp M.fn) (wf (F.run _ X.stack _ _ ⟨iw (s.heap.objs.size+1)::us,[]⟩ (iw (s.heap.objs.size+1)::(us++ds)) _ _ E (hr.make C us [])
  (I2.env0.make C us []) (hb _ (iw (s.heap.objs.size+1)::us) I2.kIn hl) r2 hq) fun r s' hq'=>?_))
 cases r with
 |error e=>exact hx pins σ _ _ e s' I2 hq'
 |ok fl =>
  cases fl with
  |ret u =>
   obtain⟨v,H',I3,rv,ev,q3⟩:=I2.after hq';subst ev;exact⟨rv,⟨V.ref (s.heap.objs.size+1),H',I3,rfl,q3⟩⟩
  |next=>exact jl hq'
  |brk=>exact jl hq'
  |cont=>exact jl hq'
theorem aNl(M:Mk X.K C f)(F:kJ X.prog X.w X.K X.mg X.base CX k f fd ps sp)(hr:vQ (k+1) X.A)(hg:Gl X x)(hm:X.mg x=some (.ref C))(hb:Binds X.K fd ps ds)(hd:kN dvs ds)(hx:xS CX X E)
  (ha:PA X (e::es) t)(hdb:(x == ("__debug__" : Str))=false:=by decide)(he:il (e::es) X.env=(false,eval e X.env)::il es X.env:=by rfl)(hpl:(rf pos (il es X.env)).any (·.1)=false:=by rfl):
  PE X (.Call (.Name x p) (e::es) [] pos) (aPk C sp dvs E t):=by
 intro pins s σ H Q I h;refine qi (cM I hg hm ?_ hdb);refine qj (h₀:=X.base) I.ok.mod.kin M.kp (thn (ha pos pins s σ H _ I h) fun us s1 zq=>zq.el fun vs H1 I1 r q=>⟨I1.kIn,?_⟩) he hpl;exact aKt M F hr hb hd hx I1 r q
end
structure jN (N P:List Str) (sc:Scope):Prop where
 kind:sc.kind=.function
 co:sc.isCoroutine=false
 gen:sc.isGenerator=false
 nd:N.Nodup
 pre:N.take P.length=P
 par:∀x∈P,sc.names.lookup x=some .local\/sc.names.lookup x=some .cell
 nofree:∀y∈sc.names,y.2≠.free
theorem sT{kindOf:Str->Option NameKind}{x:Str}: ∀{binds:List (Str×Value)}{m:Str->Option Value},(∀v,(x,v)∉binds)->bindL kindOf binds m x=m x
 |[],_,_=>rfl
 | (n,v)::r,m,h=>by
  unfold bindL;rw[sT fun w hw=>h w (Ξ _ hw)]
  split
  ·have:x≠n:=by rintro rfl;exact h v Ω
   simp[this]
  ·rfl
theorem sX{kindOf:Str->Option NameKind}{x:Str}: ∀{binds:List (Str×Value)}{m:Str->Option Value},(∀v,(x,v)∉binds)->bindC kindOf binds m x=m x
 |[],_,_=>rfl
 | (n,v)::r,m,h=>by
  unfold bindC;rw[sX fun w hw=>h w (Ξ _ hw)]
  split
  ·rfl
  ·have:x≠n:=by rintro rfl;exact h v Ω
   simp[this]
theorem lZ{kindOf:Str->Option NameKind}: ∀{P:List Str}{vs:List Value}{i:Nat}{m:Str->Option Value},P.Nodup->P[i]?=some x->vs[i]?=some v->kindOf x=some .local →
  bindL kindOf (P.zip vs) m x=some v
 |[],_,_,_,_,h,_,_=>by simp at h
 |_::_,[],_,_,_,_,h,_=>by simp at h
 |p::P,w::vs,0,m,nd,h1,h2,hk=>by
  simp at h1 h2;subst h1;subst h2;show bindL kindOf ((p,w)::P.zip vs) m p=_;unfold bindL;rw[sT fun v hv=>(tf.mp nd).1 (List.of_mem_zip hv).1,if_pos hk];simp
 |p::P,w::vs,i+1,m,nd,h1,h2,hk=>by
  show bindL kindOf ((p,w)::P.zip vs) m x=_;unfold bindL;exact lZ (i:=i) (tf.mp nd).2 (by simpa using h1) (by simpa using h2) hk
theorem lQ{kindOf:Str->Option NameKind}: ∀{P:List Str}{vs:List Value}{i:Nat}{m:Str->Option Value},P.Nodup->P[i]?=some x->vs[i]?=some v->kindOf x≠some .local →
  bindC kindOf (P.zip vs) m x=some v
 |[],_,_,_,_,h,_,_=>by simp at h
 |_::_,[],_,_,_,_,h,_=>by simp at h
 |p::P,w::vs,0,m,nd,h1,h2,hk=>by
  simp at h1 h2;subst h1;subst h2;show bindC kindOf ((p,w)::P.zip vs) m p=_;unfold bindC;rw[sX fun v hv=>(tf.mp nd).1 (List.of_mem_zip hv).1,if_neg hk];simp
 |p::P,w::vs,i+1,m,nd,h1,h2,hk=>by
  show bindC kindOf ((p,w)::P.zip vs) m x=_;unfold bindC;exact lQ (i:=i) (tf.mp nd).2 (by simpa using h1) (by simpa using h2) hk
def start (N:List Str) (vs:List V):St:=vs.map some++vo (N.length-vs.length) none
def fY (CX:CXT) (P:jy) (w:mf) (K:υ) (mg:Str->Option Value) (base:kq) (N:List Str) (qual:Str) (scope:Scope) (f:Addr) (cd:Value) (A:kg) (outer:List Env) (s:ξ) (H:Hp) (E:XK):Cx where
 prog:=P
 w:=w
 K:=K
 mg:=mg
 base:=base
 A:=A.deeper (wn qual scope s.heap.objs.size f cd)
 N:=N
 s₀:=s
 H₀:=H
 env:=wn qual scope s.heap.objs.size f cd
 outer:=outer
 stack:=wn qual scope s.heap.objs.size f cd::outer
 ex:=[]
 calm:=true
 fn:=fun _=>true
 pn:=[]
 xe:=fun e s'=>ik (ir P w) (A.deeper (wn qual scope s.heap.objs.size f cd)) (leaving (wn qual scope s.heap.objs.size f cd) e) (fun _ s''=>CX outer H s E e s'') (fun e' s''=>CX outer H s E e' s'') s'
theorem iE{sc:Scope}(h:sc.names.lookup x=some .cell):∃c,(cellsFrom n sc.names []).lookup x=some c:=by
 have q:=yb sc.names n [] (.inl h);exact qo.mp q
theorem aGs{K:υ}{A:kg}{vs:List V}
  (S:jN N ps scope)(hd:A.handled=none)(e0:mT P w K mg base A outer s H)(hl:vs.length=ps.length)(r:kN vs us)
  (x:InCallC s s.heap.objs.size (bindL (wn qual scope s.heap.objs.size f cd).kindOf (ps.zip us) fun _=>none) (cellsFrom (s.heap.objs.size+1) scope.names []) (bindC (wn qual scope s.heap.objs.size f cd).kindOf (ps.zip us) fun _=>none) s1):
  Inv (fY CX P w K mg base N qual scope f cd A outer s H E) [] (start N vs) H s1:=by
 have hpl:ps.length<=N.length:=by have:=congrArg List.length S.pre;rw[Δ]at this;omega
 obtain⟨h1,tk,rfl,hk⟩:=x.done;have noA:∀b:Addr,b∉(fY CX P w K mg base N qual scope f cd A outer s H E).ex:=fun b z=>absurd (show b∈([]:List Addr) from z) (by simp);refine⟨⟨e0.mod,S.kind,rfl,rfl,ν _,fun y z c h1 h2=>?_,fun y hy=>?_,fun y c _ h=>?_,fun _=>hd,kg.frames_deeper e0.frames,.inr ⟨rfl,rfl⟩,fun b z=>absurd z (noA b),e0.bs,e0.bsz,fun b _ _=>noA b,fun b z=>absurd z (noA b),e0.funs,e0.frf⟩,
  rfl,e0.bare,Un.kept hk,⟨_,x.toInCall.ns,fun i y v h1 h2 h3=>?_⟩,fun y c h=>⟨_,x.cell y c h⟩,e0.hok.fresh (ν _),fun y c h=>?_,fun p hp=>absurd (show p∈([]:List (Addr×Obj)) from hp) (by simp),e0.hok.kept hk,?_⟩
 ·exact name_of_addr x.apart (jr h1) (jr h2)
 ·have hy:scope.names.lookup y=some .cell\/scope.names.lookup y=some .free:=hy;rcases hy with hy|hy
  ·exact iE hy
  ·exact absurd rfl (S.nofree _ (jr hy))
 ·exact pk (x.above y c (jr h))
 ·have hi:i<vs.length:=by
   unfold start at h2
   by_cases hi:i<vs.length
   ·exact hi
   ·rw[ij (by simpa using hi)]at h2;rw[xq]at h2
    split at h2 <;> cases h2
  have ha:vs[i]?=some v:=by
   unfold start at h2;rw[iz (by simpa using hi),iq]at h2;cases e:vs[i]? with
   |none=>rw[e]at h2;cases h2
   |some a=>rw[e]at h2;cases h2;rfl
  obtain⟨u,hu,rv⟩:=r.get ha;have hp:ps[i]?=some y:=by
   rw[←S.pre,mz (by omega)];exact h1
  have ndP:ps.Nodup:=by rw[←S.pre];exact S.nd.sublist (List.take_sublist _ _)
  refine⟨u,rv,?_⟩;rcases S.par y (μ hp) with k|k
  ·exact .inl ⟨k,lZ ndP hp hu k⟩
  ·obtain⟨c,e⟩:=iE (n:=s.heap.objs.size+1) k;refine .inr ⟨.inl k,c,e,?_⟩;have q:=x.cell y c e;rw[lQ ndP hp hu (by show scope.names.lookup y≠_;rw[k];decide)]at q;exact q
 ·exact e0.hok.fresh (pk (x.above y c (jr h)))
 ·unfold start;show _=N.length;rw[ι,δ,oo];omega
theorem aPn{CX:CXT}{P:jy}{w:mf}{K:υ}{mg:Str->Option Value}{base:kq}{k:Nat}{f:Addr}{name qual:Str}{params:Arguments}{body:List Stmt}{scope:Scope}{dV kV doc pm cdv ct oc:Value}{an od:Option Addr}
  {osl:Array (Option Value)}{N ps:List Str}{sp:Sp}(lk:K.lookup f=some ⟨oc,od,.func (fnOf name qual params body scope dV kV doc pm an cdv ct),osl⟩)(hcd:codeIn K cdv qual=true)(S:jN N ps scope)
  (len:∀vs H Q E,sp vs H Q E->vs.length=ps.length)
  (hbody:∀(A:kg) (outer:List Env) (s:ξ) (H:Hp) (vs:List V) (Q:VK) (E:XK),vQ k (A.deeper (wn qual scope s.heap.objs.size f cdv))->sp vs H Q E →
   ∃t,PSs (fY CX P w K mg base N qual scope f cdv A outer s H E) body t/\t { nx:=fun _ H'=>Q .non H',rt:=Q } (start N vs) H):
  kJ P w K mg base CX (k+1) f (fnOf name qual params body scope dV kV doc pm an cdv ct) ps sp:=by
 refine⟨len,fun A outer s H args us vs Q E hr e0 hb r hsp=>?_⟩;have hl:=len _ _ _ _ hsp;have KX:K.In s.heap:=e0.mod.kin.keeps fun b o e=>(e0.bs b o e).1;have lim:s.heap.NoLimit:=e0.mod.nolimit.keeps fun b o e=>(e0.bs b o e).1;have hkind:∀y∈ps.zip us,scope.names.lookup y.1=some .local\/(scope.names.lookup y.1=some .cell/\((cellsFrom (s.heap.objs.size+1) scope.names []).lookup y.1).isSome=true):=fun ⟨n,v⟩ hy=>by
  rcases S.par n (List.of_mem_zip hy).1 with q|q
  ·exact .inl q
  ·exact .inr ⟨q,yb _ _ _ (.inl q)⟩
 refine codeAny_call_function hr.depth (KX _ _ lk) rfl S.co S.gen rfl (PySem.W.codeRec_of KX hcd) (hb _ _ _ _ ?_);refine wpAny_newFunctionEnv_cells S.kind hkind fun env he s1 x=>?_;subst he;refine⟨lim.keeps x.toInCall.keep,codeAny_func ?_⟩;obtain⟨t,ht,hq⟩:=hbody A outer s H vs Q E (hr.deeper _) hsp;have I:Inv (fY CX P w K mg base N qual scope f cdv A outer s H E) [] (start N vs) H s1:=aGs S hr.hd e0 hl r x;refine kj (ht [] s1 (start N vs) H _ I hq) (fun fl s' hs=>?_) fun e s' hs=>hs;have fin:∀{σ':St}{H':Hp}{v:V}{u:Value},Inv (fY CX P w K mg base N qual scope f cdv A outer s H E) [] σ' H' s'->RelV v u->Q v H'->CE outer P w H s Q u s' :=
  fun {σ' H' v u} J rv q=>⟨v,H',J.os,J.bare,J.base,J.hok,rv,q⟩
 cases fl with
 |ret u =>
  obtain⟨v,σ',H',J,rv,q⟩:=hs;exact fin J rv q
 |next =>
  obtain⟨σ',H',J,q⟩:=hs;exact fin (v:=V.non) (u:=mn) J rfl q
 |brk =>
  obtain⟨_,_,_,q⟩:=hs;exact jl q
 |cont =>
  obtain⟨_,_,_,q⟩:=hs;exact jl q
section
variable {X:Cx}{x:Str}{p pos:Pos}{e:Expr}{es:List Expr}{t:TA}{id T:String}{r:List V->Hp->VK->Prop}
def tCB (r:List V->Hp->VK->Prop) (t:TA):TE:=fun σ H Q=>t σ H fun vs H1=>r vs H1 Q
theorem jK(hc:xA X (.builtin id) r)(hg:Gl X x)(hm:X.mg x=none)(hv:lm x=some (.builtin id))(ha:PA X (e::es) t)(hn:x ≠ "__name__":=by decide)(hdb:(x == ("__debug__" : Str))=false:=by decide)
  (he:il (e::es) X.env=(false,eval e X.env)::il es X.env:=by rfl)(hpl:(rf pos (il es X.env)).any (·.1)=false:=by rfl):PE X (.Call (.Name x p) (e::es) [] pos) (tCB r t):=by
 intro pins s σ H Q I h;refine qi (lR I hg hm hv ?_ hn hdb);exact za (thn (ha pos pins s σ H _ I h) fun us s1 zq=>zq.el fun vs H1 I1 r1 q1=>hc pins s1 σ H1 vs us Q I1 r1 q1) he hpl
theorem qQ(hc:xA X (.type T) r)(hg:Gl X x)(hm:X.mg x=none)(hv:lm x=some (.type T))(ha:PA X (e::es) t)(hn:x ≠ "__name__":=by decide)(hdb:(x == ("__debug__" : Str))=false:=by decide)
  (he:il (e::es) X.env=(false,eval e X.env)::il es X.env:=by rfl)(hpl:(rf pos (il es X.env)).any (·.1)=false:=by rfl):PE X (.Call (.Name x p) (e::es) [] pos) (tCB r t):=by
 intro pins s σ H Q I h;refine qi (lR I hg hm hv ?_ hn hdb);exact rj (thn (ha pos pins s σ H _ I h) fun us s1 zq=>zq.el fun vs H1 I1 r1 q1=>hc pins s1 σ H1 vs us Q I1 r1 q1) he hpl
end
end L2
namespace HT
open PySem PyProof.Rows
section
open PySem.SeqAt
open PySem.AutoSeq1 (wpAny_loadPart')
open PySem.MeetsSeq PySem.MeetsSeq2 PySem.MeetsSeq3
end
section
variable {prog:jy}{w:mf}{A:kg}{E:Value->ξ->Prop}{s:ξ}
theorem cat_tup{vs ws:List Value}{Q:Value->ξ->Prop}(ht:IsTup s.heap t vs.toArray)(hb:IsTup s.heap b ws.toArray)(hv:vs≠[])
  (h1:ws=[]->Q (.ref t) s)(h2:ws≠[]->Q (.ref s.heap.objs.size) { s with heap:=s.heap.push { cls:=.type "tuple",data:=.seq (vs++ws).toArray } })
  (hsz:vs.length+ws.length<=ρ):ik (ir prog w) A (sg .Add (.ref t) (.ref b)) Q E s:=by
 obtain⟨⟨cls,dd,data,sl⟩,ho,hc,n,hd⟩:=id ht;obtain⟨⟨cls2,dd2,data2,sl2⟩,ho2,hc2,n2,hd2⟩:=id hb;simp only at hc hd hc2 hd2;subst hc hd hc2 hd2;have e:vs.toArray++ws.toArray=(vs++ws).toArray:=by simp
 by_cases hw:ws=[]
 ·exact concat_meets ⟨_,ho,rfl⟩ ⟨_,ho2,rfl⟩ noFill_tuple_add seq_tuple_add yc xu (wu _ _)
   (tuple_addW1 t b vs.toArray ws.toArray n n2 dd dd2 sl sl2 (by simpa using hv) (by simp[hw])) ⟨ho,ho2,h1 hw⟩
 ·refine concat_meets ⟨_,ho,rfl⟩ ⟨_,ho2,rfl⟩ noFill_tuple_add seq_tuple_add yc xu (wu _ _)
   (tuple_addW2 t b vs.toArray ws.toArray n n2 dd dd2 sl sl2 (by simpa using hv) (by simpa using hw) (by rw[τ,τ];exact hsz)) ⟨ho,ho2,?_⟩
  rw[e];exact h2 hw
def sIx (n d:Nat):Option Int->Nat
 |none=>d
 |some v=>if v<0 then (v+(n:Int)).toNat else min v.toNat n
theorem sIx_none(n d:Nat):sIx n d none=d:=rfl
theorem sIx_nat(n d k:Nat):sIx n d (some (k:Int))=min k n:=by
 show(if (k:Int)<0 then ((k:Int)+(n:Int)).toNat else min (k:Int).toNat n)=min k n;rw[if_neg (by omega),nq]
end
end HT
namespace L2
open PySem PySem.Spec PyProof.Rows
abbrev TO:=St->Hp->(Option Int->Hp->Prop)->Prop
def PO (X:Cx) (e:Option Expr) (t:TO):Prop :=
 ∀(pins:List (Addr×Obj)) (s:ξ) (σ:St) (H:Hp) (Q:Option Int->Hp->Prop),Inv X pins σ H s->t σ H Q →
  ik (ir X.prog X.w) X.A (evalPart e X.env) (fun u s'=>∃o H',Inv X pins σ H' s'/\IsPart u o/\Q o H') X.xe s
def aOh:TO:=fun _ H Q=>Q none H
inductive aFv (Q:Option Int->Hp->Prop) (x:V) (H1:Hp):Prop|mk:∀i,x=.int i->Q (some i) H1->aFv Q x H1
def tPart (t:TE):TO:=fun σ H Q=>t σ H fun x H1=>aFv Q x H1
theorem intsAre_of{ns:List Int}: ∀{us:List Value},kN (ns.map V.int) us->IntsAre us ns:=by
 induction ns with
 |nil=>intro us r;rw[List.map_nil]at r;cases r;exact .nil
 |cons n ns ih =>
  intro us r;rw[ju]at r;cases r with
  |cons r1 r2 =>
   obtain⟨t,e⟩:=r1;subst e;exact .cons n t (ih r2)
section
variable {X:Cx}{e:Expr}{te:TE}{lo hi:Option Expr}{tl th:TO}{pos p2:Pos}
theorem vU:PO X none aOh:=by
 intro pins s σ H Q I h;rw[evalPart_none];exact Γ ⟨none,H,I,.none,h⟩
theorem vT(h:PE X e te):PO X (some e) (tPart te):=by
 intro pins s σ H Q I hw;rw[evalPart_some];refine thn (h pins s σ H _ I hw) fun u s1 zq=>?_;obtain⟨x,H1,I1,r1,q1⟩:=zq;obtain⟨i,rfl,q⟩:=q1;obtain⟨t,rfl⟩:=r1;exact⟨some i,H1,I1,.int i t,q⟩
def SlR (X:Cx) (r:V->Option Int->Option Int->Hp->VK->Prop):Prop :=
 ∀(pins:List (Addr×Obj)) (s:ξ) (σ:St) (H:Hp) (x:V) (v vl vu:Value) (lo hi:Option Int) (sl:Addr) (Q:VK),Inv X pins σ H s->RelV x v->s.heap.IsSliceOf sl vl vu .none->IsPart vl lo->IsPart vu hi->r x lo hi H Q →
  ∃T id,typeLookup (.type T) "__getitem__" = pure (some (.builtin id))/\s.TypeIs v T/\ik (ir X.prog X.w) X.A (getItem v (.ref sl)) (EP X pins σ Q) X.xe s
theorem SlR.or{r r':V->Option Int->Option Int->Hp->VK->Prop}(h:SlR X r)(h':SlR X r'):SlR X (fun x lo hi H Q=>r x lo hi H Q\/r' x lo hi H Q):=by
 intro pins s σ H x v vl vu lo hi sl Q I rx hs pl pu q;rcases q with q|q
 ·exact h pins s σ H x v vl vu lo hi sl Q I rx hs pl pu q
 ·exact h' pins s σ H x v vl vu lo hi sl Q I rx hs pl pu q
def tSl (r:V->Option Int->Option Int->Hp->VK->Prop) (te:TE) (tl th:TO):TE:=fun σ H Q=>te σ H fun x H1=>tl σ H1 fun l H2=>th σ H2 fun u H3=>r x l u H3 Q
theorem vA(hr:SlR X r)(he:PE X e te)(hl:PO X lo tl)(hu:PO X hi th):PE X (.Subscript e (.Slice lo hi none p2) pos) (tSl r te tl th):=by
 intro pins s σ H Q I h;refine Subscript_ (thn (he pins s σ H _ I h) fun v s1 zq=>?_);obtain⟨x,H1,I1,r1,q1⟩:=zq;refine wpAny_Slice (thn (hl pins s1 σ H1 _ I1 q1) fun vl s2 ⟨l,H2,I2,pl,q2⟩=>thn (hu pins s2 σ H2 _ I2 q2) fun vu s3 zq=>?_);obtain⟨u,H3,I3,pu,q3⟩:=zq;rw[evalPart_none];refine Γ ?_;have I4:Inv X pins σ H3 { s3 with heap:=s3.heap.push { cls:=.type "slice",data:=.fields #[vl,vu,.none] } }:=I3.kept (t':=s3.toks) fun b ob q=>π _ q;obtain⟨T,id,hT,ht,hg⟩:=hr pins { s3 with heap:=s3.heap.push { cls:=.type "slice",data:=.fields #[vl,vu,.none] } } σ H3 x v vl vu l u s3.heap.objs.size Q I4 r1 (kq.IsSliceOf.new ..) pl pu q3;show ik (ir X.prog X.w) X.A (subscriptTail e (.Slice lo hi none p2) v (.ref s3.heap.objs.size)) (EP X pins σ Q) X.xe { s3 with heap:=s3.heap.push { cls:=.type "slice",data:=.fields #[vl,vu,.none] } };exact tail_any (ops:=[.ref s3.heap.objs.size,v]) ht hT hg (by with_unfolding_all rfl)
def aK (xs:List V) (lo hi:Option Int):List V:=(xs.drop (HT.sIx xs.length 0 lo)).take (HT.sIx xs.length xs.length hi-HT.sIx xs.length 0 lo)
theorem mJ(xs:List V)(lo hi:Option Int):(aK xs lo hi).length<=xs.length:=by
 unfold aK;rw[Δ,zb];omega
def rCatT (K:υ):R2:=fun x y H Q=>∃a b xs ys,x=.ref a/\y=.ref b/\SqT K H a xs/\SqT K H b ys/\xs≠[]/\xs.length+ys.length<=ρ ∧
 (ys=[]->Q (.ref a) H)/\(ys≠[]->∀p,H p=none->Q (.ref p) (upd H p (.tup (xs++ys))))
theorem kN.nil_iff(r:kN xs us):us=[] ↔ xs=[]:=by
 cases r with
 |nil=>simp
 |cons _ _=>simp
theorem aNk:OpR X (sg .Add) (rCatT X.K):=by
 intro pins s σ H x y v u Q I rx ry h;obtain⟨a,b,xs,ys,rfl,rfl,ha,hb,hx,hz,q1,q2⟩:=h;cases rx;cases ry;obtain⟨its,r1,p1,_⟩:=I.tuple ha;obtain⟨its2,r2,p2,_⟩:=I.tuple hb;refine HT.cat_tup p1 p2 (fun z=>hx (r1.nil_iff.mp z)) (fun z=>⟨.ref a,H,I,rfl,q1 (r2.nil_iff.mp z)⟩) (fun z=>?_) (by rw[←r1.length,←r2.length];exact hz);refine⟨.ref s.heap.objs.size,_,I.laid (t':=s.toks) (o:=.tup (xs++ys)) (fun b ob q=>π _ q) (ν _) ?_,rfl,q2 (fun w=>z (r2.nil_iff.mpr w)) _ (I.hok.fresh (ν _))⟩;exact⟨by rw[ι];exact hz,_,r1.append r2,IsTup.new _ _⟩
end
def ixN (n:Nat) (i:Int):Option Nat:=if 0<=i then (if i<n then some i.toNat else none) else if -(n:Int)<=i then some (i+n).toNat else none
def atI {α : Type}(xs:List α) (i:Int):Option α:=(ixN xs.length i).bind fun j=>xs[j]?
theorem aFg{i:Int}(h:ixN n i=some j):seqIndex? i n=some j/\j<n/\-(n:Int)<=i/\i<n:=by
 unfold ixN at h
 by_cases h0 : 0<=i
 ·rw[if_pos h0]at h
  by_cases h1:i<n
  ·rw[if_pos h1]at h;have e:i.toNat=j:=lr h;exact⟨by rw[seqIndex_of h0 h1,e],by omega,by omega,h1⟩
  ·rw[if_neg h1]at h;cases h
 ·rw[if_neg h0]at h
  by_cases h1 : -(n:Int)<=i
  ·rw[if_pos h1]at h;have e:(i+n).toNat=j:=lr h;exact⟨by rw[seqIndex_neg (by omega) h1,e],by omega,h1,by omega⟩
  ·rw[if_neg h1]at h;cases h
theorem wL{α : Type}{xs:List α}{i:Int}{v : α}(h:atI xs i=some v):∃j,seqIndex? i xs.length=some j/\xs[j]?=some v/\j<xs.length/\-(xs.length:Int)<=i/\i<xs.length:=by
 unfold atI at h;cases e:ixN xs.length i with
 |none=>rw[e]at h;cases h
 |some j =>
  rw[e]at h;obtain⟨h1,h2,h3,h4⟩:=aFg e;exact⟨j,h1,h,h2,h3,h4⟩
theorem xB{α : Type}{xs:List α}{j:Nat}{v : α}(h:xs[j]?=some v):atI xs (j:Int)=some v:=by
 have hj:j<xs.length:=(η.mp h).1;have e:ixN xs.length (j:Int)=some j:=by
  unfold ixN;rw[if_pos (by omega),if_pos (by omega)];simp
 unfold atI;rw[e];exact h
def uE (b:Expr):Prop:=∀o i,subscripted b false o i=operate [o,i] (getItem o i)
def IxR (X:Cx) (r:R2):Prop :=
 ∀(value slice:Expr) (pins:List (Addr×Obj)) (s:ξ) (σ:St) (H:Hp) (x y:V) (v u:Value) (Q:VK),Inv X pins σ H s->RelV x v->RelV y u->r x y H Q →
  subscripted slice false v u=operate [v,u] (getItem v u)->ik (ir X.prog X.w) X.A (subscriptTail value slice v u) (EP X pins σ Q) X.xe s
def MtR (X:Cx) (id:String) (r:V->List V->Hp->VK->Prop):Prop :=
 ∀(pins:List (Addr×Obj)) (s:ξ) (σ:St) (H:Hp) (x:V) (xs:List V) (v:Value) (us:List Value) (Q:VK),Inv X pins σ H s->RelV x v->kN xs us->r x xs H Q →
  ik (ir X.prog X.w) X.A (call (.builtin id) (v::us)) (EP X pins σ Q) X.xe s
section
variable {X:Cx}{a b:Expr}{ta tb:TE}{pos:Pos}
theorem IxR.or{r r':R2}(h:IxR X r)(h':IxR X r'):IxR X (fun x y H Q=>r x y H Q\/r' x y H Q):=by
 intro value slice pins s σ H x y v u Q I rx ry q hs;rcases q with q|q
 ·exact h value slice pins s σ H x y v u Q I rx ry q hs
 ·exact h' value slice pins s σ H x y v u Q I rx ry q hs
theorem MtR.or{id:String}{r r':V->List V->Hp->VK->Prop}(h:MtR X id r)(h':MtR X id r'):MtR X id (fun x xs H Q=>r x xs H Q\/r' x xs H Q):=by
 intro pins s σ H x xs v us Q I rx rs q;rcases q with q|q
 ·exact h pins s σ H x xs v us Q I rx rs q
 ·exact h' pins s σ H x xs v us Q I rx rs q
theorem aOv(hr:IxR X r)(ha:PE X a ta)(hb:PE X b tb)(hs:uE b):PE X (.Subscript a b pos) (tOp r ta tb):=by
 intro pins s σ H Q I h;exact Subscript_ (binT ha hb I h fun v u s2 x y H2 I2 rx ry q=>hr a b pins s2 σ H2 x y v u Q I2 rx ry q (hs _ _))
inductive aJt (K:υ) (x:V) (y:V) (H:Hp) (Q:VK):Prop|mk:∀p xs i v,x=.ref p->y=.int i->SqL K H p xs->atI xs i=some v->Q v H->aJt K x y H Q
def aGp (K:υ):R2:=fun x y H Q=>aJt K x y H Q
inductive aLn (K:υ) (x:V) (y:V) (H:Hp) (Q:VK):Prop|mk:∀p xs i v,x=.ref p->y=.int i->SqT K H p xs->atI xs i=some v->Q v H->aLn K x y H Q
def rIxT (K:υ):R2:=fun x y H Q=>aLn K x y H Q
def rIxS:R2:=fun x y H Q=>∃z i c,x=.str z/\y=.int i/\z.length<=ρ/\atI z.cps.toList i=some c/\Q (.str ⟨#[c]⟩) H
theorem jW:IxR X (aGp X.K):=by
 intro value slice pins s σ H x y v u Q I rx ry h hs;obtain⟨p,xs,i,z,rfl,rfl,hq,he,q⟩:=h;cases rx;obtain⟨t,rfl⟩:=ry;obtain⟨its,r,pl,hz⟩:=I.list hq;obtain⟨j,h1,h2,h3,h4,h5⟩:=wL he;obtain⟨w,ew,rw'⟩:=r.get h2;have hl:=r.length;have hn:=gT;have fin:EP X pins σ Q w s:=⟨z,H,I,rw',q⟩
 by_cases h0 : 0<=i
 ·have hj:i.toNat=j:=by
   rw[seqIndex_of h0 h5]at h1;exact lr h1
  exact item_listR pl.isList h0 (by omega) (by rw[hj];simpa using ew) fin hs
 ·have hj:(i+(its.toArray.size:Int)).toNat=j:=by
   rw[seqIndex_neg (by omega) h4]at h1;rw[τ,←hl];exact lr h1
  exact subscriptTail_builtinR (x:=w) pl.isList.typeIs slot_list_getitem.lookup
   (wpAny_getItem_list_neg (Q:=fun r s'=>r=w/\EP X pins σ Q r s') pl.isList (by omega) (by rw[τ] <;> omega) (by omega) (by rw[hj];simpa using ew) ⟨rfl,fin⟩) hs
theorem jV:IxR X (rIxT X.K):=by
 intro value slice pins s σ H x y v u Q I rx ry h hs;obtain⟨p,xs,i,z,rfl,rfl,hq,he,q⟩:=h;cases rx;obtain⟨t,rfl⟩:=ry;obtain⟨its,r,pl,hz⟩:=I.tuple hq;obtain⟨j,h1,h2,h3,h4,h5⟩:=wL he;obtain⟨w,ew,rw'⟩:=r.get h2;have hl:=r.length;have hn:=gT;have fin:EP X pins σ Q w s:=⟨z,H,I,rw',q⟩;exact subscriptTail_builtinR (x:=w) pl.typeIs slot_tuple_getitem.lookup
  (getItem_tuple (j:=j) (Q:=fun r s'=>r=w/\EP X pins σ Q r s') pl (by omega) (by omega) (by rw[τ,←hl];exact h1) (by simpa using ew) ⟨rfl,fin⟩) hs
theorem aDi:IxR X rIxS:=by
 intro value slice pins s σ H x y v u Q I rx ry h hs;obtain⟨z,i,c,rfl,rfl,hz,he,q⟩:=h;obtain⟨t,rfl⟩:=rx;obtain⟨t',rfl⟩:=ry;obtain⟨j,h1,h2,h3,h4,h5⟩:=wL he;have hl:z.cps.toList.length=z.length:=by simp[Str.length]
 rw[hl]at h1 h4 h5;have hn:=gT;exact tail_any (typeIs_str s z t) slot_str_getitem.lookup (getItem_str (c:=c) (by
  have e1:decide (i < -(2 ^ 63:Int))=false:=decide_eq_false (by omega);have e2:decide (i≥2 ^ 63)=false:=decide_eq_false (by omega);rw[e1,e2,Bool.or_false]) (by rw[h1];simpa using h2) ⟨.str ⟨#[c]⟩,H,I.tok _,⟨_,rfl⟩,q⟩) hs
theorem aCs(its:List Value)(n j:Nat)(u:Value):Obj.mapSeq (·.setIfInBounds j u) { cls:=.type "list",data:=.seq its.toArray n }={ cls:=.type "list",data:=.seq (its.set j u).toArray n }:=by
 simp[Obj.mapSeq]
theorem Inv.lst{pins:List (Addr×Obj)}{σ:St}{H:Hp}{s:ξ}{p:Addr}{xs:List V}(I:Inv X pins σ H s)(h:H p=some (.lst xs)):
  ∃(its:List Value) (n:Nat),kN xs its/\s.heap.get? p=some { cls:=.type "list",data:=.seq its.toArray n }/\xs.length<=ρ:=by
 obtain⟨z,its,n,r,e⟩:=I.hok p _ h;exact⟨its,n,r,e,z⟩
theorem Inv.lstUpd{H:Hp}{s:ξ}{its its':List Value}{f:Obj->Obj}(I:Inv X pins σ H s)(h:H p=some (.lst xs))
  (ho:s.heap.get? p=some { cls:=.type "list",data:=.seq its.toArray n })(hf:f { cls:=.type "list",data:=.seq its.toArray n }={ cls:=.type "list",data:=.seq its'.toArray n' })(r:kN ys its')(hz:ys.length<=ρ)(t:Nat):
  Inv X pins σ (upd H p (.lst ys)) { s with heap:=s.heap.update p f,toks:=t }:=by
 have e:(s.heap.update p f).get? p=some { cls:=.type "list",data:=.seq its'.toArray n' }:=by
  rw[qg f ho (by rw[hf] <;> rfl),hf]
 refine I.write (x:=p) (e:=p) (by rw[h];trivial) (.inl rfl) (fun b u hb q=>(lp _ _ (lu hb)).trans q) ⟨_,e⟩ ?_;exact⟨hz,its',n',r,e⟩
def rSetL:V->V->V->Hp->(Hp->Prop)->Prop:=fun o i v H Q=>∃p xs k j,o=.ref p/\i=.int k/\H p=some (.lst xs)/\ixN xs.length k=some j/\Q (upd H p (.lst (xs.set j v)))
theorem set_list:PSet X rSetL:=by
 intro pins s σ H o i v ov iv u Q I ro ri rv h;obtain⟨p,xs,k,j,rfl,rfl,hp,hj,q⟩:=h;cases ro;obtain⟨t,rfl⟩:=ri;obtain⟨its,n,r,ho,hz⟩:=I.lst hp;obtain⟨h1,h2,h3,h4⟩:=aFg hj;have hl:=r.length;have hn:=gT;have I':Inv X pins σ (upd H p (.lst (xs.set j v))) { s with heap:=s.heap.update p (Obj.mapSeq (·.setIfInBounds j u)) } :=
  I.lstUpd hp ho (aCs its n j u) (r.set rv j) (by rw[ux];exact hz) s.toks
 by_cases h0 : 0<=k
 ·have hk:k.toNat=j:=by
   rw[seqIndex_of h0 h4]at h1;exact lr h1
  exact PySem.W.ki_setAt ho h0 (by omega) (by rw[τ,←hl];exact h4) (by rw[hk];exact⟨_,I',q⟩)
 ·have hk:(k+(its.toArray.size:Int)).toNat=j:=by
   rw[seqIndex_neg (by omega) h3]at h1;rw[τ,←hl];exact lr h1
  exact PySem.W.ki_setBack ho (by omega) (by rw[τ,←hl];exact h3) (by omega) (by rw[hk];exact⟨_,I',q⟩)
theorem uN(lo hi:Option Int)(n:Nat):(xw lo hi none n).1=((HT.sIx n 0 lo:Nat):Int)/\(xw lo hi none n).2.1=((HT.sIx n n hi:Nat):Int)/\(xw lo hi none n).2.2=1:=by
 refine⟨?_,?_,rfl⟩
 ·cases lo with
  |none=>simp[xw,HT.sIx]
  |some i =>
   simp only[xw,HT.sIx,Option.getD_none,show(1:Int) > 0 by decide,if_true]
   by_cases h:i<0
   ·simp only[h,if_true] <;> omega
   ·simp only[h,if_false] <;> omega
 ·cases hi with
  |none=>simp[xw,HT.sIx]
  |some i =>
   simp only[xw,HT.sIx,Option.getD_none,show(1:Int) > 0 by decide,if_true]
   by_cases h:i<0
   ·simp only[h,if_true] <;> omega
   ·simp only[h,if_false] <;> omega
theorem sI(its:List Value)(lo hi:Option Int):slicePick its.toArray lo hi none=((its.drop (HT.sIx its.length 0 lo)).take (HT.sIx its.length its.length hi-HT.sIx its.length 0 lo)).toArray:=by
 obtain⟨h1,h2,h3⟩:=uN lo hi its.toArray.size;unfold slicePick;rw[h1,h2,h3];simp only[sliceRange_one,pick_run,τ] <;> rfl
inductive aLt (K:υ) (x:V) (lo:Option Int) (hi:Option Int) (H:Hp) (Q:VK):Prop|mk:∀a xs,x=.ref a->SqL K H a xs->(∀p,H p=none->Q (.ref p) (upd H p (.lst (aK xs lo hi))))->aLt K x lo hi H Q
def rSlL (K:υ):V->Option Int->Option Int->Hp->VK->Prop:=fun x lo hi H Q=>aLt K x lo hi H Q
theorem xC:SlR X (rSlL X.K):=by
 intro pins s σ H x v vl vu lo hi sl Q I rx hs pl pu h;obtain⟨a,xs,rfl,hx,q⟩:=h;cases rx;obtain⟨its,r,ht,hz⟩:=I.list hx;have hlen:=r.length;refine⟨"list",_,slot_list_getitem.lookup,ht.isList.typeIs,?_⟩;refine wpAny_getItem_list_slice ht.isList hs pl pu .none (by simp) ?_ (by rw[τ] <;> omega);rw[sI,←hlen];refine⟨.ref s.heap.objs.size,_,I.laid (t':=s.toks) (o:=.lst (aK xs lo hi)) (fun b ob q=>π _ q) (ν _) ?_,rfl,q _ (I.hok.fresh (ν _))⟩;exact⟨Θ (mJ xs lo hi) hz,_,0,(r.drop (HT.sIx xs.length 0 lo)).take (HT.sIx xs.length xs.length hi-HT.sIx xs.length 0 lo),iu _ rfl⟩
def eG:V->Bool
 |.non=>true
 |.bl _=>true
 |.int _=>true
 |.str _=>true
 |_=>false
def eqV:V->V->Bool
 |.non,.non=>true
 |.bl a,.bl b=>a == b
 |.bl a,.int b=>(if a then 1 else 0) == b
 |.int a,.bl b=>a == (if b then 1 else 0)
 |.int a,.int b=>a == b
 |.str a,.str b=>a == b
 |_,_=>false
theorem aJg(ry:RelV y u)(rx:RelV x v)(fy:eG y=true)(fx:eG x=true):kn A s u v (eqV y x):=by
 cases y with
 |non =>
  cases ry;cases x with
  |non=>cases rx;exact kn.same _
  |bl b=>cases rx;exact kn.none_bool b
  |int b=>obtain⟨t,rfl⟩:=rx;exact kn.none_int b t
  |str b=>obtain⟨t,rfl⟩:=rx;exact kn.none_str b t
  |_=>exact absurd (show false=true from fx) ψ
 |bl a =>
  cases ry;cases x with
  |non=>cases rx;exact kn.bool_none a
  |bl b=>cases rx;exact kn.bool_bool a b
  |int b=>obtain⟨t,rfl⟩:=rx;exact kn.bool_int a b t
  |str b=>obtain⟨t,rfl⟩:=rx;exact kn.bool_str a b t
  |_=>exact absurd (show false=true from fx) ψ
 |int a =>
  obtain⟨t',rfl⟩:=ry;cases x with
  |non=>cases rx;exact kn.int_none a t'
  |bl b=>cases rx;exact kn.int_bool a t' b
  |int b=>obtain⟨t,rfl⟩:=rx;exact kn.int_int a t' b t
  |str b=>obtain⟨t,rfl⟩:=rx;exact kn.int_str a t' b t
  |_=>exact absurd (show false=true from fx) ψ
 |str a =>
  obtain⟨t',rfl⟩:=ry;cases x with
  |non=>cases rx;exact kn.str_none a t'
  |bl b=>cases rx;exact kn.str_bool a t' b
  |int b=>obtain⟨t,rfl⟩:=rx;exact kn.str_int a t' b t
  |str b=>obtain⟨t,rfl⟩:=rx;exact kn.str_str a t' b t
  |_=>exact absurd (show false=true from fx) ψ
 |_=>exact absurd (show false=true from fy) ψ
def eqU (x:V) (u:Value):Bool:=match u with
 |.none=>eqV .non x
 |.bool b=>eqV (.bl b) x
 |.int i _=>eqV (.int i) x
 |.str z _=>eqV (.str z) x
 |_=>false
theorem aKs(r:RelV y u)(f:eG y=true):eqU x u=eqV y x:=by
 cases y with
 |non=>cases r;rfl
 |bl b=>cases r;rfl
 |int i=>obtain⟨t,rfl⟩:=r;rfl
 |str z=>obtain⟨t,rfl⟩:=r;rfl
 |_=>exact absurd (show false=true from f) ψ
theorem iQ : ∀{xs:List V}{us:List Value},kN xs us->xs.all eG=true->us.any (eqU x)=xs.any fun y=>eqV y x
 |_,_,.nil,_=>rfl
 |y::xs,u::us,.cons r t,f=>by
  rw[List.all_cons,jv]at f;rw[zg,zg,aKs r f.1,iQ t f.2]
theorem dS(rx:RelV x v)(fx:eG x=true):∀{xs:List V}{us:List Value},kN xs us->xs.all eG=true->∀u∈us,kn A s u v (eqU x u)
 |_,_,.nil,_=>fun u hu=>by cases hu
 |y::xs,u::us,.cons r t,f=>fun u' hu=>by
  rw[List.all_cons,jv]at f;rcases Φ.mp hu with rfl|hu
  ·rw[aKs r f.1];exact aJg r rx f.1 fx
  ·exact dS rx fx t f.2 u' hu
def inV (x:V) (xs:List V):Bool:=xs.any fun y=>eqV y x
def rIn (K:υ) (neg:Bool):R2:=fun x y H Q=>∃p xs,y=.ref p/\(SqL K H p xs\/SqT K H p xs)/\eG x=true/\xs.all eG=true/\Q (.bl (if neg then !inV x xs else inV x xs)) H
theorem lH:OpR X (ky .In) (rIn X.K false):=by
 intro pins s σ H x y v u Q I rx ry h;obtain⟨p,xs,rfl,hq,fx,fs,q⟩:=h;cases ry;rcases hq with hq|hq
 ·obtain⟨its,r,pl,hz⟩:=I.list hq;refine SeqAt.in_listAt (eqU x) pl.isList (fun w hw=>dS rx fx r fs w (by simpa using hw)) ⟨.bl _,H,I,rfl,?_⟩;rw[show its.toArray.any (eqU x)=its.any (eqU x) by simp,iQ r fs];exact q
 ·obtain⟨its,r,pl,hz⟩:=I.tuple hq;refine SeqAt.in_tupleAt (eqU x) pl (fun w hw=>dS rx fx r fs w (by simpa using hw)) ⟨.bl _,H,I,rfl,?_⟩;rw[show its.toArray.any (eqU x)=its.any (eqU x) by simp,iQ r fs];exact q
theorem uC:OpR X (ky .NotIn) (rIn X.K true):=by
 intro pins s σ H x y v u Q I rx ry h;obtain⟨p,xs,rfl,hq,fx,fs,q⟩:=h;cases ry;rcases hq with hq|hq
 ·obtain⟨its,r,pl,hz⟩:=I.list hq;refine SeqAt.notIn_listAt (eqU x) pl.isList (fun w hw=>dS rx fx r fs w (by simpa using hw)) ⟨.bl _,H,I,rfl,?_⟩;rw[show its.toArray.any (eqU x)=its.any (eqU x) by simp,iQ r fs];exact q
 ·obtain⟨its,r,pl,hz⟩:=I.tuple hq;refine SeqAt.notIn_tupleAt (eqU x) pl (fun w hw=>dS rx fx r fs w (by simpa using hw)) ⟨.bl _,H,I,rfl,?_⟩;rw[show its.toArray.any (eqU x)=its.any (eqU x) by simp,iQ r fs];exact q
theorem kF:xA X (.builtin "len") (fun xs H Q=>∃p ys,xs=[.ref p]/\(SqL X.K H p ys\/SqT X.K H p ys)/\Q (.int ys.length) H):=by
 intro pins s σ H xs us Q I r h;obtain⟨p,ys,rfl,hq,q⟩:=h;obtain⟨u,rfl,rx⟩:=vals1 r;cases rx;have hn:=gT;rcases hq with hq|hq
 ·obtain⟨its,r',pl,hz⟩:=I.list hq;have hlen:=r'.length;exact Calls.call_len_list pl.isList (by simp only[τ] <;> omega) ⟨.int ys.length,H,I.tok _,⟨s.toks+1,by rw[τ,hlen]⟩,q⟩
 ·obtain⟨its,r',pl,hz⟩:=I.tuple hq;have hlen:=r'.length;exact len_tuple pl (by simp only[τ] <;> omega) ⟨.int ys.length,H,I.tok _,⟨s.toks+1,by rw[τ,hlen]⟩,q⟩
theorem xA.or{r r':List V->Hp->VK->Prop}(h:xA X f r)(h':xA X f r'):xA X f (fun xs H Q=>r xs H Q\/r' xs H Q):=by
 intro pins s σ H xs us Q I rs q;rcases q with q|q
 ·exact h pins s σ H xs us Q I rs q
 ·exact h' pins s σ H xs us Q I rs q
theorem cJ:xA X (.type "list") (fun xs H Q=>∃p ys,xs=[.ref p]/\(SqL X.K H p ys\/SqT X.K H p ys)/\∀l,H l=none->Q (.ref l) (upd H l (.lst ys))):=by
 intro pins s σ H xs us Q I r h;obtain⟨p,ys,rfl,hq,q⟩:=h;obtain⟨u,rfl,rx⟩:=vals1 r;cases rx;have fin:∀(its:List Value),kN ys its->ys.length<=ρ->∀(h':kq) (c':Nat),(∀b o',s.heap.get? b=some o'->h'.get? b=some o') →
   h'.get? s.heap.objs.size=some { cls:=.type "list",dict:=none,data:=.seq its.toArray c',slots:=#[] }->EP X pins σ Q (.ref s.heap.objs.size) { s with heap:=h' }:=fun its r' hz h' c' kp e =>
  ⟨.ref s.heap.objs.size,_,I.laid (t':=s.toks) kp (ν _) (show vC X.prog X.w _ h' _ (.lst ys) from⟨hz,its,c',r',e⟩),rfl,q _ (I.hok.fresh (ν _))⟩
 rcases hq with hq|hq
 ·obtain⟨its,r',pl,hz⟩:=I.list hq;have hlen:=r'.length;obtain⟨o,ho,hc,n,hd⟩:=pl.isList;exact call_list_seq p (.inl rfl) ho hc hd (fun h' c' kp e=>fin its r' hz h' c' kp e) (by simp only[τ] <;> omega)
 ·obtain⟨its,r',pl,hz⟩:=I.tuple hq;have hlen:=r'.length;obtain⟨o,ho,hc,n,hd⟩:=pl;exact call_list_seq p (.inr rfl) ho hc hd (fun h' c' kp e=>fin its r' hz h' c' kp e) (by simp only[τ] <;> omega)
theorem aT:xA X (.type "tuple") (fun xs H Q=>∃p ys,xs=[.ref p]/\((SqL X.K H p ys/\∀l,H l=none->Q (.ref l) (upd H l (.tup ys)))\/(SqT X.K H p ys/\Q (.ref p) H))):=by
 intro pins s σ H xs us Q I r h;obtain⟨p,ys,rfl,h⟩:=h;obtain⟨u,rfl,rx⟩:=vals1 r;cases rx;rcases h with⟨hq,q⟩|⟨hq,q⟩
 ·obtain⟨its,r',pl,hz⟩:=I.list hq;have hlen:=r'.length;refine call_tuple_list pl.isList (fun h' kp=>?_) (by simp only[τ] <;> omega);have I1:Inv X pins σ H { s with heap:=h' }:=I.kept (t':=s.toks) kp;have I2:Inv X pins σ (upd H h'.objs.size (.tup ys)) { s with heap:=h'.push { cls:=.type "tuple",data:=.seq its.toArray } } :=
   I1.laid (t':=s.toks) (fun b o e=>π _ e) (ν _) (show vC X.prog X.w _ _ _ (.tup ys) from⟨hz,its,r',IsTup.new _ _⟩)
  exact⟨.ref h'.objs.size,_,I2,rfl,q _ (I1.hok.fresh (ν _))⟩
 ·obtain⟨its,r',pl,hz⟩:=I.tuple hq;exact call_tuple_same pl ⟨.ref p,H,I,rfl,q⟩
def tyV (K:υ) (T:String) (x:V) (H:Hp):Prop:=match x with
 |.str _=>T = "str"
 |.int _=>T = "int"
 |.ref p=>(T = "list"/\∃xs,SqL K H p xs)\/(T = "tuple"/\∃o,K.lookup p=some o/\o.cls=.type "tuple"/\o.dict=none) ∨
   (T = "dict"/\((∃kvs,H p=some (.dK kvs))\/∃kvs,H p=some (.dT kvs)))\/(T = "set"/\∃S n,H p=some (.set S n))
 |_=>False
theorem aLm(I:Inv X pins σ H s)(r:RelV x v)(ty:tyV X.K T x H):
  s.TypeIs v T/\∀a,v=.ref a->∃ob,s.heap.get? a=some ob/\ob.dict=none:=by
 cases x with
 |str z =>
  obtain⟨t,rfl⟩:=r;cases (show T = "str" from ty);exact⟨typeIs_str s z t,fun _ e=>nomatch e⟩
 |int i =>
  obtain⟨t,rfl⟩:=r;cases (show T = "int" from ty);exact⟨typeIs_int s i t,fun _ e=>nomatch e⟩
 |ref p =>
  cases r;rcases ty with⟨rfl,xs,hq⟩|⟨rfl,o,hk,hc,hd⟩|⟨rfl,hk⟩|⟨rfl,S,n,hk⟩
  ·obtain⟨its,_,pl,_⟩:=I.list hq;refine⟨pl.isList.typeIs,fun a e=>?_⟩;cases e;obtain⟨o,n,e,c,hd,_⟩:=pl;exact⟨o,e,hd⟩
  ·refine⟨⟨o,I.kIn p o hk,hc⟩,fun a e=>?_⟩;cases e;exact⟨o,I.kIn _ o hk,hd⟩
  ·have z:∃o,s.heap.get? p=some o/\o.ExactDict:=by
    rcases hk with⟨kvs,hk⟩|⟨kvs,hk⟩
    ·obtain⟨_,_,_,_,o,_,_,e,ex,_⟩:=I.hok p _ hk;exact⟨o,e,ex⟩
    ·obtain⟨_,_,_,_,o,_,_,e,ex,_⟩:=I.hok p _ hk;exact⟨o,e,ex⟩
   obtain⟨o,e,ex⟩:=z;refine⟨⟨o,e,ex.1⟩,fun a e2=>?_⟩;cases e2;exact⟨o,e,ex.2.1⟩
  ·obtain⟨o,_,_,_,e,ex,_⟩:=I.hok p _ hk;refine⟨⟨o,e,ex.1⟩,fun a e2=>?_⟩;cases e2;exact⟨o,e,ex.2.1⟩
 |_=>exact jl ty
def tBM0 (K:υ) (T:String) (r:V->List V->Hp->VK->Prop) (to:TE):TE:=fun σ H Q=>to σ H fun x H1=>tyV K T x H1/\r x [] H1 Q
inductive aPo (K:υ) (T:String) (r:V->List V->Hp->VK->Prop) (t:TA) (σ:St) (Q:VK) (x:V) (H1:Hp):Prop|mk:tyV K T x H1->(t σ H1 fun xs H2=>r x xs H2 Q)->aPo K T r t σ Q x H1
def tBM (K:υ) (T:String) (r:V->List V->Hp->VK->Prop) (to:TE) (t:TA):TE:=fun σ H Q=>to σ H fun x H1=>aPo K T r t σ Q x H1
variable {o e:Expr}{es:List Expr}{to:TE}{t:TA}{name:Str}{apos cpos:Pos}{T id:String}{r:V->List V->Hp->VK->Prop}
theorem aDd(pa:PlainAttrs T)(slot:Slot T name id)(hty:typeOf (.builtin id)=pure (.type "method_descriptor"))(hm:MtR X id r)(ho:PE X o to)
  (hbase:vd o name X.env (eval o X.env)=eval o X.env:=by rfl)(hline:(apos.endLine == cpos.line)=true:=by rfl):PE X (.Call (.Attribute o name apos) [] [] cpos) (tBM0 X.K T r to):=by
 intro pins s σ H Q I h;refine wpAny_Call_method0_late hbase hline (thn (ho pins s σ H _ I h) fun v s1 zq=>?_);obtain⟨x,H1,I1,r1,ty,q1⟩:=zq;obtain⟨h1,h2⟩:=aLm I1 r1 ty;exact⟨T,id,pa,slot,hty,h1,h2,Calls.callWith_builtin rfl (PySem.evalArgs_none (hm pins s1 σ H1 x [] v [] Q I1 r1 .nil q1))⟩
theorem zP(pa:PlainAttrs T)(slot:Slot T name id)(hty:typeOf (.builtin id)=pure (.type "method_descriptor"))(hm:MtR X id r)(ho:PE X o to)(ha:PA X (e::es) t)
  (hbase:vd o name X.env (eval o X.env)=eval o X.env:=by rfl)
  (hfew:((rf cpos (il (e::es) X.env)).all (fun x=>!x.1)&&(backToKw cpos (xo [] X.env)).all (fun x=>x.1.isSome)
   && decide ((e::es).length+([]:List Keyword).length+(if ([]:List Keyword).isEmpty then 0 else 1)<30))=true:=by rfl)
  (hline:(apos.endLine == cpos.line)=true:=by rfl)(hs:il (e::es) X.env=(false,eval e X.env)::il es X.env:=by rfl)(hplain:(rf cpos (il es X.env)).any (·.1)=false:=by rfl):
  PE X (.Call (.Attribute o name apos) (e::es) [] cpos) (tBM X.K T r to t):=by
 intro pins s σ H Q I h;refine wpAny_Call_method_late hbase hfew hline rfl (thn (ho pins s σ H _ I h) fun v s1 zq=>?_);obtain⟨x,H1,I1,r1,ty,q1⟩:=zq;obtain⟨h1,h2⟩:=aLm I1 r1 ty;refine⟨T,id,pa,slot,hty,h1,h2,?_⟩;have hA:=ha cpos pins s1 σ H1 _ I1 q1;rw[hs]at hA ⊢;refine Calls.callWith_builtin (by show(false||(rf cpos (il es X.env)).any (·.1))=false;rw[hplain] <;> rfl) (Calls.evalArgs_plain ?_);exact thn hA fun us s2 zq=>zq.el fun vs H2 I2 r2 q2=>hm pins s2 σ H2 x vs v us Q I2 r1 r2 q2
end
def MtM (X:Cx) (id:String) (r:V->List V->Hp->VK->Prop):Prop :=
 ∀(pins:List (Addr×Obj)) (s:ξ) (σ:St) (H:Hp) (x:V) (xs:List V) (v:Value) (us:List Value) (Q:VK),Inv X pins σ H s->RelV x v->kN xs us->r x xs H Q →
  ik (ir X.prog X.w) X.A (call (.builtin id) (v::us)) (EP X pins σ Q) X.xe s
theorem kN.one{x:V}(h:kN [x] us):∃u,us=[u]/\RelV x u:=by
 cases h with
 |cons r t=>cases t;exact⟨_,rfl,r⟩
theorem kN.two{x y:V}(h:kN [x,y] us):∃u v,us=[u,v]/\RelV x u/\RelV y v:=by
 cases h with
 |cons r t=>obtain⟨_,rfl,q⟩:=kN.one t;exact⟨_,_,rfl,r,q⟩
theorem kN.zero:∀{us:List Value},kN [] us->us=[]
 |_,.nil=>rfl
theorem kN.dropLast(h:kN xs us):kN xs.dropLast us.dropLast:=by
 induction h with
 |nil=>exact .nil
 |cons r t ih =>
  cases t with
  |nil=>exact .nil
  |cons q t'=>exact .cons r ih
theorem kN.eraseIdx:∀{xs:List V}{us:List Value}(i:Nat),kN xs us->kN (xs.eraseIdx i) (us.eraseIdx i)
 |_,_,_,.nil=>.nil
 |_,_,0,.cons _ t=>t
 |_,_,i+1,.cons r t=>.cons r (kN.eraseIdx i t)
theorem aDh{α : Type}(l:List α):l.eraseIdx (l.length-1)=l.dropLast:=by
 induction l with
 |nil=>rfl
 |cons a r ih =>
  cases r with
  |nil=>rfl
  |cons b r =>
   have e:(a::b::r).length-1=((b::r).length-1)+1:=by
    have h1:(a::b::r).length=r.length+2:=rfl;have h2:(b::r).length=r.length+1:=rfl;omega
   rw[e,List.eraseIdx_cons_succ,ih]
   all_goals rfl
theorem sS{α : Type}: ∀(l:List α) (i:Nat),(l.eraseIdx i).length<=l.length
 |[],_=>ν _
 |_::_,0=>qv _
 |_::r,i+1=>ug (sS r i)
section
variable {X:Cx}{pins:List (Addr×Obj)}{σ:St}{H:Hp}{s:ξ}{l b:Addr}{xs ys zs:List V}
theorem Inv.lset{its its':List Value}{f:Array Value->Array Value}{t':Nat}(I:Inv X pins σ H s)(hH:H l=some (.lst xs))
  (e:s.heap.get? l=some { cls:=.type "list",data:=.seq its.toArray n })(hf:f its.toArray=its'.toArray)(hv:kN ys its')(hz:ys.length<=ρ):
  Inv X pins σ (upd H l (.lst ys)) { s with heap:=s.heap.update l (Obj.mapSeq f),toks:=t' }:=by
 have q:=PySem.IsL.update e f;rw[hf]at q;refine I.write (x:=l) (e:=l) (by rw[hH];exact trivial) (.inl rfl) (fun b' u hb hu=>(lp s.heap (Obj.mapSeq f) (lu hb)).trans hu) ⟨_,q⟩ ?_;exact⟨hz,its',_,hv,q⟩
theorem Inv.lnew{t':Nat}(I:Inv X pins σ H s)(hv:kN ys its)(hz:ys.length<=ρ):
  Inv X pins σ (upd H s.heap.objs.size (.lst ys)) { s with heap:=s.heap.push { cls:=.type "list",data:=.seq its.toArray },toks:=t' } :=
 I.laid (fun _ _ q=>π _ q) (ν _) ⟨hz,its,0,hv,iu _ rfl⟩
theorem Inv.fresh(I:Inv X pins σ H s):H s.heap.objs.size=none:=I.hok.fresh (ν _)
theorem Inv.lstM(I:Inv X pins σ H s)(hH:H l=some (.lst xs)):xs.length<=ρ/\∃(its:List Value) (n:Nat),kN xs its/\xs.length=its.length/\s.heap.get? l=some { cls:=.type "list",data:=.seq its.toArray n }:=by
 obtain⟨z,its,n,r,e⟩:=I.hok l _ hH;exact⟨z,its,n,r,r.length,e⟩
theorem aKa{n:Nat}(h:n<=ρ):ww n=false:=by
 unfold ww;exact decide_eq_false (by omega)
end
section
variable {X:Cx}
inductive sU (x:V) (vs:List V) (H:Hp) (Q:VK):Prop|mk:∀l xs y,x=.ref l->vs=[y]->H l=some (.lst xs)->xs.length<ρ->Q .non (upd H l (.lst (xs++[y])))->sU x vs H Q
def aNb:V->List V->Hp->VK->Prop:=fun x vs H Q=>sU x vs H Q
theorem yD:MtM X "list.append" aNb:=by
 intro pins s σ H x vs v us Q I rx rv h;obtain⟨l,xs,y,rfl,rfl,hH,hz,q⟩:=h;cases rx;obtain⟨u,rfl,ru⟩:=rv.one;obtain⟨z,its,n,r,hl,e⟩:=I.lstM hH;refine vp F.slot_list_append ⟨_,e,rfl⟩ F.entry_list_append (F.args_list_append_2 _ _) (PySem.list_append l its.toArray n u (by rw[τ];omega)) ⟨e,?_⟩;refine⟨.non,_,I.lset (its':=its++[u]) hH e (by simp) (r.append (.cons ru .nil)) ?_,rfl,q⟩;rw[ι,ki];omega
def aOn:V->List V->Hp->VK->Prop:=fun x vs H Q=>∃l b xs zs,x=.ref l/\vs=[.ref b]/\H l=some (.lst xs)/\H b=some (.lst zs)/\xs.length+zs.length<=ρ/\Q .non (upd H l (.lst (xs++zs)))
theorem sR:MtM X "list.extend" aOn:=by
 intro pins s σ H x vs v us Q I rx rv h;obtain⟨l,b,xs,zs,rfl,rfl,hH,hB,hz,q⟩:=h;cases rx;obtain⟨u,rfl,ru⟩:=rv.one;cases ru;obtain⟨z,its,n,r,hl,e⟩:=I.lstM hH;obtain⟨z2,its2,n2,r2,hl2,e2⟩:=I.lstM hB;have hsz:its.toArray.size+its2.toArray.size<=ρ:=by rw[τ,τ];omega
 have hlong:¬ (!its.toArray.isEmpty&&ww (its.toArray.size+its2.toArray.size))=true:=by
  rw[aKa hsz,Bool.and_false];exact ψ
 refine vp F.slot_list_extend ⟨_,e,rfl⟩ F.entry_list_extend (F.args_list_extend_2 _ _)
  (AutoSeq1.list_extend_list_list_0 l its.toArray n b its2.toArray n2 hlong (by rw[τ];omega) (by omega)) ⟨e,e2,?_⟩
 refine⟨.non,_,I.lset (its':=its++its2) hH e (by simp) (r.append r2) ?_,rfl,q⟩;rw[ι];omega
def rPop:V->List V->Hp->VK->Prop:=fun x vs H Q=>∃l xs y,x=.ref l/\vs=[]/\H l=some (.lst xs)/\xs[xs.length-1]?=some y/\Q y (upd H l (.lst xs.dropLast))
theorem aQe:MtM X "list.pop" rPop:=by
 intro pins s σ H x vs v us Q I rx rv h;obtain⟨l,xs,y,rfl,rfl,hH,hy,q⟩:=h;cases rx;have hus:=rv.zero;subst hus;obtain⟨z,its,n,r,hl,e⟩:=I.lstM hH;obtain⟨u,hu,ru⟩:=r.get hy;have hy':its.toArray[its.toArray.size-1]?=some u:=by
  show its.toArray[its.length-1]?=some u;rw[←vf,←hl];exact hu
 refine vp F.slot_list_pop ⟨_,e,rfl⟩ F.entry_list_pop (F.args_list_pop_1 _) (MeetsSeq.list_pop_last l its.toArray n u hy' (by rw[τ];omega)) ⟨e,?_⟩;refine⟨y,_,I.lset (its':=its.dropLast) hH e ?_ r.dropLast ?_,ru,q⟩
 ·show its.toArray.eraseIdxIfInBounds (its.toArray.size-1)=its.dropLast.toArray;rw[τ,List.eraseIdxIfInBounds_toArray,aDh]
 ·rw[List.length_dropLast];omega
def aSg:V->List V->Hp->VK->Prop:=fun x vs H Q=>∃l xs i k y,x=.ref l/\vs=[.int i]/\H l=some (.lst xs)/\-(2 ^ 63)<=i/\i<2 ^ 63/\seqIndex? i xs.length=some k/\xs[k]?=some y/\Q y (upd H l (.lst (xs.eraseIdx k)))
theorem aJk:MtM X "list.pop" aSg:=by
 intro pins s σ H x vs v us Q I rx rv h;obtain⟨l,xs,i,k,y,rfl,rfl,hH,h1,h2,hk,hy,q⟩:=h;cases rx;obtain⟨u,rfl,ru⟩:=rv.one;obtain⟨t,rfl⟩:=ru;obtain⟨z,its,n,r,hl,e⟩:=I.lstM hH;obtain⟨w,hw,rw'⟩:=r.get hy;refine vp F.slot_list_pop ⟨_,e,rfl⟩ F.entry_list_pop (F.args_list_pop_2 _ _)
  (MeetsSeq.list_pop_at l its.toArray n i t k w (fitsIndex_both h1 h2) (by rw[τ,←hl];exact hk) (by rw[←vf];exact hw) (by rw[τ];omega)) ⟨e,?_⟩
 refine⟨y,_,I.lset (its':=its.eraseIdx k) hH e ?_ (r.eraseIdx k) ?_,rw',q⟩
 ·show its.toArray.eraseIdxIfInBounds k=(its.eraseIdx k).toArray;rw[List.eraseIdxIfInBounds_toArray]
 ·have:=sS xs k;omega
def aRm:V->List V->Hp->VK->Prop:=fun x vs H Q=>∃l xs,x=.ref l/\vs=[]/\H l=some (.lst xs)/\Q .non (upd H l (.lst []))
theorem aLd:MtM X "list.clear" aRm:=by
 intro pins s σ H x vs v us Q I rx rv h;obtain⟨l,xs,rfl,rfl,hH,q⟩:=h;cases rx;have hus:=rv.zero;subst hus;obtain⟨z,its,n,r,hl,e⟩:=I.lstM hH;refine vp F.slot_list_clear ⟨_,e,rfl⟩ F.entry_list_clear (F.args_list_clear_1 _) (AutoSeq1.list_clear_list_0 l its.toArray n (by rw[τ];omega)) ⟨e,?_⟩;exact⟨.non,_,I.lset (its':=[]) (ys:=[]) hH e rfl .nil (iy _),rfl,q⟩
def rCat:R2:=fun x y H Q=>∃l b xs zs,x=.ref l/\y=.ref b/\H l=some (.lst xs)/\H b=some (.lst zs)/\xs.length+zs.length<=ρ/\∀p,H p=none->Q (.ref p) (upd H p (.lst (xs++zs)))
theorem yS:OpR X (sg .Add) rCat:=by
 intro pins s σ H x y v u Q I rx ry h;obtain⟨l,b,xs,zs,rfl,rfl,hH,hB,hz,q⟩:=h;cases rx;cases ry;obtain⟨z,its,n,r,hl,e⟩:=I.lstM hH;obtain⟨z2,its2,n2,r2,hl2,e2⟩:=I.lstM hB;refine PySem.P.add_list e e2 ?_ (by rw[τ,τ];omega);have ea:its.toArray++its2.toArray=(its++its2).toArray:=by simp
 rw[ea];exact⟨.ref _,_,I.lnew (t':=s.toks) (r.append r2) (by rw[ι];omega),rfl,q _ I.fresh⟩
end
end L2
namespace Att
open PySem PySem.W PySem.Calls PyProof.Rows
theorem mX : ∀(ns:List Int) (vs:List Value),WellAll P h vs (ns.map WData.int)->IntsAre vs ns:=by
 intro ns
 induction ns with
 |nil =>
  intro vs w;rw[List.map_nil]at w;cases w;exact .nil
 |cons n ns ih =>
  intro vs w;rw[ju]at w;cases w with
  |cons a b =>
   cases a;exact .cons _ _ (ih _ b)
theorem aGh{l:OpenLaw}(hn:l.most=some n)
  (hpre:l.row.toRowW.claim.pre args=true)(hwl:WellAll P h vals args):
  ∃a vs ns,vals=[iw a]/\args=[WData.list (ns.map WData.int)]/\h.get? a=some { cls:=.type "list",data:=.seq vs.toArray }/\IntsAre vs ns/\ns.length<=n:=by
 have hsh:WShape.hasAll [] args [.list .int]=true:=(pre_splitW hpre).1;have hc:l.pre.holds [] { args:=args }=true:=(pre_splitW hpre).2;obtain⟨d,r,rfl,h1,h2⟩:=hasAllW_cons hsh;obtain rfl:=hasAllW_nil h2;obtain⟨xs,rfl,h3⟩:=hasW_list h1;obtain⟨ns,rfl⟩:=items_int h3;have hlen:ns.length<=n:=by
  unfold OpenLaw.pre at hc;have h4:(WTm.not (.lt (.lit (.int (n:Int))) (.len (.arg 0)))).holds [] { args:=[.list (ns.map .int)] }=true:=by
   have h4:=(holds_andW hc).1;rw[hn]at h4;exact h4
  have h5:=condW_of h4 (w_not (w_lt w_lit (w_len_list (w_arg rfl))));rw[δ]at h5;refine Nat.le_of_not_lt fun q=>?_;have q':(n:Int)<((ns.length:Nat):Int):=by omega
  first
   | (rw[decide_eq_true q']at h5;exact absurd h5 (by decide))
   | (simp at h5;omega)
 cases hwl with
 |cons w1 w2 =>
  cases w2;cases w1 with
  |list ho hall=>exact⟨_,_,ns,rfl,rfl,ho,mX ns _ hall,hlen⟩
theorem aHt(l:OpenLaw)(args:List WData):l.row.toRowW.claim.post args (.bool true) args=true :=
 postW_of (r:=l.row.toRowW) (X:=(true == true))
  (show WShape.has [] (.bool true) .bool=true by first|rfl|decide|simp[WShape.has,WShape.arms,WShape.armsAll])
  (show(WTm.eq .res (.lit (.bool true))).value [] { args:=args,res:=some (.bool true),after:=args }=some (.bool (true == true)) from w_eq_bool (w_res rfl) w_lit) rfl
theorem attach_call{l:OpenLaw}{YP:mf->kq->Prop}{d:DefRec}
  (hn:l.most=some n)(hdf:d.params.defaults=[])
  (call:∀(w:mf) (s₀ s₁ : ξ) (mg mb:Str->Option Value) (fa:Addr) (o:Obj) (pm cd doc:Value) (a:Addr) (vs:List Value) (ns:List Int),
   Ground q loose [] XP w s₀ mg mb s₁.heap->YP w s₁.heap →
   s₁.heap.get? fa=some o->o.data=.func (docDef d.name d.params d.body d.scope pm cd doc)->s₁.heap.CodeRec cd d.name->mg d.name=some (.ref fa) →
   s₁.heap.get? a=some { cls:=.type "list",data:=.seq vs.toArray }->IntsAre vs ns->ns.length<=n->s₁.gens = #[] →
   wd (ir l.prog w) callerA (.call (.ref fa) ⟨[.ref a],[]⟩) (fun r s'=>r=.ok (.ret (.bool true))/\OldK s₁.heap s'.heap/\s'.os=s₁.os/\AllBare s'.gens) s₁):
  WalkO q loose XP YP l.row.toRowW d [] (fun f vs=>PySem.call f vs):=by
 intro w s₀ s₁ mg mb G Y fa o pm cd doc dV kV ho hd hcd hD hmg hg args vals as hpre hlay hrd hwl hlo;obtain rfl:dV=.none:=Dflts.none hD hdf;obtain rfl:kV=.none:=Dflts.noKw hD;obtain⟨a,vs,ns,rfl,rfl,hobj,hints,hlen⟩:=aGh hn hpre hwl;refine enter_call (wf (call w s₀ s₁ mg mb fa o pm cd doc a vs ns G Y ho (fd_plain hd) hcd hmg hobj hints hlen hg) fun r s' hq=>?_);obtain⟨rfl,h2,h3,h4⟩:=hq;exact⟨.inl ⟨.bool true,.bool true,[],rfl,fun _=>rfl,.bool true,aHt l _,fun _=>⟨yd,fun _ hm=>(nomatch hm)⟩⟩,h2,h3,h4⟩
section
variable {prog:jy}{w:mf}{A:kg}{E:Value->ξ->Prop}{s:ξ}{K:υ}
end
end Att
namespace L2
open PySem PySem.Spec PyProof.Rows
theorem sP:∀{vs:List Value}{ns:List Int},IntsAre vs ns->kN (ns.map V.int) vs
 |_,_,.nil=>.nil
 |_,_,.cons n t h=>.cons ⟨t,rfl⟩ (sP h)
def Only (H:Hp):Prop:=∀b,H b=none\/∃o xs,H b=some (.frz o (.lst xs))
theorem aJl{K:υ}{mb:Str->Option Value}{CX:CXT}{a:Addr}{x:Str}{sp:Sp}{s₁: ξ}{vs:List Value}
  (KX:K.In s₁.heap)(hns:s₁.heap.Ns ip mg)(hb:s₁.heap.Ns builtinsNs mb)(hbb:∀x:Str,x ≠ "__name__"->mb x=lm x)(hlim:s₁.heap.NoLimit)(hg:s₁.gens = #[])
  (ha:s₁.heap.get? a=some { cls:=.type "list",data:=.seq vs.toArray })(hi:IntsAre vs ns)(hl:ns.length<=ρ)(hr:vQ k callerA)
  (F:∀base:kq,K.In base->base.Ns ip mg->kJ P w K mg base CX k fa fd [x] sp)(hbind:∀(s:ξ) (u:Value),BindsTo s fd ⟨[u],[]⟩ [(x,u)])
  (hsp:∀H:Hp,Only H->SqL K H a (ns.map V.int)->sp [.ref a] H (fun v _=>v=.bl true) fun _ _ _=>False)
  (hCX:∀H e s',CX [] H s₁ (fun _ _ _=>False) e s'->False):
  wd (ir P w) callerA (.call (.ref fa) ⟨[.ref a],[]⟩) (fun r s'=>r=.ok (.ret (.bool true))/\OldK s₁.heap s'.heap/\s'.os=s₁.os/\AllBare s'.gens) s₁:=by
 have rv:=sP hi;have lenV:=hi.length;have core:∀H:Hp,Only H->SqL K H a (ns.map V.int)->HOk P w H s₁.heap->(∀b,H b≠none->b=a)->(H a≠none->K.lookup a=none) →
   wd (ir P w) callerA (.call (.ref fa) ⟨[.ref a],[]⟩) (fun r s'=>r=.ok (.ret (.bool true))/\OldK s₁.heap s'.heap/\s'.os=s₁.os/\AllBare s'.gens) s₁:=by
  intro H hO hS hok hA hK;have base_of:∀{b:Addr}{o:Obj},s₁.heap.get? b=some o->H b=none->(uB s₁.heap H).get? b=some o:=fun e n=>aHx e n;have noA:∀{b:Addr}{o:Obj}{es:Array DictEntry}{ep:Nat},s₁.heap.get? b=some o->o.data=.dict es ep->H b=none:=fun {b o es ep} e d=>by
   cases q:H b with
   |none=>rfl
   |some u =>
    have e':b=a:=hA b (by rw[q];simp);subst e';rw[ha]at e;cases e;have d':Data.seq vs.toArray _=Data.dict es ep:=d;cases d'
  have nsK:∀{b:Addr}{m:Str->Option Value},s₁.heap.Ns b m->(uB s₁.heap H).Ns b m:=fun {b m} ⟨o,es,ep,e,d,r⟩=>⟨o,es,ep,base_of e (noA e d),d,r⟩;have hKb:K.In (uB s₁.heap H):=fun b o e=>base_of (KX b o e) (by
   cases q:H b with
   |none=>rfl
   |some u =>
    have e':b=a:=hA b (by rw[q];simp);subst e';rw[hK (by rw[q];simp)]at e;cases e)
  have hM:Mod K mg (uB s₁.heap H):=⟨hKb,nsK hns,⟨mb,nsK hb,hbb⟩,let ⟨mc,h1,h2⟩:=hlim; ⟨mc,nsK h1,h2⟩⟩;have e0:mT P w K mg (uB s₁.heap H) callerA [] s₁ H:=⟨rfl,hM,fun b o e=>aNh e,Nat.le_of_eq (aGt _ _),trivial,fun b hb=>absurd (show b∈([]:List Addr) from hb) (by simp),hok,.of_eq hg⟩;refine wf ((F _ hKb (nsK hns)).run callerA [] s₁ H ⟨[.ref a],[]⟩ [.ref a] [.ref a] _ _ hr e0 (hbind s₁ (.ref a)) (.cons rfl .nil) (hsp H hO hS)) fun r s' h=>?_;cases r with
  |error e=>exact(hCX H e s' h).elim
  |ok fl =>
   cases fl with
   |next=>exact jl h
   |brk=>exact jl h
   |cont=>exact jl h
   |ret u =>
    obtain⟨v,H',os,bare,un,hok',r',q⟩:=h;have q':v=.bl true:=q;subst q';obtain rfl:u=Value.bool true:=r';refine⟨rfl,OldK.of_keep fun b o e=>?_,os,bare⟩;cases q:H b with
    |none=>exact un.keep b o e q (by intro z;exact absurd (show b∈([]:List Addr) from z) (by simp)) (by simp)
    |some u =>
     rcases hO b with z|⟨ob,xs,z⟩
     ·rw[q]at z;cases z
     ·have z2:=un.frzs b ob _ z;obtain⟨e1,_⟩:=hok b _ z;obtain⟨e2,_⟩:=hok' b _ z2;rw[e]at e1;cases e1;exact e2
 cases hk:K.lookup a with
 |some o =>
  have e:=KX a o hk;rw[ha]at e;cases e;refine core (fun _=>none) (fun _=>.inl rfl) (.inr ⟨_,vs.toArray,_,hk,rfl,rfl,rfl,by rw[τ,lenV];exact hl,by simpa using rv⟩) (fun b u z=>by have z':(none:Option HO)=some u:=z;cases z') (fun b z=>absurd rfl z) fun z=>absurd rfl z
 |none =>
  refine core (fun b=>if b=a then some (.frz { cls:=.type "list",data:=.seq vs.toArray } (.lst (ns.map V.int))) else none) (fun b=>?_) (.inl (.inr ⟨{ cls:=.type "list",data:=.seq vs.toArray },if_pos rfl⟩)) (fun b u z=>?_) (fun b z=>?_) fun _=>hk
  ·by_cases hb:b=a
   ·exact .inr ⟨_,_,if_pos hb⟩
   ·exact .inl (if_neg hb)
  ·by_cases hb:b=a
   ·have z':=(if_pos hb).symm.trans z;cases z';subst hb;exact⟨ha,by rw[δ];exact hl,vs,_,rv,ha⟩
   ·have z':=(if_neg hb).symm.trans z;cases z'
  ·by_cases hb:b=a
   ·exact hb
   ·exact absurd (if_neg hb) z
theorem aNg{l:PySem.W.OpenLaw}{YP:mf->kq->Prop}{d:DefRec}{K:Params->υ}{CX:mf->CXT}{sp:mf->Sp}{x:Str}
  (hn:l.most=some n)(hn2:n<=ρ)(hdf:d.params.defaults=[])(hr:vQ k callerA)
  (hY:∀(w:mf) (h:kq),YP w h->(K w.params).In h)
  (F:∀(w:mf) (mg:Str->Option Value) (fa:Addr) (h:kq),(K w.params).In h->h.Ns ip mg->mg d.name=some (.ref fa) →
   ∃fd:oz,(∀(s:ξ) (u:Value),BindsTo s fd ⟨[u],[]⟩ [(x,u)]) ∧
    ∀base:kq,(K w.params).In base->base.Ns ip mg->kJ l.prog w (K w.params) mg base (CX w) k fa fd [x] (sp w))
  (hsp:∀(w:mf) (H:Hp) (a:Addr) (ns:List Int),ns.length<=n->Only H->SqL (K w.params) H a (ns.map V.int)->sp w [.ref a] H (fun v _=>v=.bl true) fun _ _ _=>False)
  (hCX:∀(w:mf) (H:Hp) (s:ξ) (e:Value) (s':ξ),CX w [] H s (fun _ _ _=>False) e s'->False):
  PySem.W.WalkO q loose XP YP l.row.toRowW d [] (fun f vs=>PySem.call f vs):=by
 refine Att.attach_call hn hdf fun w s₀ s₁ mg mb fa o pm cd doc a vs ns G Y ho hd hcd hmg hobj hints hlen hg=>?_;have KX:=hY w _ Y;obtain⟨fd,hb,hF⟩:=F w mg fa _ KX G.T.g hmg;exact aJl KX G.T.g G.T.b G.T.builtins G.T.nolimit hg hobj hints (Θ hlen hn2) hr hF hb (fun H hO hS=>hsp w H a ns hlen hO hS) fun H e s'=>hCX w H s₁ e s'
def inClass (s:Stmt) (j:Nat):Stmt:=match s with
 |.ClassDef _ _ _ body _ _ _ _ _ _ _=>body.getD j (.Pass ⟨0,0,0,0⟩)
 |_=>.Pass ⟨0,0,0,0⟩
def cC (s:Stmt):Arguments:=match s with
 |.FunctionDef _ a _ _ _ _ _ _ _ _=>a
 |_=>{ posonlyargs:=[],args:=[],vararg:=none,kwonlyargs:=[],kw_defaults:=[],kwarg:=none,defaults:=[] }
def yZ (s:Stmt):List Stmt:=match s with
 |.FunctionDef _ _ b _ _ _ _ _ _ _=>b
 |_=>[]
def jG (s:Stmt):Scope:=match s with
 |.FunctionDef _ _ _ _ _ _ sc _ _ _=>sc
 |_=>{ kind:=.function,names:=[],isGenerator:=false,isCoroutine:=false }
abbrev CX0:CXT:=fun _ _ _ _ _ _=>False
abbrev E0:XK:=fun _ _ _=>False
theorem qR : xS CX0 X E0:=fun _ _ _ _ _ _ _ h=>h.elim
structure Fun (K:υ) (x qual:Str) (st:Stmt) (f:Addr) (fd:oz):Prop where
 ex:∃(oc:Value) (od:Option Addr) (kV doc pm:Value) (an:Option Addr) (cdv ct:Value) (osl:Array (Option Value)),
  fd=fnOf x qual (cC st) (yZ st) (jG st) .none kV doc pm an cdv ct/\K.lookup f=some ⟨oc,od,.func fd,osl⟩/\codeIn K cdv qual=true
 kp:keepIn K (.ref f)=true
section
variable {P:jy}{w:mf}{K:υ}{mg:Str->Option Value}{base:kq}
theorem Fun.ok{x qual:Str}{st:Stmt}{f:Addr}{fd:oz}{N ps:List Str}{k:Nat}{sp:Sp}(F:Fun K x qual st f fd)(S:jN N ps (jG st))(len:∀vs H Q E,sp vs H Q E->vs.length=ps.length)
  (hbody:∀(cdv:Value) (A:kg) (outer:List Env) (s:ξ) (H:Hp) (vs:List V) (Q:VK) (E:XK),vQ k (A.deeper (wn qual (jG st) s.heap.objs.size f cdv))->sp vs H Q E →
   ∃t,PSs (fY CX0 P w K mg base N qual (jG st) f cdv A outer s H E).nox (yZ st) t/\t { nx:=fun _ H'=>Q .non H',rt:=Q } (start N vs) H):kJ P w K mg base CX0 (k+1) f fd ps sp:=by
 obtain⟨oc,od,kV,doc,pm,an,cdv,ct,osl,rfl,lk,hcd⟩:=F.ex;refine aPn lk hcd S len fun A outer s H vs Q E hr hsp=>?_;obtain⟨t,h,q⟩:=hbody cdv A outer s H vs Q E hr hsp;exact⟨t,h.nox,q⟩
theorem Fun.binds{x qual:Str}{st:Stmt}{f:Addr}{fd:oz}{ps:List Str}(F:Fun K x qual st f fd)
  (h:∀(kV doc pm:Value) (an:Option Addr) (cdv ct:Value) (us:List Value),us.length=ps.length->bindArgs (fnOf x qual (cC st) (yZ st) (jG st) .none kV doc pm an cdv ct) ⟨us,[]⟩=pure (ps.zip us)):Binds K fd ps []:=by
 obtain⟨oc,od,kV,doc,pm,an,cdv,ct,osl,rfl,lk,hcd⟩:=F.ex;exact .all (h kV doc pm an cdv ct)
theorem aLg{x qual:Str}{st:Stmt}{f:Addr}{oc:Value}{od an:Option Addr}{osl:Array (Option Value)}{kV doc pm cdv ct:Value}(l:K.lookup f=some ⟨oc,od,.func (fnOf x qual (cC st) (yZ st) (jG st) .none kV doc pm an cdv ct),osl⟩)
  (c:codeIn K cdv qual=true)(k:keepIn K (.ref f)=true):Fun K x qual st f (fnOf x qual (cC st) (yZ st) (jG st) .none kV doc pm an cdv ct):=⟨⟨oc,od,kV,doc,pm,an,cdv,ct,osl,rfl,l,c⟩,k⟩
end
theorem kQ{n:Nat}(h:n<=1000):n<ρ:=ms h (by decide)
section
variable {X:Cx}
theorem pv(i:Nat)(hN:X.N[i]?=some x:=by rfl)(hv:Vis X.env.scope x:=by first|exact Or.inl rfl|exact Or.inr (Or.inl rfl)|exact Or.inr (Or.inr rfl))(hd:(x == ("__debug__" : Str))=false:=by decide)
  (hcd:(x == ("__classdict__" : Str))=false:=by decide):PE X (.Name x pos) (aAg i):=aRr hN hv hd hcd
end
theorem iteF{A B:Prop}(h:B):if false=true then A else B:=by
 rw[if_neg ψ];exact h
theorem bW{A B:Prop}(h:A):if true=true then A else B:=by
 rw[if_pos rfl];exact h
theorem yB{c A B:Prop}[Decidable c](h1:c->A)(h2:¬ c->B):if c then A else B:=by
 by_cases h:c
 ·rw[if_pos h];exact h1 h
 ·rw[if_neg h];exact h2 h
def jI (H H':Hp):Prop:=∀b o,H b=some o->H' b=some o
theorem jI.refl(H:Hp):jI H H:=fun _ _ h=>h
theorem jI.trans(a:jI H H1)(b:jI H1 H2):jI H H2:=fun c o h=>b c o (a c o h)
theorem jI.free{H H':Hp}(e:jI H H')(h:H' l=Option.none):H l=Option.none:=by
 cases q:H l with
 |none=>rfl
 |some o =>
  rw[e l o q]at h;cases h
theorem jI.seq{K:υ}(e:jI H H')(h:SqL K H a xs):SqL K H' a xs:=by
 rcases h with (h|⟨o,h⟩)|h
 ·exact .inl (.inl (e _ _ h))
 ·exact .inl (.inr ⟨o,e _ _ h⟩)
 ·exact .inr h
end L2
set_option maxHeartbeats 4000000
namespace L2
open PySem PySem.Spec PyProof.Rows
theorem kN.getR:∀{xs:List V}{us:List Value}{i:Nat}{u:Value},kN xs us->us[i]?=some u->∃x,xs[i]?=some x/\RelV x u
 |_,_,_,_,.nil,e=>by simp at e
 |_,_,0,_,.cons r _,e=>by simp at e;subst e;exact⟨_,rfl,r⟩
 |_,_,i+1,u,.cons _ t,e=>by
  obtain⟨x,h1,h2⟩:=kN.getR (i:=i) (u:=u) t (by simpa using e);exact⟨x,by simpa using h1,h2⟩
def isa (t T:String):Bool:=t == T||(t == "bool" && T == "int")
def tyN (K:υ) (x:V) (H:Hp) (t:String):Prop :=
 match x with
 |.non=>t = "NoneType"
 |.bl _=>t = "bool"
 |.int _=>t = "int"
 |.str _=>t = "str"
 |.ref p=>(t = "list"/\∃xs,SqL K H p xs)\/(t = "tuple"/\∃xs,SqT K H p xs)
 |_=>False
def aBs:List String:=["int","bool","str","list","tuple","dict"]
section
variable {X:Cx}
theorem oQ:xA X (.builtin "isinstance") (fun xs H Q=>∃x T t,xs=[x,.ty T]/\T∈aBs/\tyN X.K x H t/\Q (.bl (isa t T)) H):=by
 intro pins s σ H xs us Q I r h;obtain⟨x,T,t,rfl,hT,ht,q⟩:=h;obtain⟨u,w',rfl,rx,rT⟩:=vals2 r;cases rT;have hT':T = "int" ∨ T = "bool" ∨ T = "str" ∨ T = "list" ∨ T = "tuple" ∨ T = "dict":=by simpa [aBs] using hT
 have fin:∀{k:Bool}{s':ξ},isa t T=k->Inv X pins σ H s'->EP X pins σ Q (.bool k) s':=fun {k s'} e I'=>by subst e;exact⟨.bl _,H,I',rfl,q⟩
 cases x with
 |non =>
  cases rx;have ht':t = "NoneType":=ht;subst ht';rcases hT' with rfl|rfl|rfl|rfl|rfl|rfl
  ·exact IsiPair.NoneType_int (fin (by decide) (I.tok _))
  ·exact IsiPair.NoneType_bool (fin (by decide) (I.tok _))
  ·exact IsiPair.NoneType_str (fin (by decide) (I.tok _))
  ·exact IsiPair.NoneType_list (fin (by decide) (I.tok _))
  ·exact IsiPair.NoneType_tuple (fin (by decide) (I.tok _))
  ·exact IsiPair.NoneType_dict (fin (by decide) (I.tok _))
 |bl b =>
  cases rx;have ht':t = "bool":=ht;subst ht';rcases hT' with rfl|rfl|rfl|rfl|rfl|rfl
  ·exact IsiPair.bool_int (fin (by decide) I)
  ·exact IsiPair.bool_bool (fin (by decide) I)
  ·exact IsiPair.bool_str (fin (by decide) (I.tok _))
  ·exact IsiPair.bool_list (fin (by decide) (I.tok _))
  ·exact IsiPair.bool_tuple (fin (by decide) (I.tok _))
  ·exact IsiPair.bool_dict (fin (by decide) (I.tok _))
 |int i =>
  obtain⟨tk,rfl⟩:=rx;have ht':t = "int":=ht;subst ht';rcases hT' with rfl|rfl|rfl|rfl|rfl|rfl
  ·exact IsiPair.int_int (fin (by decide) I)
  ·exact IsiPair.int_bool (fin (by decide) (I.tok _))
  ·exact IsiPair.int_str (fin (by decide) (I.tok _))
  ·exact IsiPair.int_list (fin (by decide) (I.tok _))
  ·exact IsiPair.int_tuple (fin (by decide) (I.tok _))
  ·exact IsiPair.int_dict (fin (by decide) (I.tok _))
 |str y =>
  obtain⟨tk,rfl⟩:=rx;have ht':t = "str":=ht;subst ht';rcases hT' with rfl|rfl|rfl|rfl|rfl|rfl
  ·exact IsiPair.str_int (fin (by decide) (I.tok _))
  ·exact IsiPair.str_bool (fin (by decide) (I.tok _))
  ·exact IsiPair.str_str (fin (by decide) I)
  ·exact IsiPair.str_list (fin (by decide) (I.tok _))
  ·exact IsiPair.str_tuple (fin (by decide) (I.tok _))
  ·exact IsiPair.str_dict (fin (by decide) (I.tok _))
 |ref p =>
  cases rx;have ht':(t = "list"/\∃xs,SqL X.K H p xs)\/(t = "tuple"/\∃xs,SqT X.K H p xs):=ht;rcases ht' with⟨rfl,ys,hy⟩|⟨rfl,ys,hy⟩
  ·obtain⟨its,rv,⟨o,n,e,hc,_,_⟩,hz⟩:=I.list hy;rcases hT' with rfl|rfl|rfl|rfl|rfl|rfl
   ·exact IsiPair.list_int e hc (fin (by decide) (I.tok _))
   ·exact IsiPair.list_bool e hc (fin (by decide) (I.tok _))
   ·exact IsiPair.list_str e hc (fin (by decide) (I.tok _))
   ·exact IsiPair.list_list e hc (fin (by decide) I)
   ·exact IsiPair.list_tuple e hc (fin (by decide) (I.tok _))
   ·exact IsiPair.list_dict e hc (fin (by decide) (I.tok _))
  ·obtain⟨its,rv,⟨o,e,hc,n,_⟩,hz⟩:=I.tuple hy;rcases hT' with rfl|rfl|rfl|rfl|rfl|rfl
   ·exact IsiPair.tuple_int e hc (fin (by decide) (I.tok _))
   ·exact IsiPair.tuple_bool e hc (fin (by decide) (I.tok _))
   ·exact IsiPair.tuple_str e hc (fin (by decide) (I.tok _))
   ·exact IsiPair.tuple_list e hc (fin (by decide) (I.tok _))
   ·exact IsiPair.tuple_tuple e hc (fin (by decide) I)
   ·exact IsiPair.tuple_dict e hc (fin (by decide) (I.tok _))
 |_=>exact(show False from ht).elim
end
section
variable {X:Cx}{pos:Pos}
theorem mU(bs:List Bool):(jg bs.length).all (fun i=>bs.getD i false)=bs.all id:=by
 rw[rg];simp only[ji,vk,id];constructor
 ·intro h x hx;obtain⟨i,hi,rfl⟩:=List.mem_iff_getElem.mp hx;have:=h i hi;simpa [ω,θ hi] using this
 ·intro h i hi;have:=h bs[i] (md hi);simpa [ω,θ hi] using this
theorem bO(hc:X.calm=true):xA X (.builtin "all") (fun xs H Q=>∃(a:Addr) (bs:List Bool),xs=[.ref a]/\SqL X.K H a (bs.map V.bl)/\Q (.bl (bs.all id)) H):=by
 intro pins s σ H xs us Q I r h;obtain⟨a,bs,rfl,ha,q⟩:=h;obtain⟨u,rfl,rx⟩:=vals1 r;cases rx;obtain⟨its,rv,pl,hz⟩:=I.list ha;have hlen:bs.length=its.length:=by have:=rv.length;simpa using this
 have hlt:a≠s.heap.objs.size:=by obtain⟨o,n,ho,_⟩:=pl;exact jb (io ho)
 refine call_all_walk (qw pl.isList ?_);refine⟨s.heap.objs.size,_,_,_,_,_,fun i=>bs.getD i false,rfl,Walks.list (show X.A.in1.handled=none from I.ok.hd hc) _ a hlt its.toArray,⟨⟨_,iu _ rfl,rfl,rfl⟩,pl.isList.push _⟩,?_,fun h' tk hk=>?_⟩
 ·intro i v s' Q' E' hP hQ;have hv:its[i]?=some v:=by simpa using hP
  obtain⟨x,hx,rxv⟩:=rv.getR hv;rw[iq]at hx;cases hb:bs[i]? with
  |none=>rw[hb]at hx;cases hx
  |some b =>
   rw[hb]at hx;cases hx;cases rxv;have e:bs.getD i false=b:=by simp[ω,hb]
   have hQ':Q' (bs.getD i false) s':=hQ;rw[e]at hQ';exact mh hQ'
 ·refine⟨.bl (bs.all id),H,I.kept fun b o e=>hk b o (by simp;exact jb (io e)) (π _ e),?_,q⟩;show Value.bool _=Value.bool _;rw[←mU bs,hlen];simp
end
abbrev Cx.comp (X:Cx) (scope:Scope) (cl:List (Str×Addr)) (N:List Str) (s:ξ) (H:Hp) (fp:List Addr) (C:Addr):Cx where
 prog:=X.prog
 w:=X.w
 K:=X.K
 mg:=X.mg
 base:=X.base
 A:=X.A
 N:=N
 s₀:=s
 H₀:=H
 env:=compEnvC scope cl C X.env
 outer:=X.stack
 stack:=X.stack
 ex:=fp
 fn:=fun _=>false
 calm:=X.calm
 pn:=[]
 xe:=fun _ _=>False
def iL (env:Env):List (Str×Addr)->Prop
 |[]=>True
 |p::r=>env.cells.lookup p.1=some p.2/\iL env r
theorem iL.all : ∀{cl:List (Str×Addr)},iL env cl->∀p∈cl,env.cells.lookup p.1=some p.2
 |[],_,p,hp=>by simp at hp
 |_::_,h,p,hp=>(Φ.mp hp).elim (fun e=>e ▸ h.1) (iL.all h.2 p)
theorem iL.at(h:iL env cl)(e:cl.lookup x=some c):env.cells.lookup x=some c :=
 h.all (x,c) (jr e)
def rZ (X:Cx) (scope:Scope) (cl:List (Str×Addr)):List Str->List Nat->Prop
 |[],[]=>True
 |y::ys,j::js=>(X.N[j]?=some y/\X.env.kindOf y=some .cell/\(relabel scope X.env).names.lookup y=some .cell/\∃c,cl.lookup y=some c)/\rZ X scope cl ys js
 |_,_=>False
theorem rZ.get : ∀{ys:List Str}{js:List Nat}{k:Nat}{y:Str},rZ X scope cl ys js->ys[k]?=some y →
  ∃j,js[k]?=some j/\X.N[j]?=some y/\X.env.kindOf y=some .cell/\(relabel scope X.env).names.lookup y=some .cell/\∃c,cl.lookup y=some c
 |[],[],k,y,_,e=>by simp at e
 |y'::ys,j::js,0,y,h,e=>by
  simp at e;subst e;exact⟨j,rfl,h.1⟩
 |y'::ys,j::js,k+1,y,h,e=>by
  obtain⟨j',e1,r⟩:=rZ.get (k:=k) h.2 (by simpa using e);exact⟨j',by simpa using e1,r⟩
 |[],_::_,_,_,h,_=>h.elim
 |_::_,[],_,_,h,_=>h.elim
theorem rZ.len : ∀{ys:List Str}{js:List Nat},rZ X scope cl ys js->ys.length=js.length
 |[],[],_=>rfl
 |_::_,_::_,h=>by rw[ii,ii,rZ.len h.2]
 |[],_::_,h=>h.elim
 |_::_,[],h=>h.elim
def hZ (k:Nat) (js:List Nat) (σ:St):St:=vo k none++js.map fun j=>σ.getD j none
def PIf (X:Cx) (ifs:List Expr) (t:TT):Prop :=
 ∀(pins:List (Addr×Obj)) (s:ξ) (σ:St) (H:Hp) (Q:Bool->Hp->Prop),Inv X pins σ H s->t σ H Q →
  ik (ir X.prog X.w) X.A (forIn ifs true fun c r=>if r=true then do let ok ←isTrue c X.env (eval c X.env);pure (uy ok) else pure (uy r)) (TP X pins σ Q) X.xe s
def tYes:TT:=fun _ H Q=>Q true H
theorem qB : PIf X [] tYes:=fun _ _ _ H _ I h=>wpAny_tests_nil ⟨H,I,h⟩
theorem aOk(h:PT X c t):PIf X [c] t:=fun pins s σ H Q I hq=>wpAny_tests_one (h pins s σ H Q I hq)
theorem Inv.nsys(I:Inv X pins σ H s):s.heap.objs.size≠ly:=fun z=>by
 have h:ip<s.heap.objs.size:=(I.mod.glob.keeps I.bk).lt;rw[z]at h;exact absurd h (by decide)
def mC (J:It) (k:Nat) (js:List Nat) (g:TG) (tc:TT) (te:TE) (σ:St) (Q:VK) (H1:Hp):Prop :=
 ∃W:Nat->Nat->St->List V->Hp->Prop,(∃m,W 0 m (hZ k js σ) [] H1)/\∀i m σ' xs H',W i m σ' xs H' →
  (J.stop i H'/\∀p,H' p=none->p≠ly->Q (.ref p) (upd H' p (.lst xs))) ∨
  (J.go i H'/\xs.length<ρ/\∃N:St->List V->Hp->Prop,(∀σ' ys H',N σ' ys H'->∃m',m'<m/\W (i+1) m' σ' ys H') ∧
   ∀x H2,J.yld i H' x H2->g x σ' H2 fun σ3 H3=>tc σ3 H3 fun b H4=>if b=true then te σ3 H4 fun v H5=>N σ3 (xs++[v]) H5 else N σ3 xs H4)
def tComp (wi:TI) (k:Nat) (js:List Nat) (g:TG) (tc:TT) (te:TE):TE:=fun σ H Q=>wi σ H fun J H1=>mC J k js g tc te σ Q H1
section
variable {prog:jy}{w:mf}{A:kg}{R:Result->ξ->Prop}{s:ξ}
theorem tZ{iter:Expr}{acc:Value}(I:Nat->ξ->Prop)
  (turn:∀n s,I n s->ik (ir prog w) A (pyNext it) (fun r s₁=>match r with
   |none=>R (.ok .next) s₁
   |some v=>ik (ir prog w) A (xg target it v) (fun _ s₀=>ik (ir prog w) A (assign target env v) (fun _ s₂ =>
     ik (ir prog w) A (forIn ifs true fun c r=>if r=true then do let ok ←isTrue c env (eval c env);pure (uy ok) else pure (uy r)) (fun ok s₃ =>
      if ok=true then ik (ir prog w) A (eval elt env) (fun x s₄ =>
       ik (ir prog w) A (call (.builtin "list.append") [acc,x]) (fun _ s₅=>∃m,m<n/\I m s₅) (fun _ _=>False) s₄) (fun _ _=>False) s₃
      else ∃m,m<n/\I m s₃) (fun _ _=>False) s₂) (fun _ _=>False) s₀) (fun _ _=>False) s₁) (fun _ _=>False) s)
  (n:Nat)(h:I n s):wd (ir prog w) A (.compLoop (.ListComp elt [⟨target,iter,ifs,0⟩] scope pos) 0 it acc env) R s:=by
 refine codeAny_loop rfl I (fun n s hI=>?_) n h;show ik _ A ((compTurn (.ListComp elt [⟨target,iter,ifs,0⟩] scope pos) 0 it acc env).onRaise (fun x=>do noteFrame x env;theTreesLotGoes x)) _ _ s;refine wpAny_noted ?_;rw[compTurn_list];refine ζ (vc (ζ (kj (turn n s hI) (fun r s₁ h₁=>?_) fun _ _ z=>jl z)));cases r with
 |none=>exact Γ h₁
 |some v =>
  refine ζ (kj h₁ (fun _ s₀ h₀=>?_) fun _ _ z=>jl z);refine ζ (kj h₀ (fun _ s₂ h₂=>ζ (kj h₂ (fun ok s₃ h₃=>?_) fun _ _ z=>jl z)) fun _ _ z=>jl z);cases ok with
  |false=>exact Γ ⟨rfl,h₃⟩
  |true =>
   exact ζ (ζ (kj h₃ (fun x s₄ h₄=>ζ (kj h₄ (fun _ s₅ h₅=>Γ (Γ ⟨rfl,h₅⟩)) fun _ _ z=>jl z)) fun _ _ z=>jl z))
end
theorem HOk.but{H:Hp}{h':kq}(x:HOk P w H h)(hn:H C=none)(k:∀b o,b≠C->h.get? b=some o->h'.get? b=some o):HOk P w H h':=fun b u e =>
 (x b u e).stay (fun c v hc q=>k c v (by
  rcases hc with z|z
  ·intro y;rw[←z,y,hn]at e;cases e
  ·intro y;rw[y,hn]at z;cases z) q) (fun _ q=>q) fun _ _ q=>q
theorem HOk.track{H:Hp}(x:HOk P w H h)(hn:H a=none)(new:vC P w (upd H a o) h a o):HOk P w (upd H a o) h:=fun b u e=>by
 by_cases hb:b=a
 ·subst hb;rw[jQ]at e;cases e;exact new
 ·rw[jZ hb]at e;exact(x b u e).stay (fun _ _ _ q=>q) (fun c q=>by rw[jZ (jL q hn)];exact q) fun c xs q=>by rw[jZ (jL q hn)];exact q
section
variable {X:Cx}{elt tg iter:Expr}{ifs:List Expr}{scope:Scope}{cl:List (Str×Addr)}{ts ys:List Str}{js:List Nat}{pos:Pos}{wi:TI}{g:TG}{tc:TT}{te:TE}
theorem aHl{i:Nat}(h:(hZ k js σ)[i]?=some (some v)):∃n j,i=k+n/\js[n]?=some j/\σ[j]?=some (some v):=by
 unfold hZ at h
 by_cases hi:i<k
 ·rw[iz (by simpa using hi),xq]at h
  split at h <;> cases h
 ·rw[ij (by simpa using hi),iq,oo]at h;cases e:js[i-k]? with
  |none=>rw[e]at h;cases h
  |some j =>
   rw[e]at h;have h' : σ.getD j none=some v:=lr h;refine⟨i-k,j,by omega,e,?_⟩;rw[ω]at h';cases q : σ[j]? with
   |none=>rw[q]at h';cases h'
   |some o=>rw[q]at h';exact congrArg some h'
theorem aBj{s:ξ}{fp:List Addr}{C:Addr}{h1:kq}{t':Nat}(I:Inv X pins σ H s)(hsub:iL X.env cl)(hcap:rZ X scope cl ys js)
  (hkind:scope.kind=.function)(hhas:∀x,((relabel scope X.env).names.lookup x=some .cell\/(relabel scope X.env).names.lookup x=some .free)->∃c,cl.lookup x=some c)
  (f2:∀b∈fp,dZ X pins H b)(fl:∀b∈fp,b<s.heap.objs.size)(hC:s.heap.objs.size<=C)(hn:h1.Ns C m)(old:∀b o,s.heap.get? b=some o->h1.get? b=some o):
  Inv (X.comp scope cl (ts++ys) s H fp C) [] (hZ ts.length js σ) H { s with heap:=h1,toks:=t' }:=by
 obtain⟨mo,hno,hlo⟩:=id I.loc;refine⟨⟨I.ok.mod,hkind,I.ok.glob,I.ok.blt,hC,fun x y c e1 e2=>I.ok.inj x y c (hsub.at e1) (hsub.at e2),fun x hx=>hhas x hx,fun x c z _=>(by cases z),I.ok.hd,I.ok.frames,.inl rfl,
   fun b hb=>⟨jb (ς (fl b hb) hC),fun x c e=>(f2 b hb).2.2.2.2.1 x c (hsub.at e)⟩,I.bs,Θ I.ok.bsz I.sz,fun b o e hb=>?_,fun b hb z=>?_,I.stack,I.stkFree⟩,
  rfl,I.bare,Un.kept old,⟨m,hn,fun i x v e1 e2 e3=>?_⟩,fun x c e=>?_,I.hok.fresh hC,fun x c e=>I.freeC x c (hsub.at e),fun p hp=>absurd (show p∈([]:List (Addr×Obj)) from hp) (by simp),I.hok.kept old,?_⟩
 ·-- an object of the base is none of the iterator's
  obtain⟨_,_,_,h3,_⟩:=f2 b hb;rcases h3 with z|z
  ·exact I.ok.noex b o e z
  ·exact absurd (ς (io e) (Θ I.ok.bsz z)) (qm _)
 ·obtain⟨_,h1',h2',_⟩:=f2 b hb;rcases Φ.mp (I.stkSub b z) with e|e
  ·exact h1' e
  ·exact h2' e
 ·obtain⟨n,j,rfl,ej,es⟩:=aHl e2;have ey:ys[n]?=some x:=by
   have e1':(ts++ys)[ts.length+n]?=some x:=e1;rw[ij (by omega)]at e1';simpa using e1'
  obtain⟨j',ej',hN,hk,hr,c,hc⟩:=hcap.get ey;rw[ej]at ej';cases ej';obtain⟨u,ru,l⟩:=hlo j x v hN es (.inr (.inl hk));refine⟨u,ru,.inr ⟨.inl hr,c,hc,?_⟩⟩;rcases l with⟨k1,_⟩|⟨_,c',hc',⟨o,ho,hd⟩⟩
  ·rw[hk]at k1;cases k1
  ·have:=hsub.at hc;rw[hc']at this;cases this;exact⟨o,old _ o ho,hd⟩
 ·obtain⟨v,o,ho,hd⟩:=I.cell x c (hsub.at e);exact⟨v,o,old _ o ho,hd⟩
 ·show(hZ ts.length js σ).length=(ts++ys).length;unfold hZ;rw[ι,ι,oo,δ,hcap.len]
theorem aJy{H3:Hp}{s4:ξ}{fp:List Addr}{D:Addr}(I2:Inv X pins σ H2 s2)(f2:∀b∈fp,dZ X pins H2 b)
  (I4:Inv (X.comp scope cl N s2 H2 fp C) pins' σ' H3 s4)(hC:s2.heap.objs.size<=C)(hD:s2.heap.objs.size<=D)(hDC:D≠C)(hs':oh C s4.heap h')(rv:kN xs its)(hz:xs.length<=ρ)(e4:s4.heap.get? D=some { cls:=.type "list",data:=.seq its.toArray n })(hn:H3 D=none):
  Inv X pins σ (upd H3 D (.lst xs)) { s4 with heap:=h' }:=by
 have ext:=hs'.extBut;have neC:∀b o,s2.heap.get? b=some o->b≠C:=fun b o e=>jb (ς (io e) hC);have neD:∀b o,s2.heap.get? b=some o->b≠D:=fun b o e=>jb (ς (io e) hD);have hok:HOk X.prog X.w (upd H3 D (.lst xs)) h':=by
  have h1:HOk X.prog X.w H3 h':=HOk.but (C:=C) I4.hok I4.free fun b o hb e=>ext b o hb e;exact HOk.track h1 hn ⟨hz,its,n,rv,ext D _ hDC e4⟩
 have B:Un (frs X.stack) fp H2 H3 s2.heap s4.heap:=I4.base;have u:Un (frs X.stack) fp H2 (upd H3 D (.lst xs)) s2.heap h':=by
  refine⟨fun b o e q hb hx=>ext b o (neC b o e) (B.keep b o e q hb hx),fun b o e q hb hx=>?_,fun b o e q hx=>?_,fun b o e hx=>?_,fun b ys q=>?_,fun b o ys q=>?_,fun b ps q=>?_⟩
  ·obtain⟨sl,e1⟩:=B.slot b o e q hb hx;exact⟨sl,ext b _ (neC b o e) e1⟩
  ·rw[jZ (neD b o e)];exact B.free b o e q hx
  ·obtain⟨o',e1⟩:=B.there b o e hx;exact⟨o',ext b _ (neC b o e) e1⟩
  ·have:=B.tups b ys q;rw[jZ (jL this hn)];exact this
  ·have:=B.frzs b o ys q;rw[jZ (jL this hn)];exact this
  ·obtain⟨m1,e1⟩:=B.tbls b ps q;exact⟨m1,by rw[jZ (jL e1 hn)];exact e1⟩
 have os:s4.os=s2.os:=I4.os;have gb:=I4.bare;obtain⟨hh,gg,dd,tt,os'⟩:=s4;obtain rfl:os'=s2.os:=os;have fin:=I2.call (h':=h') (g':=gg) (d':=dd) (t':=tt) (ch:=fp) u hok gb fun b hb=>⟨(f2 b hb).2.2.2.1,(f2 b hb).2.1,(f2 b hb).2.2.2.2.1,(f2 b hb).2.2.2.2.2⟩;exact fin
theorem qC(ts ys:List Str)(js:List Nat)(hc:X.calm=true)(hi:PI X tg iter wi)(hclos:closureFor scope X.env=pure cl)(hsub:iL X.env cl)(hcap:rZ X scope cl ys js)
  (hg:∀s H fp C,PG (X.comp scope cl (ts++ys) s H fp C) tg g)(ht:∀s H fp C,PIf (X.comp scope cl (ts++ys) s H fp C) ifs tc)(he:∀s H fp C,PE (X.comp scope cl (ts++ys) s H fp C) elt te)
  (hkind:scope.kind=.function:=by rfl)(hcell:(scope.names.all fun y=>y.2 != .cell)=true:=by rfl)
  (hnames:(scope.names.all fun y=>y.2 != .local||scope.names.lookup y.1 == some .local)=true:=by rfl)
  (hhas:((relabel scope X.env).names.all fun p=>(p.2 != .cell&&p.2 != .free)||(cl.lookup p.1).isSome)=true:=by rfl)
  (hs:∀x,ya iter X.env x=pure x:=by intro _;rfl):PE X (.ListComp elt [⟨tg,iter,ifs,0⟩] scope pos) (tComp wi ts.length js g tc te):=by
 intro pins s σ H Q I h;have hcell':∀y∈scope.names,y.2≠.cell:=fun y hy z=>by
  have:=ji.mp hcell y hy;rw[z]at this;exact absurd this (by decide)
 have hnames':∀y∈scope.names,y.2=.local->scope.names.lookup y.1=some .local:=fun y hy z=>by
  have:=ji.mp hnames y hy;rw[z]at this;simpa using this
 have hhas':∀x,((relabel scope X.env).names.lookup x=some .cell\/(relabel scope X.env).names.lookup x=some .free)->∃c,cl.lookup x=some c:=fun x hx=>by
  rcases hx with hx|hx
  ·have:=ji.mp hhas _ (jr hx);exact qo.mp (by simpa using this)
  ·have:=ji.mp hhas _ (jr hx);exact qo.mp (by simpa using this)
 rw[eval_ListComp];refine wpAny_comprehension_free (use:=none) rfl hs hclos hkind hnames' (thn (hi pins s σ H _ I h) fun v s1 h1=>thn h1 fun itv s2 h2=>?_);obtain⟨it,fp,tn,J,H2,e,I2,T,st2,f2,W,⟨m0,w0⟩,turn⟩:=h2;subst e;have fl:∀b∈fp,b<s2.heap.objs.size:=fun b hb=>by
  obtain⟨o,e,_⟩:=T.obj _ _ st2 b hb;exact io e
 refine vi (wpAny_newFunctionEnv hcell' (by intro y hy;simp at hy) (fun h₁ hns₁ hsb₁=>?_) hkind);dsimp only at hns₁ hsb₁ ⊢;generalize hHH:s2.heap.push { cls:=.type "list",dict:=none,data:=.seq ([]:List Value).toArray }=HH at hns₁ hsb₁ ⊢;have hC:HH.objs.size=s2.heap.objs.size+1:=by rw[←hHH,pq]
 have hDC:s2.heap.objs.size≠HH.objs.size:=by rw[hC];exact jb (we _)
 have hCle:s2.heap.objs.size<=HH.objs.size:=by rw[hC];exact qv _
 have old:∀b o,s2.heap.get? b=some o->h₁.get? b=some o:=fun b o e =>
  hsb₁.extBut b o (jb (ς (io e) hCle)) (π _ (hHH ▸ π _ e))
 have hacc:h₁.get? s2.heap.objs.size=some { cls:=.type "list",data:=.seq ([]:List Value).toArray }:=hsb₁.extBut _ _ hDC (π _ (hHH ▸ iu _ rfl));have nofs:∀b,s2.heap.objs.size<=b->b∉frs X.stack:=fun b hb z=>by
  rcases Φ.mp (I2.stkSub b z) with e|e
  ·exact absurd (ς I2.lt (e ▸ hb)) (qm _)
  ·exact I2.nofs hb e
 have nocell:∀b,s2.heap.objs.size<=b->∀x c,cl.lookup x=some c->c≠b:=fun b hb x c e z=>by
  obtain⟨v,q⟩:=I2.cell x c (hsub.at e);exact absurd (ς q.lt (z ▸ hb)) (qm _)
 have I':Inv (X.comp scope cl (ts++ys) s2 H2 fp HH.objs.size) [] (hZ ts.length js σ) H2 { s2 with heap:=h₁,toks:=s2.toks+([]:List (Str×Value)).length } :=
  aBj I2 hsub hcap hkind hhas' f2 fl hCle hns₁ old
 have addPin:∀{σ':St}{H':Hp}{s':ξ}{o:Obj},Inv (X.comp scope cl (ts++ys) s2 H2 fp HH.objs.size) [] σ' H' s'->s'.heap.get? s2.heap.objs.size=some o->H' s2.heap.objs.size=none->(∀v,o.data≠.cell v) →
   Inv (X.comp scope cl (ts++ys) s2 H2 fp HH.objs.size) [(s2.heap.objs.size,o)] σ' H' s':=fun {σ' H' s' o} J e n d=>J.pins_of fun p hp=>by
  have e':p=(s2.heap.objs.size,o):=by simpa using hp
  subst e';exact⟨e,n,hDC,nofs _ (ν _),d⟩
 have stat:∀{pins':List (Addr×Obj)}{H':Hp},(∀p∈pins',p.1=s2.heap.objs.size)->(∀b∈fp,H' b=none)->∀b∈fp,dZ (X.comp scope cl (ts++ys) s2 H2 fp HH.objs.size) pins' H' b:=fun {pins' H'} hp hn b hb =>
  ⟨hn b hb,jb (ς (fl b hb) hCle),I'.ok.exfs b hb,.inl hb,(I'.ok.exf b hb).2,fun p hq z=>by
   have hq':p∈pins':=by simpa using hq
   exact absurd (fl b hb) (by rw[←z,hp p hq'];exact qm _)⟩
 have tn1:tn 0 h₁:=T.keep _ _ _ st2 fun b _ o e=>old b o e;have loop:∀s₃ : ξ,s₃ = { s2 with heap:=h₁,toks:=s2.toks+([]:List (Str×Value)).length } →
   wd (ir X.prog X.w) X.A (.compLoop (.ListComp elt [⟨tg,iter,ifs,0⟩] scope pos) 0 (.ref it) (.ref s2.heap.objs.size) (compEnvC scope cl HH.objs.size X.env))
    (compPost (ir X.prog X.w) X.A X.xe none (EP X pins σ Q) (.ref s2.heap.objs.size) HH.objs.size) s₃:=by
  rintro s₃ rfl;refine tZ (fun n s'=>∃i σ' xs H' its nn,Inv (X.comp scope cl (ts++ys) s2 H2 fp HH.objs.size) [] σ' H' s'/\kN xs its/\xs.length<=ρ/\s'.heap.get? s2.heap.objs.size=some { cls:=.type "list",data:=.seq its.toArray nn }/\H' s2.heap.objs.size=none ∧
   tn i s'.heap/\(∀b∈fp,H' b=none)/\W i n σ' xs H') ?_ m0 ⟨0,_,[],H2,[],0,I',.nil,iy _,hacc,I2.hok.fresh (ν _),tn1,fun b hb=>(f2 b hb).1,w0⟩
  rintro n s3 ⟨i,σ3,xs,H3,its,nn,I3,rv,hz3,ac3,nD3,st3,fr3,w3⟩;have nd:∀v,({ cls:=.type "list",data:=.seq its.toArray nn } : Obj).data≠.cell v:=fun v z=>by
   have z':Data.seq its.toArray nn=Data.cell v:=z;cases z'
  have I3p:=addPin I3 ac3 nD3 nd;have pinD:∀p∈[(s2.heap.objs.size,({ cls:=.type "list",data:=.seq its.toArray nn } : Obj))],p.1=s2.heap.objs.size:=fun p hp=>by
   rw[Ψ]at hp;rw[hp]
  rcases turn i n σ3 xs H3 w3 with⟨stop,qn⟩|⟨go,hz,N,hN,step⟩
  ·refine thn (T.done (X.comp scope cl (ts++ys) s2 H2 fp HH.objs.size) rfl rfl rfl hc i _ s3 σ3 H3 (fun _ _=>False) I3p (stat pinD fr3) st3 stop) fun r s4 zq=>?_;obtain⟨hr,I4⟩:=zq;subst hr;obtain⟨m,hn,_⟩:=I4.loc;have ac4:=(I4.pin _ (jh _ (Ψ.mpr rfl))).1;exact⟨m,hn,fun h' hs'=>⟨.ref s2.heap.objs.size,_,aJy I2 f2 I4 hCle (ν _) hDC hs' rv hz3 ac4 nD3,rfl,qn _ nD3 I2.nsys⟩⟩
  ·refine thn (T.item (X.comp scope cl (ts++ys) s2 H2 fp HH.objs.size) rfl rfl rfl hc i _ s3 σ3 H3 (fun _ _=>False) I3p (stat pinD fr3) st3 go) fun r s4 zq=>?_;obtain⟨u,hr,h4⟩:=zq;subst hr;refine thn h4 fun _ s5 zq=>?_;obtain⟨x,H5,I5,r5,y5,st5,fr5⟩:=zq;have I5':=I5.pinned (stat pinD fr5) (T.obj _ _ st5);refine thn (hg _ _ _ _ _ s5 σ3 H5 x u _ I5' r5 (step x H5 y5)) fun _ s6 zq=>?_;obtain⟨σ6,H6,I6,q6⟩:=zq;refine thn (ht _ _ _ _ _ s6 σ6 H6 _ I6 q6) fun b s7 zq=>?_;obtain⟨H7,I7,q7⟩:=zq;have facts:∀{σ':St}{H':Hp}{s':ξ},Inv (X.comp scope cl (ts++ys) s2 H2 fp HH.objs.size) ([(s2.heap.objs.size,({ cls:=.type "list",data:=.seq its.toArray nn } : Obj))]++dO fp s5.heap) σ' H' s' →
     s'.heap.get? s2.heap.objs.size=some { cls:=.type "list",data:=.seq its.toArray nn }/\H' s2.heap.objs.size=none/\tn (i+1) s'.heap/\(∀b∈fp,H' b=none):=fun {σ' H' s'} J=>by
    have p1:=J.pin (s2.heap.objs.size,({ cls:=.type "list",data:=.seq its.toArray nn } : Obj)) (by simp);refine⟨p1.1,p1.2.1,T.keep _ _ _ st5 fun b hb o e=>(J.pin (b,o) (jh _ (jh _ (yM hb e)))).1,fun b hb=>?_⟩;obtain⟨o,e,d⟩:=T.obj _ _ st5 b hb;exact(J.pin (b,o) (jh _ (jh _ (yM hb e)))).2.1
   have bare:∀{σ':St}{H':Hp}{s':ξ},Inv (X.comp scope cl (ts++ys) s2 H2 fp HH.objs.size) ([(s2.heap.objs.size,({ cls:=.type "list",data:=.seq its.toArray nn } : Obj))]++dO fp s5.heap) σ' H' s' →
     Inv (X.comp scope cl (ts++ys) s2 H2 fp HH.objs.size) [] σ' H' s':=fun J=>J.pins_of fun p hp=>absurd hp (by simp)
   cases b with
   |false =>
    have q7':N σ6 xs H7:=by simpa using q7
    obtain⟨m',hm,w7⟩:=hN _ _ _ q7';obtain⟨a1,a2,a3,a4⟩:=facts I7;show ∃m,m<n/\_;exact⟨m',hm,i+1,σ6,xs,H7,its,nn,bare I7,rv,hz3,a1,a2,a3,a4,w7⟩
   |true =>
    have q7':te σ6 H7 fun v H5=>N σ6 (xs++[v]) H5:=by
     rw[if_pos rfl]at q7;exact q7
    show ik _ _ (eval elt _) _ _ s7;refine thn (he _ _ _ _ _ s7 σ6 H7 _ I7 q7') fun xv s8 zq=>?_;obtain⟨v,H8,I8,r8,n8⟩:=zq;obtain⟨m',hm,w8⟩:=hN _ _ _ n8;obtain⟨a1,a2,a3,a4⟩:=facts I8;have hl:=rv.length;refine vp F.slot_list_append ⟨_,a1,rfl⟩ F.entry_list_append (F.args_list_append_2 _ _) (PySem.list_append s2.heap.objs.size its.toArray nn xv (by rw[τ];omega)) ⟨a1,?_⟩;obtain⟨n9,q9⟩ : ∃n9,(s8.heap.update s2.heap.objs.size (Obj.mapSeq fun a=>a.push xv)).get? s2.heap.objs.size=some { cls:=.type "list",data:=.seq (its++[xv]).toArray n9 } :=
     ⟨_,by rw[show(its++[xv]).toArray=its.toArray.push xv by simp];exact PySem.IsL.update a1 (fun a=>a.push xv)⟩
    have I9:Inv (X.comp scope cl (ts++ys) s2 H2 fp HH.objs.size) [] σ6 H8 { s8 with heap:=s8.heap.update s2.heap.objs.size (Obj.mapSeq fun a=>a.push xv),toks:=s8.toks } :=
     (bare I8).turned (it:=s2.heap.objs.size) (fun b o hb e=>(lp s8.heap _ (lu hb)).trans e) a2 hDC (.inr (ν _)) (nocell _ (ν _)) fun p hp=>absurd (show p∈([]:List (Addr×Obj)) from hp) (by simp)
    refine⟨m',hm,i+1,σ6,xs++[v],H8,its++[xv],n9,I9,rv.append (.cons r8 .nil),?_,q9,a2,?_,a4,w8⟩
    ·rw[ι,ki];omega
    ·exact T.keep _ _ _ a3 fun b hb o e=>(lp s8.heap _ (lu (jb (fl b hb)))).trans e
 exact codeAny_compStart_list (loop _ rfl) (T.self _ 0 _ _ _ tn1 (loop _ rfl))
end
abbrev vX (js:List Nat) (σ:St):St:=js.map fun j=>σ.getD j none
def zW (P:Nat->List V->Hp->Prop) (i:Nat) (js:List Nat) (σ:St):St->List V->Hp->Prop:=fun σ' ys H=>P (i+1) ys H/\∃o,σ'=o::vX js σ
theorem xW{K:υ}{xs:List V}{k:Nat}{tc:TT}{te:TE}{Q:VK}(P:Nat->List V->Hp->Prop)(h0:P 0 [] H1)(hl:∀i ys H,i<=xs.length->P i ys H->SqL K H a xs/\ys.length<=i)(hz:xs.length<ρ)
  (hs:∀i x ys H,xs[i]?=some x->P i ys H->tc (some x::vX js σ) H fun b H2=>if b=true then te (some x::vX js σ) H2 fun v H3=>zW P i js σ (some x::vX js σ) (ys++[v]) H3 else zW P i js σ (some x::vX js σ) ys H2)
  (hd:∀ys H,P xs.length ys H->∀p,H p=none->Q (.ref p) (upd H p (.lst ys)))(hk:k=1:=by rfl):
  mC (Itl K a) k js (aQ 0) tc te σ Q H1:=by
 subst hk;refine⟨fun i m σ' ys H=>m=xs.length-i/\i<=xs.length/\P i ys H/\∃o,σ'=o::vX js σ,⟨xs.length,by simp,iy _,h0,none,rfl⟩,?_⟩;rintro i m σ' ys H ⟨rfl,hi,p,o,rfl⟩;obtain⟨q,hy⟩:=hl i ys H hi p
 by_cases hlt:i<xs.length
 ·refine .inr ⟨⟨xs,xs[i],q,by simp[hlt]⟩,by omega,zW P i js σ,fun σ3 zs H3 z=>⟨xs.length-(i+1),by omega,rfl,hlt,z.1,z.2⟩,fun x H' y=>?_⟩;obtain⟨e,y⟩:=y;subst e;exact hs i x ys _ (y xs q) p
 ·have e:i=xs.length:=by omega
  subst e;exact .inl ⟨⟨xs,q,ν _⟩,fun l n _=>hd ys H p l n⟩
theorem aBa{K:υ}{xs:List V}{k:Nat}{tc:TT}{te:TE}{Q:VK}(P:Nat->List V->Hp->Prop)(h0:P 0 [] H1)(hl:∀i ys H,i<=xs.length->P i ys H->SqT K H a xs/\ys.length<=i)(hz:xs.length<ρ)
  (hs:∀i x ys H,xs[i]?=some x->P i ys H->tc (some x::vX js σ) H fun b H2=>if b=true then te (some x::vX js σ) H2 fun v H3=>zW P i js σ (some x::vX js σ) (ys++[v]) H3 else zW P i js σ (some x::vX js σ) ys H2)
  (hd:∀ys H,P xs.length ys H->∀p,H p=none->Q (.ref p) (upd H p (.lst ys)))(hk:k=1:=by rfl):
  mC (Itt K a) k js (aQ 0) tc te σ Q H1:=by
 subst hk;refine⟨fun i m σ' ys H=>m=xs.length-i/\i<=xs.length/\P i ys H/\∃o,σ'=o::vX js σ,⟨xs.length,by simp,iy _,h0,none,rfl⟩,?_⟩;rintro i m σ' ys H ⟨rfl,hi,p,o,rfl⟩;obtain⟨q,hy⟩:=hl i ys H hi p
 by_cases hlt:i<xs.length
 ·refine .inr ⟨⟨xs,xs[i],q,by simp[hlt]⟩,by omega,zW P i js σ,fun σ3 zs H3 z=>⟨xs.length-(i+1),by omega,rfl,hlt,z.1,z.2⟩,fun x H' y=>?_⟩;obtain⟨e,y⟩:=y;subst e;exact hs i x ys _ (y xs q) p
 ·have e:i=xs.length:=by omega
  subst e;exact .inl ⟨⟨xs,q,ν _⟩,fun l n _=>hd ys H p l n⟩
theorem yW{lo:Int}{n:Nat}{k:Nat}{tc:TT}{te:TE}{Q:VK}(P:Nat->List V->Hp->Prop)(h0:P 0 [] H1)(hl:∀i ys H,i<=n->P i ys H->ys.length<=i)(hz:n<ρ)
  (hs:∀i ys H,i<n->P i ys H->tc (some (.int (lo+i))::vX js σ) H fun b H2=>if b=true then te (some (.int (lo+i))::vX js σ) H2 fun v H3=>zW P i js σ (some (.int (lo+i))::vX js σ) (ys++[v]) H3 else zW P i js σ (some (.int (lo+i))::vX js σ) ys H2)
  (hd:∀ys H,P n ys H->∀p,H p=none->Q (.ref p) (upd H p (.lst ys)))(hk:k=1:=by rfl):
  mC (Itr lo n) k js (aQ 0) tc te σ Q H1:=by
 subst hk;refine⟨fun i m σ' ys H=>m=n-i/\i<=n/\P i ys H/\∃o,σ'=o::vX js σ,⟨n,by simp,iy _,h0,none,rfl⟩,?_⟩;rintro i m σ' ys H ⟨rfl,hi,p,o,rfl⟩;have hy:=hl i ys H hi p
 by_cases hlt:i<n
 ·refine .inr ⟨hlt,by omega,zW P i js σ,fun σ3 zs H3 z=>⟨n-(i+1),by omega,rfl,hlt,z.1,z.2⟩,fun x H' y=>?_⟩;obtain⟨e,y⟩:=y;subst e;subst y;exact hs i ys _ hlt p
 ·have e:i=n:=by omega
  subst e;exact .inl ⟨ν _,fun l n _=>hd ys H p l n⟩
section
variable {X:Cx}
theorem aEx(K:υ)(h:X.K=K):IxR X (rIxT K):=h ▸ jV
theorem aAr(K:υ)(h:X.K=K):IxR X (aGp K):=h ▸ jW
end
section
variable {κ : Type} [DecidableEq κ]
def zX (kvs:List (κ×V)) (k : κ):Option V:=(kvs.find? fun kv=>decide (kv.1=k)).map (·.2)
def putK (kvs:List (κ×V)) (k : κ) (v:V):List (κ×V) :=
 if (kvs.any fun kv=>decide (kv.1=k))=true then kvs.map (fun kv=>if kv.1=k then (kv.1,v) else kv) else kvs++[(k,v)]
def aOx (kvs:List (κ×V)) (k : κ):List (κ×V):=kvs.filter fun kv=>decide (kv.1≠k)
theorem pD{p: κ×V}{r:List (κ×V)}{k: κ}(e:p.1=k):zX (p::r) k=some p.2:=by simp[zX,uz,e]
theorem pM{p: κ×V}{r:List (κ×V)}{k: κ}(e:¬ p.1=k):zX (p::r) k=zX r k:=by simp[zX,uz,e]
theorem wZ(k : κ):∀kvs:List (κ×V),(kvs.any fun kv=>decide (kv.1=k))=(zX kvs k).isSome
 |[]=>rfl
 |p::r=>by
  rw[zg]
  by_cases e:p.1=k
  ·simp only[pD e,decide_eq_true e,Bool.true_or,Option.isSome_some]
  ·rw[pM e,decide_eq_false e,Bool.false_or];exact wZ k r
theorem aP(kvs:List (κ×V))(k : κ)(v:V):(putK kvs k v).length<=kvs.length+1:=by
 unfold putK
 split
 ·rw[δ];omega
 ·rw[ι,ii,List.length_nil];omega
theorem zT.isSome_eq(r:zT o u):o.isSome=u.isSome:=by
 cases o with
 |none=>cases u with
  |none=>rfl
  |some _=>exact(show False from r).elim
 |some _=>cases u with
  |none=>exact(show False from r).elim
  |some _=>rfl
theorem zT.getD(r:zT o u)(rd:RelV d d'):RelV (o.getD d) (u.getD d'):=by
 cases o with
 |none=>cases u with
  |none=>exact rd
  |some _=>exact(show False from r).elim
 |some _=>cases u with
  |none=>exact(show False from r).elim
  |some _=>exact r
theorem KV.val(r:KV kvs vs)(k : κ):zT (zX kvs k) (xi vs k):=by
 unfold KV at r
 induction r with
 |nil=>exact je
 | @cons p q ps qs h t ih =>
  obtain⟨h1,h2⟩:=h
  by_cases e:p.1=k
  ·have e':q.1=k:=h1.symm.trans e;have b:xi (q::qs) k=some q.2:=by simp[xi,uz,e']
   rw[pD e,b];exact h2
  ·have e':¬ q.1=k:=fun z=>e (h1.trans z);have b:xi (q::qs) k=xi qs k:=by simp[xi,uz,e']
   rw[pM e,b];exact ih
theorem KV.any(r:KV kvs vs)(k : κ):(kvs.any fun kv=>decide (kv.1=k))=vs.any fun kv=>decide (kv.1=k):=by
 unfold KV at r
 induction r with
 |nil=>rfl
 |cons h t ih=>rw[zg,zg,ih,h.1]
theorem KV.repl(r:KV kvs vs)(k : κ)(ry:RelV y u):
  KV (kvs.map fun kv=>if kv.1=k then (kv.1,y) else kv) (vs.map fun kv=>if kv.1=k then (kv.1,u) else kv):=by
 unfold KV at r ⊢
 induction r with
 |nil=>exact .nil
 | @cons p q ps qs h t ih =>
  rw[ju,ju];refine .cons ?_ ih;obtain⟨h1,h2⟩:=h
  by_cases e:p.1=k
  ·rw[if_pos e,if_pos (h1.symm.trans e)];exact⟨h1,ry⟩
  ·rw[if_neg e,if_neg (fun z=>e (h1.trans z))];exact⟨h1,h2⟩
theorem KV.put(r:KV kvs vs)(k : κ)(ry:RelV y u):KV (putK kvs k y) (stored vs k u):=by
 unfold putK stored;rw[r.any k]
 by_cases e:(vs.any fun kv=>decide (kv.1=k))=true
 ·rw[if_pos e,if_pos e];exact r.repl k ry
 ·rw[if_neg e,if_neg e];exact zr.snoc r ⟨rfl,ry⟩
theorem KV.drop(r:KV kvs vs)(k : κ):KV (aOx kvs k) (without vs k):=by
 unfold KV at r ⊢;unfold aOx without
 induction r with
 |nil=>exact .nil
 | @cons p q ps qs h t ih =>
  obtain⟨h1,h2⟩:=h;rw[List.filter_cons,List.filter_cons]
  by_cases e:p.1=k
  ·have a:¬ decide (p.1≠k)=true:=by simp[e]
   have b:¬ decide (q.1≠k)=true:=by simp[h1.symm.trans e]
   rw[if_neg a,if_neg b];exact ih
  ·have e':¬ q.1=k:=fun z=>e (h1.trans z);have a:decide (p.1≠k)=true:=by simp[e]
   have b:decide (q.1≠k)=true:=by simp[e']
   rw[if_pos a,if_pos b];exact .cons ⟨h1,h2⟩ ih
theorem KV.keys{kvs:List (κ×V)}{vs:List (κ×Value)}(r:KV kvs vs):kvs.map (·.1)=vs.map (·.1):=by
 unfold KV at r
 induction r with
 |nil=>rfl
 |cons h t ih=>rw[ju,ju,ih,h.1]
theorem KV.length(r:KV kvs vs):kvs.length=vs.length:=zr.length r
end
theorem oG(r:RelV (kV k) u):(qX P w).is k u=true:=by
 cases k with
 |inl i=>obtain⟨t,e⟩:=(show ∃t,u=Value.int i t from r);subst e;exact aAk P w i t
 |inr x=>obtain⟨t,e⟩:=(show ∃t,u=Value.str x t from r);subst e;exact aAj P w x t
theorem sY : ∀{ks:List Key}{us:List Value},kN (ks.map kV) us->ItemsAre (qX P w) ks us
 |[],_,r=>by rw[List.map_nil]at r;cases r;exact .nil
 |k::ks,_,r=>by
  rw[ju]at r;cases r with
  |cons h t=>exact .cons (oG h) (sY t)
abbrev KT (H:Hp):List (List Key×V)->List (List Key×Addr×Value)->Prop:=zr fun p q=>p.1=q.1/\H q.2.1=some (.tup (p.1.map kV))/\RelV p.2 q.2.2
theorem KT.val(r:KT H kvs xs)(k:List Key):zT (zX kvs k) ((atKey xs k).map (·.2)):=by
 induction r with
 |nil=>exact je
 | @cons p q ps qs h t ih =>
  obtain⟨h1,_,h2⟩:=h
  by_cases e:p.1=k
  ·have e':q.1=k:=h1.symm.trans e;have b:atKey (q::qs) k=some q.2:=by simp[atKey,uz,e']
   rw[pD e,b];exact h2
  ·have e':¬ q.1=k:=fun z=>e (h1.trans z);have b:atKey (q::qs) k=atKey qs k:=by simp[atKey,uz,e']
   rw[pM e,b];exact ih
theorem KT.repl(r:KT H kvs xs)(k:List Key)(ry:RelV y u):
  KT H (kvs.map fun kv=>if kv.1=k then (kv.1,y) else kv) (xs.map (putAt k u)):=by
 induction r with
 |nil=>exact .nil
 | @cons p q ps qs h t ih =>
  rw[ju,ju];refine .cons ?_ ih;obtain⟨h1,h2,h3⟩:=h;unfold putAt
  by_cases e:p.1=k
  ·rw[if_pos e,if_pos (h1.symm.trans e)];exact⟨h1,h2,ry⟩
  ·rw[if_neg e,if_neg (fun z=>e (h1.trans z))];exact⟨h1,h2,h3⟩
theorem KT.put{H:Hp}(r:KT H kvs xs)(k:List Key)(hb:H b=some (.tup (k.map kV)))(ry:RelV y u):
  KT H (putK kvs k y) (storedH xs k b u):=by
 have e:(kvs.any fun kv=>decide (kv.1=k))=(atKey xs k).isSome:=by
  rw[wZ,(r.val k).isSome_eq,Option.isSome_map]
 unfold putK storedH;rw[e]
 by_cases q:(atKey xs k).isSome=true
 ·rw[if_pos q,if_pos q];exact r.repl k ry
 ·rw[if_neg q,if_neg q];exact zr.snoc r ⟨rfl,hb,ry⟩
theorem KT.keeps{H H':Hp}(r:KT H kvs xs)(ht:∀b ys,H b=some (.tup ys)->H' b=some (.tup ys)):KT H' kvs xs :=
 Paired.mapP r fun _ _ z=>⟨z.1,ht _ _ z.2.1,z.2.2⟩
section
variable {P:jy}{w:mf}{H:Hp}{h:kq}{a:Addr}
theorem aOs(ok:HOk P w H h)(e:Rd H a u):vC P w H h a u:=e.ok ok
theorem aCf(ok:HOk P w H h)(e:Rd H a (.dK kvs)):kvs.length<=ρ/\(a == ly)=false/\∃vs,KV kvs vs/\h.DictOf (qX P w) a vs :=
 show vC P w H h a (.dK kvs) from aOs ok e
theorem tG(ok:HOk P w H h)(e:H a=some (.dK kvs)):kvs.length<=ρ/\(a == ly)=false/\∃vs,KV kvs vs/\h.DictOf (qX P w) a vs:=aCf ok (.inl e)
theorem pA{ks:List Key}(ok:HOk P w H h)(e:H a=some (.tup (ks.map kV))):(tupleKind (qX P w)).is h ks a:=by
 obtain⟨_,its,r,o,h1,h2,n,h3⟩:=(show vC P w H h a (.tup (ks.map kV)) from ok a _ e);exact⟨o,its.toArray,n,h1,h2,h3,by simpa using sY r⟩
theorem aAs(ok:HOk P w H h)(e:Rd H a (.dT kvs)):kvs.length<=ρ/\(a == ly)=false ∧
  ∃xs,KT H kvs xs/\h.DictOfH (tupleKind (qX P w)) a xs:=by
 obtain⟨z,y,xs,r,o,es,ep,h1,h2,h3,h4,h5⟩:=(show vC P w H h a (.dT kvs) from aOs ok e);refine⟨z,y,xs,r,o,es,ep,h1,h2,h3,h4,fun x hx=>?_,h5⟩;have all:∀{l:List (List Key×V)}{m:List (List Key×Addr×Value)},KT H l m->∀x∈m,(tupleKind (qX P w)).is h x.1 x.2.1:=by
  intro l m q
  induction q with
  |nil=>intro x hx;exact nomatch hx
  | @cons p q ps qs hq t ih =>
   intro x hx;rcases Φ.mp hx with e|hx
   ·subst e;exact pA ok (by rw[←hq.1];exact hq.2.1)
   ·exact ih x hx
 exact all r x hx
theorem dt_of(ok:HOk P w H h)(e:H a=some (.dT kvs)):kvs.length<=ρ/\(a == ly)=false ∧
  ∃xs,KT H kvs xs/\h.DictOfH (tupleKind (qX P w)) a xs:=aAs ok (.inl e)
end
def cF (H:Hp) (a:Addr) (y:V) (r:Option V):Prop :=
 (∃kvs k,Rd H a (.dK kvs)/\y=kV k/\r=zX kvs k)\/∃kvs k b,Rd H a (.dT kvs)/\y=.ref b/\H b=some (.tup (k.map kV))/\r=zX kvs k
def aHf (H:Hp) (a:Addr) (y v:V) (H':Hp):Prop :=
 (∃kvs k,H a=some (.dK kvs)/\y=kV k/\kvs.length<ρ/\H'=upd H a (.dK (putK kvs k v))) ∨
 ∃kvs k b,H a=some (.dT kvs)/\y=.ref b/\H b=some (.tup (k.map kV))/\kvs.length<ρ/\H'=upd H a (.dT (putK kvs k v))
theorem cF.k{H:Hp}{a:Addr}{kvs:List (Key×V)}{k:Key}(e:H a=some (.dK kvs)):cF H a (kV k) (zX kvs k):=.inl ⟨kvs,k,.inl e,rfl,rfl⟩
theorem cF.t{H:Hp}{k:List Key}(e:H a=some (.dT kvs))(eb:H b=some (.tup (k.map kV))):cF H a (.ref b) (zX kvs k):=.inr ⟨kvs,k,b,.inl e,rfl,eb,rfl⟩
theorem aHf.k{H:Hp}{a:Addr}{kvs:List (Key×V)}{k:Key}{v:V}(e:H a=some (.dK kvs))(hl:kvs.length<ρ):aHf H a (kV k) v (upd H a (.dK (putK kvs k v))):=.inl ⟨kvs,k,e,rfl,hl,rfl⟩
theorem aHf.t{H:Hp}{k:List Key}(e:H a=some (.dT kvs))(eb:H b=some (.tup (k.map kV)))(hl:kvs.length<ρ):
  aHf H a (.ref b) v (upd H a (.dT (putK kvs k v))):=.inr ⟨kvs,k,b,e,rfl,eb,hl,rfl⟩
section
variable {X:Cx}{pins:List (Addr×Obj)}{σ:St}{H:Hp}{s:ξ}{a:Addr}{y v:V}{u r:Value}{o:Option V}{A:kg}{E:Value->ξ->Prop}
theorem Inv.big(I:Inv X pins σ H s):ly<s.heap.objs.size:=by
 have h:ip<s.heap.objs.size:=(I.mod.glob.keeps I.bk).lt;exact yf (by decide) h
theorem aHa{Q:Value->ξ->Prop}(hu:A.units+1<ou)(I:Inv X pins σ H s)(g:cF H a y (some v))(ry:RelV y u)(h:∀w' s',Inv X pins σ H s'->RelV v w'->Q w' s'):
  ik (ir X.prog X.w) A (getItem (.ref a) u) Q E s:=by
 rcases g with⟨kvs,k,e,ey,l⟩|⟨kvs,k,b,e,ey,eb,l⟩
 ·subst ey;obtain⟨z,hd,vs,rel,dd⟩:=aCf I.hok e;obtain⟨w',hw,rw'⟩:=zT.some_of (v:=v) (o:=xi vs k) (by rw[l];exact rel.val k);exact wpAny_getItem_of (oG ry) dd.mapOf hw (h w' _ (I.tok _) rw')
 ·subst ey;cases (show u=iw b from ry);obtain⟨z,hd,xs,rel,dd⟩:=aAs I.hok e;obtain⟨w',hw,rw'⟩:=zT.some_of (v:=v) (o:=(atKey xs k).map (·.2)) (by rw[l];exact rel.val k);obtain⟨p,hp,hp2⟩:=Option.map_eq_some_iff.mp hw;refine wpAny_getItem_heap (xl hu) (pA I.hok eb) dd hp ?_;rw[hp2];exact h w' _ (I.tok _) rw'
theorem d_in{Q:Value->ξ->Prop}(hu:A.units+1<ou)(I:Inv X pins σ H s)(g:cF H a y o)(ry:RelV y u)(h:∀s',Inv X pins σ H s'->Q (.bool o.isSome) s'):
  ik (ir X.prog X.w) A (ky .In u (.ref a)) Q E s:=by
 rcases g with⟨kvs,k,e,ey,l⟩|⟨kvs,k,b,e,ey,eb,l⟩
 ·subst ey;obtain⟨z,hd,vs,rel,dd⟩:=aCf I.hok e;refine wpAny_in_of (oG ry) hd dd.mapOf ?_;rw[←(rel.val k).isSome_eq,←l];exact h _ (I.tok _)
 ·subst ey;cases (show u=iw b from ry);obtain⟨z,hd,xs,rel,dd⟩:=aAs I.hok e;refine wpAny_in_heap (xl hu) (pA I.hok eb) hd dd ?_;have q:=(rel.val k).isSome_eq;rw[Option.isSome_map]at q;rw[←q,←l];exact h _ (I.tok _)
theorem aNz{Q:Value->ξ->Prop}(hu:A.units+1<ou)(I:Inv X pins σ H s)(g:cF H a y o)(ry:RelV y u)(h:∀s',Inv X pins σ H s'->Q (.bool (!o.isSome)) s'):
  ik (ir X.prog X.w) A (ky .NotIn u (.ref a)) Q E s:=by
 rcases g with⟨kvs,k,e,ey,l⟩|⟨kvs,k,b,e,ey,eb,l⟩
 ·subst ey;obtain⟨z,hd,vs,rel,dd⟩:=aCf I.hok e;refine wpAny_notIn_of (oG ry) hd dd.mapOf ?_;rw[←(rel.val k).isSome_eq,←l];exact h _ (I.tok _)
 ·subst ey;cases (show u=iw b from ry);obtain⟨z,hd,xs,rel,dd⟩:=aAs I.hok e;refine wpAny_notIn_heap (xl hu) (pA I.hok eb) hd dd ?_;have q:=(rel.val k).isSome_eq;rw[Option.isSome_map]at q;rw[←q,←l];exact h _ (I.tok _)
theorem gW{t':Nat}(I:Inv X pins σ H s)(mu:Mut (H a))(hs:oh a s.heap h')(he:∃q,h'.get? a=some q)(new:vC X.prog X.w (upd H a ob) h' a ob):
  Inv X pins σ (upd H a ob) { s with heap:=h',toks:=t' } :=
 I.write (x:=a) (e:=a) mu (.inl rfl) (fun b q hb z=>(hs.2 b hb).trans z) he new
theorem uG{h':kq}{kvs:List (Key×V)}(z:kvs.length<=ρ)(hd:(a == ly)=false)(rel:KV kvs vs)(dd:h'.DictOf (qX P w) a vs):
  vC P w H' h' a (.dK kvs):=⟨z,hd,vs,rel,dd⟩
theorem aHj{Q:Unit->ξ->Prop}(hu:A.units+1<ou)(I:Inv X pins σ H s)(g:aHf H a y v H')(ry:RelV y u)(rv:RelV v r)(h:∀s',Inv X pins σ H' s'->Q () s'):
  ik (ir X.prog X.w) A (setItem (.ref a) u r) Q E s:=by
 rcases g with⟨kvs,k,e,ey,l,eH⟩|⟨kvs,k,b,e,ey,eb,l,eH⟩
 ·subst ey eH;obtain⟨z,hd,vs,rel,dd⟩:=tG I.hok e;have hz:vs.length<=ρ:=by rw[←rel.length];exact z
  have hl:(putK kvs k v).length<=ρ:=by have:=aP kvs k v;omega
  refine wpAny_setItem_pairs (hsz:=hz) (oG ry) dd fun h' dd' hs=>h _ ?_;have he:∃q,h'.get? a=some q:=let ⟨q,_,_,hq,_⟩:=dd'; ⟨q,hq⟩;exact gW I (by rw[e];exact je) hs he (uG hl hd (rel.put k rv) dd')
 ·subst ey eH;cases (show u=iw b from ry);obtain⟨z,hd,xs,rel,dd⟩:=dt_of I.hok e;have hz:xs.length<=ρ:=by rw[←zr.length rel];exact z
  have hl:(putK kvs k v).length<=ρ:=by have:=aP kvs k v;omega
  refine wpAny_setItem_heap (hsz:=hz) (xl hu) (pA I.hok eb) dd fun h' dd' hs=>h _ ?_;obtain⟨q,es,ep,hq,h2,h3,h4,_,h5⟩:=dd';refine gW I (by rw[e];exact je) hs ⟨q,hq⟩ ⟨hl,hd,_,(rel.put k eb rv).keeps fun c ys ec=>?_,q,es,ep,hq,h2,h3,h4,h5⟩;rw[jZ (iJ ec e (fun z=>nomatch z))];exact ec
end
def NoSl (i:Expr):Prop:=∀ov iv,subscripted i false ov iv=operate [ov,iv] (getItem ov iv)
theorem aNq{prog:jy}{w:mf}{A:kg}{E:Value->ξ->Prop}{s:ξ}{env:Env}{value slice:Expr}{pos:Pos}{T id:String}{Q:Value->ξ->Prop}
  (hl:typeLookup (.type T) "__getitem__" = pure (some (.builtin id)))(hs:NoSl slice)
  (h:ik (ir prog w) A (eval value env) (fun o s₁=>ik (ir prog w) A (eval slice env) (fun i s₂=>s₂.TypeIs o T/\ik (ir prog w) A (getItem o i) Q E s₂) E s₁) E s):
  ik (ir prog w) A (eval (.Subscript value slice pos) env) Q E s:=by
 refine Subscript_ (kj h (fun o s₁ h₁=>kj h₁ (fun i s₂ h₂=>?_) fun _ _ x=>x) fun _ _ x=>x);obtain⟨hT,h₂⟩:=h₂;unfold subscriptTail;refine ζ ?_;rw[getitemInPython_of_ne hT.not_modules];refine ζ (wpAny_specialOf hT hl ?_);have fin:ik (ir prog w) A (subscripted slice false o i) (fun r s₃=>ik (ir prog w) A (letTemporaryGo value o r >>= fun _=>pure r) Q E s₃) E s₂:=by
  rw[hs o i];exact wpAny_operating (kj h₂ (fun r s₃ h₃=>ζ (wpAny_letTemporaryGo (Γ h₃))) fun _ _ x=>x)
 first
  |exact Γ (ζ fin)
  |exact ζ (Γ (ζ fin))
  |exact ζ fin
theorem aAz(I:Inv X pins σ H s)(g:cF H a y o):s.TypeIs (.ref a) "dict":=by
 rcases g with⟨kvs,k,e,_,_⟩|⟨kvs,k,b,e,_,_,_⟩
 ·obtain⟨_,_,vs,_,dd⟩:=aCf I.hok e;exact dd.typeIs
 ·obtain⟨_,_,xs,_,dd⟩:=aAs I.hok e;exact dd.typeIs
def aPq (td ty:TE):TE:=fun σ H Q=>td σ H fun x H1=>ty σ H1 fun y H2=>∃a v,x=.ref a/\cF H2 a y (some v)/\Q v H2
def tDIn (ty td:TE):TE:=fun σ H Q=>ty σ H fun y H1=>td σ H1 fun x H2=>∃a o,x=.ref a/\cF H2 a y o/\Q (.bl o.isSome) H2
def aOd (ty td:TE):TE:=fun σ H Q=>ty σ H fun y H1=>td σ H1 fun x H2=>∃a o,x=.ref a/\cF H2 a y o/\Q (.bl (!o.isSome)) H2
def sDPut (td ty tv:TE):TS:=fun D σ H=>tv σ H fun v H1=>td σ H1 fun x H2=>ty σ H2 fun y H3=>∃a H4,x=.ref a/\aHf H3 a y v H4/\D.nx σ H4
section
variable {X:Cx}{o i e value:Expr}{pos pos' tpos:Pos}{td ty tv:TE}
theorem iA(hu:X.A.units+1<ou)(ho:PE X o td)(hi:PE X i ty)(hs:NoSl i):PE X (.Subscript o i pos) (aPq td ty):=by
 intro pins s σ H Q I h;refine aNq PySem.F.slot_dict_getitem.lookup hs (thn (ho pins s σ H _ I h) fun u s1 zq=>zq.el fun x H1 I1 rx q1=>thn (hi pins s1 σ H1 _ I1 q1) fun iv s2 zq=>?_);obtain⟨y,H2,I2,ry,a,v,ex,g,q2⟩:=zq;subst ex;obtain rfl:u=iw a:=rx;exact⟨aAz I2 g,aHa hu I2 g ry fun w' s3 I3 rw'=>⟨v,H2,I3,rw',q2⟩⟩
theorem aSa(hu:X.A.units+1<ou)(hi:PE X i ty)(ho:PE X o td):PC X .In i o (tDIn ty td):=by
 intro pins s σ H Q I h;refine thn (hi pins s σ H _ I h) fun iv s1 zq=>zq.el fun y H1 I1 ry q1=>thn (ho pins s1 σ H1 _ I1 q1) fun u s2 zq=>?_;obtain⟨x,H2,I2,rx,a,ov,ex,g,q2⟩:=zq;subst ex;obtain rfl:u=iw a:=rx;exact d_in hu I2 g ry fun s3 I3=>⟨.bl ov.isSome,H2,I3,rfl,q2⟩
theorem aGi(hu:X.A.units+1<ou)(hi:PE X i ty)(ho:PE X o td):PC X .NotIn i o (aOd ty td):=by
 intro pins s σ H Q I h;refine thn (hi pins s σ H _ I h) fun iv s1 zq=>zq.el fun y H1 I1 ry q1=>thn (ho pins s1 σ H1 _ I1 q1) fun u s2 zq=>?_;obtain⟨x,H2,I2,rx,a,ov,ex,g,q2⟩:=zq;subst ex;obtain rfl:u=iw a:=rx;exact aNz hu I2 g ry fun s3 I3=>⟨.bl (!ov.isSome),H2,I3,rfl,q2⟩
theorem aFj(hu:X.A.units+1<ou)(ho:PE X o td)(hi:PE X i ty)(hv:PE X value tv)(hs:swapsWith value (some (.Subscript o i pos')) pos.line X.env=pure false):
  PS X (.Assign [.Subscript o i pos'] value pos) (sDPut td ty tv):=by
 intro pins s σ H D I h;refine wpAny_Assign_Subscript (thn (hv pins s σ H _ I h) fun r s1 zq=>zq.el fun v H1 I1 rv q1=>thn (ho pins s1 σ H1 _ I1 q1) fun u s2 zq=>zq.el fun x H2 I2 rx q2=>thn (hi pins s2 σ H2 _ I2 q2) fun iv s3 zq=>?_) hs;obtain⟨y,H3,I3,ry,a,H4,ex,g,q3⟩:=zq;subst ex;obtain rfl:u=iw a:=rx;exact aHj hu I3 g ry rv fun s4 I4=>⟨σ,H4,I4,q3⟩
end
theorem oO(h:kq)(hb:ly<h.objs.size):vC P w H (h.push { cls:=.type "dict",data:=.dict #[] }) h.objs.size (.dK []) :=
 ⟨iy _,beq_eq_false_iff_ne.mpr (lu (jb hb)),[],.nil,kq.DictOf.new h⟩
def aPz:TE:=fun _ H Q=>∀p,H p=none->Q (.ref p) (upd H p (.dK []))
section
variable {X:Cx}{pos:Pos}
theorem oB:PE X (.Dict [] [] pos) aPz:=fun pins s σ H Q I h =>
 wpAny_Dict_empty ⟨.ref s.heap.objs.size,_,I.laid (a:=s.heap.objs.size) (o:=.dK []) (t':=s.toks) (fun _ _ q=>π _ q) (ν _) (oO s.heap I.big),rfl,h _ (I.hok.fresh (ν _))⟩
end
def aCq:List (TE×TE)->St->Hp->(List (V×V)->Hp->Prop)->Prop
 |[],_,H,Q=>Q [] H
 | (tk,tv)::r,σ,H,Q=>tk σ H fun x H1=>tv σ H1 fun y H2=>aCq r σ H2 fun ps H3=>Q ((x,y)::ps) H3
abbrev VV:List (V×V)->List (Value×Value)->Prop:=zr fun p q=>RelV p.1 q.1/\RelV p.2 q.2
def PPs (X:Cx) (pos:Pos) (keys:List (Option Expr)) (values:List Expr) (trs:List (TE×TE)):Prop :=
 ∀(pins:List (Addr×Obj)) (s:ξ) (σ:St) (H:Hp) (Q:List (V×V)->Hp->Prop),Inv X pins σ H s->aCq trs σ H Q →
  ik (ir X.prog X.w) X.A (evalPairs (pairTrees keys values X.env pos)) (fun vs s'=>∃ps H',Inv X pins σ H' s'/\VV ps vs/\Q ps H') X.xe s
theorem aNn : PPs X pos [] [] []:=fun pins s σ H Q I h=>pairTrees_nil_walk ⟨[],H,I,.nil,h⟩
theorem aAx(hk:PE X k tk)(hv:PE X v tv)(hr:PPs X pos ks vs trs):
  PPs X pos (some k::ks) (v::vs) ((tk,tv)::trs):=fun pins s σ H Q I h =>
 pairTrees_cons_walk (thn (hk pins s σ H _ I h) fun u s1 zq=>zq.el fun x H1 I1 rx q1=>thn (hv pins s1 σ H1 _ I1 q1) fun w2 s2 zq=>zq.el fun y H2 I2 ry q2=>
  thn (hr pins s2 σ H2 _ I2 q2) fun ws s3 ⟨ps,H3,I3,rel,q3⟩=>⟨(x,y)::ps,H3,I3,.cons ⟨rx,ry⟩ rel,q3⟩)
def rE (kvs more:List (Key×V)):List (Key×V):=more.foldl (fun acc kv=>putK acc kv.1 kv.2) kvs
theorem KV.merge:∀{more:List (Key×V)}{rs:List (Key×Value)}{kvs:List (Key×V)}{vs:List (Key×Value)},KV more rs->KV kvs vs->KV (rE kvs more) (merged vs rs):=by
 intro more rs kvs vs r;unfold KV at r
 induction r generalizing kvs vs with
 |nil=>intro q;exact q
 | @cons p q ps qs h t ih =>
  intro r0;have e:KV (putK kvs p.1 p.2) (stored vs q.1 q.2):=by
   have:=r0.put p.1 h.2;rw[←h.1];exact this
  exact ih e
theorem fB:∀(more kvs:List (Key×V)),(rE kvs more).length<=kvs.length+more.length
 |[],kvs=>by show kvs.length<=kvs.length+0;omega
 |p::r,kvs=>by
  have h1:=fB r (putK kvs p.1 p.2);have h2:=aP kvs p.1 p.2;show(rE (putK kvs p.1 p.2) r).length<=_;rw[ii];omega
theorem pU : ∀{kvs:List (Key×V)}{ws:List (Value×Value)},VV (kvs.map fun kv=>(kV kv.1,kv.2)) ws->∃rs,Carries (qX P w) ws rs/\KV kvs rs
 |[],_,r=>by rw[List.map_nil]at r;cases r;exact⟨[],je,.nil⟩
 |p::kvs,_,r=>by
  rw[ju]at r;cases r with
  | @cons a b as bs h t =>
   obtain⟨rs,c,q⟩:=pU (P:=P) (w:=w) t;obtain⟨b1,b2⟩:=b;exact⟨(p.1,b2)::rs,⟨oG h.1,rfl,c⟩,.cons ⟨rfl,h.2⟩ q⟩
def aOw (trs:List (TE×TE)):TE:=fun σ H Q=>∀p,H p=none->aCq trs σ (upd H p (.dK [])) fun ps H2=>H2 p=some (.dK [])/\∃kvs:List (Key×V),ps=kvs.map (fun kv=>(kV kv.1,kv.2))/\kvs.length<=15/\Q (.ref p) (upd H2 p (.dK (rE [] kvs)))
theorem aMa(h:PPs X pos keys values trs)(hall:keys.all (·.isSome)=true)(hl:keys.length=values.length)(h0:keys≠[])
  (h15:keys.length<=15):PE X (.Dict keys values pos) (aOw trs):=by
 intro pins s σ H Q I q;have hn:=I.hok.fresh (ν s.heap.objs.size);have I1:=I.laid (a:=s.heap.objs.size) (o:=.dK []) (h':=s.heap.push { cls:=.type "dict",data:=.dict #[] }) (t':=s.toks) (fun _ _ q=>π _ q) (ν _) (oO s.heap I.big);refine wpAny_Dict_walk (knd:=qX X.prog X.w) hall hl h0 h15 (thn (h pins _ σ _ _ I1 (q _ hn)) fun ws s2 zq=>?_);obtain⟨ps,H2,I2,rel,e,kvs,ep,lk,q2⟩:=zq;subst ep;obtain⟨rs,c,rk⟩:=pU (P:=X.prog) (w:=X.w) rel;obtain⟨z,hd,vs0,r0,dd⟩:=tG I2.hok e;cases r0;refine⟨rs,c,dd,fun h' dd' hs=>⟨.ref s.heap.objs.size,_,?_,rfl,q2⟩⟩;have hz:(rE [] kvs).length<=ρ:=by
  have h1:=fB kvs [];rw[List.length_nil]at h1;rw[jk];omega
 have he:∃q,h'.get? s.heap.objs.size=some q:=let ⟨q,_,_,hq,_⟩:=dd'; ⟨q,hq⟩;exact gW I2 (by rw[e];exact je) hs he (uG hz hd (rk.merge .nil) dd')
section
variable {X:Cx}
theorem sV:xA X (.builtin "isinstance") (fun xs H Q=>∃p T kvs,xs=[.ref p,.ty T]/\T∈aBs/\H p=some (.dK kvs)/\Q (.bl (isa "dict" T)) H):=by
 intro pins s σ H xs us Q I r h;obtain⟨p,T,kvs,rfl,hT,ht,q⟩:=h;obtain⟨u,w',rfl,rx,rT⟩:=vals2 r;cases rT;cases rx;have hT':T = "int" ∨ T = "bool" ∨ T = "str" ∨ T = "list" ∨ T = "tuple" ∨ T = "dict":=by simpa [aBs] using hT
 have fin:∀{k:Bool}{s':ξ},isa "dict" T=k->Inv X pins σ H s'->EP X pins σ Q (.bool k) s':=fun {k s'} e I'=>by subst e;exact⟨.bl _,H,I',rfl,q⟩
 obtain⟨_,_,vs,_,o,es,ep,e,hx,_⟩:=I.hok p _ ht;have hc:o.cls=.type "dict":=hx.1;rcases hT' with rfl|rfl|rfl|rfl|rfl|rfl
 ·exact IsiPair.dict_int e hc (fin (by decide) (I.tok _))
 ·exact IsiPair.dict_bool e hc (fin (by decide) (I.tok _))
 ·exact IsiPair.dict_str e hc (fin (by decide) (I.tok _))
 ·exact IsiPair.dict_list e hc (fin (by decide) (I.tok _))
 ·exact IsiPair.dict_tuple e hc (fin (by decide) (I.tok _))
 ·exact IsiPair.dict_dict e hc (fin (by decide) I)
def Itx (x:Str):It:=⟨fun i _=>i<x.cps.size,fun i H v H'=>H'=H/\∃c,x.cps[i]?=some c/\v=.str ⟨#[c]⟩,fun i _=>x.cps.size<=i⟩
theorem aKh{K:υ}(it:Addr)(x:Str)(t:Tok)(ty:String)
  (hty : ["enumerate","zip","dict_itemiterator","dict_reverseitemiterator","odict_iterator","itertools.zip_longest","itertools.pairwise"].contains ty=false)
  (W:∀A:kg,A.handled=none->Walks P w A it [it] [it] x.cps.size (SignAt x) (fun i h=>h.IsStrIter it ty x t i))
  (hself:∀(A:kg) (i:Nat) (s:ξ) (Q:Value->ξ->Prop) (E:Value->ξ->Prop),s.heap.IsStrIter it ty x t i->Q (.ref it) s->ik (ir P w) A (pyIter (.ref it)) Q E s):Turn P w K tg (Itx x) [it] it (fun i h=>h.IsStrIter it ty x t i/\i<=x.cps.size) where
 mem:=by simp
 obj:=fun i h st b hb=>by
  have e:b=it:=by simpa using hb
  subst e;obtain⟨⟨o,e,c,d⟩,_⟩:=st;exact⟨o,e,fun v z=>by rw[d]at z;cases z⟩
 keep:=fun i h h' st k=>⟨let ⟨o,ho,r⟩:=st.1; ⟨o,k it (by simp) o ho,r⟩,st.2⟩
 item:=by
  intro X hP hw hK hc i pins s σ H E I hf st hg;subst hP hw hK;obtain⟨f0,f1,f2,f3,f4,f5⟩:=hf it (by simp);refine(W X.A (I.ok.hd hc)).item i s _ _ hg st.1 fun v h' tk hv st' kk=>?_;obtain⟨c,u,hcc,rfl⟩:=hv;have I1:Inv X pins σ H { s with heap:=h',toks:=tk }:=I.turned (fun b o hb e=>kk b o (by simpa using hb) e) f0 f1 f3 f4 f5;obtain⟨o,e,cc,d⟩:=id st';exact⟨_,rfl,aFx (s:={ s with heap:=h',toks:=tk }) e cc d hty ⟨.str ⟨#[c]⟩,H,I1,⟨u,rfl⟩,⟨rfl,c,hcc,rfl⟩,⟨st',hg⟩,fun b hb=>(hf b hb).1⟩⟩
 done:=by
  intro X hP hw hK hc i pins s σ H E I hf st hg;subst hP hw hK;obtain⟨f0,f1,f2,f3,f4,f5⟩:=hf it (by simp);have hi:i=x.cps.size:=Nat.le_antisymm st.2 hg;subst hi;exact(W X.A (I.ok.hd hc)).done s _ _ st.1 fun h' tk eb=>⟨rfl,I.turned (fun b o hb e=>eb b o (by simpa using hb) e) f0 f1 f3 f4 f5⟩
 self:=fun A i s Q E st h=>hself A i s Q E st.1 h
def iStr (tl:TE):TI:=fun σ H R=>tl σ H fun v H1=>∃x,v=.str x/\R (Itx x) H1
theorem aQb(hl:PE X l tl):PI X tg l (iStr tl):=by
 intro pins s σ H R I h;refine thn (hl pins s σ H _ I h) fun v s1 zq=>?_;obtain⟨y,H1,I1,r1,q1⟩:=zq;obtain⟨x,e,q⟩:=q1;subst e;obtain⟨t,rfl⟩:=r1;have fin:∀(ty:String) (o:Obj),["enumerate","zip","dict_itemiterator","dict_reverseitemiterator","odict_iterator","itertools.zip_longest","itertools.pairwise"].contains ty=false →
   (∀A:kg,A.handled=none->Walks X.prog X.w A s1.heap.objs.size [s1.heap.objs.size] [s1.heap.objs.size] x.cps.size (SignAt x) (fun i h=>h.IsStrIter s1.heap.objs.size ty x t i)) →
   (∀(A:kg) (i:Nat) (s:ξ) (Q:Value->ξ->Prop) (E:Value->ξ->Prop),s.heap.IsStrIter s1.heap.objs.size ty x t i->Q (.ref s1.heap.objs.size) s->ik (ir X.prog X.w) A (pyIter (.ref s1.heap.objs.size)) Q E s) →
   (s1.heap.push o).IsStrIter s1.heap.objs.size ty x t 0->PIE X pins σ tg R (.ref s1.heap.objs.size) { s1 with heap:=s1.heap.push o }:=fun ty o hty W hs st=>by
  refine⟨s1.heap.objs.size,[s1.heap.objs.size],_,_,H1,rfl,I1.kept (t':=s1.toks) fun b o e=>π _ e,aKh _ x t ty hty W hs,⟨st,iy _⟩,fun b hb=>?_,q⟩;have e:b=s1.heap.objs.size:=by simpa using hb
  subst e;exact I1.fpOk (ν _) (I1.hok.fresh (ν _))
 cases ha:x.cps.all (·<128)
 ·exact wpAny_pyIter_wide ha (fin "str_iterator" _ (by decide) (fun A hA=>Walks.strWide hA _ x t) (fun A i s Q E st h=>wpAny_pyIter_striter_wide st h) ⟨_,iu _ rfl,rfl,rfl⟩)
 ·exact wpAny_pyIter_ascii ha (fin "str_ascii_iterator" _ (by decide) (fun A hA=>Walks.strAscii hA _ x t) (fun A i s Q E st h=>wpAny_pyIter_striter_ascii st h) ⟨_,iu _ rfl,rfl,rfl⟩)
theorem aIh{x:Str}{k:Nat}{tc:TT}{te:TE}{Q:VK}(P:Nat->List V->Hp->Prop)(h0:P 0 [] H1)(hl:∀i ys H,i<=x.length->P i ys H->ys.length<=i)(hz:x.length<ρ)
  (hs:∀i c ys H,x.cps.toList[i]?=some c->P i ys H->tc (some (.str ⟨#[c]⟩)::vX js σ) H fun b H2=>if b=true then te (some (.str ⟨#[c]⟩)::vX js σ) H2 fun v H3=>zW P i js σ (some (.str ⟨#[c]⟩)::vX js σ) (ys++[v]) H3 else zW P i js σ (some (.str ⟨#[c]⟩)::vX js σ) ys H2)
  (hd:∀ys H,P x.length ys H->∀p,H p=none->Q (.ref p) (upd H p (.lst ys)))(hk:k=1:=by rfl):
  mC (Itx x) k js (aQ 0) tc te σ Q H1:=by
 subst hk;refine⟨fun i m σ' ys H=>m=x.cps.size-i/\i<=x.cps.size/\P i ys H/\∃o,σ'=o::vX js σ,⟨x.cps.size,by simp,iy _,h0,none,rfl⟩,?_⟩;rintro i m σ' ys H ⟨rfl,hi,p,o,rfl⟩;have hy:=hl i ys H hi p;have hz':x.cps.size<ρ:=hz
 by_cases hlt:i<x.cps.size
 ·refine .inr ⟨hlt,by omega,zW P i js σ,fun σ3 zs H3 z=>⟨x.cps.size-(i+1),by omega,rfl,hlt,z.1,z.2⟩,fun v H' y=>?_⟩;obtain⟨e,c,hc,y⟩:=y;subst e;subst y;exact hs i c ys _ (by simpa using hc) p
 ·have e:i=x.cps.size:=by omega
  subst e;exact .inl ⟨ν _,fun l n _=>hd ys H p l n⟩
theorem aQm(x:Str)(c:Nat):(!(oy x ⟨#[c]⟩ 0 x.length 1).isEmpty)=decide (c∈x.cps.toList):=by
 rw[PyProof.Rows.empty_one,Bool.not_not]
theorem aCt{ys:List Str}: ∀{us:List Value},kN (ys.map V.str) us->StrsAre us ys:=by
 induction ys with
 |nil=>intro us r;cases r;exact .nil
 |cons y ys ih =>
  intro us r;cases r with
  |cons a b=>obtain⟨t,rfl⟩:=a;exact .cons _ _ (ih b)
theorem tO:∀(tk:Nat) (ps:List Str),kN (ps.map V.str) (strsFrom tk ps)
 |_,[]=>.nil
 |tk,p::ps=>.cons ⟨_,rfl⟩ (tO (tk+1) ps)
theorem bV:xA X (.type "int") (fun xs H Q=>∃(x:Str) (n:Int),xs=[.str x]/\PySem.intText? x=some n/\x.length<=640/\Q (.int n) H):=by
 intro pins s σ H xs us Q I r h;obtain⟨x,n,rfl,h1,h2,q⟩:=h;obtain⟨u,rfl,t,rfl⟩:=vals1 r;exact PySem.W.KIN.call_text h1 h2 ⟨.int n,H,I.tok _,⟨_,rfl⟩,q⟩
end
end L2
namespace L2
open PySem
theorem kM{c k p}{es:List Expr}: il (.Constant c k p::es) env=(false,eval (.Constant c k p) env)::il es env:=rfl
theorem nQ{xs p}{es:List Expr}: il (.List xs p::es) env=(false,eval (.List xs p) env)::il es env:=rfl
theorem eL{xs k p}{es:List Expr}: il (.Tuple xs k p::es) env=(false,eval (.Tuple xs k p) env)::il es env:=rfl
theorem aGb{ks vs p}{es:List Expr}: il (.Dict ks vs p::es) env=(false,eval (.Dict ks vs p) env)::il es env:=rfl
end L2
namespace L2
open PySem PySem.Spec PyProof.Rows
structure PEx (X:Cx) (e:Expr) (t:TE):Prop where
 h:PE X e t
structure PAx (X:Cx) (es:List Expr) (t:TA):Prop where
 h:PA X es t
structure wE (X:Cx) (st:Stmt) (t:TS):Prop where
 h:PS X st t
structure PSx (X:Cx) (sts:List Stmt) (t:TS):Prop where
 h:PSs X sts t
section
variable {X:Cx}{e:Expr}{es:List Expr}{te:TE}{t:TA}{st:Stmt}{rest:List Stmt}{ts us:TS}
theorem vS:PAx X [] aKc:=⟨jB⟩
theorem jR(ha:PEx X e te)(hr:PAx X es t)(hs:il (e::es) X.env=(false,eval e X.env)::il es X.env):PAx X (e::es) (aPm te t):=⟨jA ha.h hr.h hs⟩
theorem kI(h:PE X e te):PEx X e te:=⟨h⟩
theorem hJ(hes:PAx X es t)(hi:PEx X ix ti)(hs:uE ix):PEx X (.Subscript (.List es p1) ix p2) (tOp (aGp X.K) (tLst t) ti):=⟨aOv jW (kU hes.h) hi.h hs⟩
theorem xU(h:PS X st ts):wE X st ts:=⟨h⟩
theorem qF(h1:wE X st ts)(h2:PSx X rest us):PSx X (st::rest) (vP ts us):=⟨jD h1.h h2.h⟩
theorem qW(h1:wE X st ts):PSx X [st] ts:=⟨jE h1.h⟩
end
def CDivL (i j:Int):Prop:=0<j/\j<2 ^ 128
theorem log2_small{n:Nat}(h:n<2 ^ 128):n.log2<9000:=by
 by_cases h0:n=0
 ·subst h0;decide
 ·have:=(Nat.log2_lt h0).mpr h;omega
section
variable {X:Cx}
theorem aJb:OpR X (sg .FloorDiv) (rI CDivL fun i j=>.int (i / j)):=opI fun i j _ _ _ _ _ hc q=>by
 have hj : 0<=j:=Int.le_of_lt hc.1;have e:i.fdiv j=i / j:=Int.fdiv_eq_ediv_of_nonneg _ hj;refine floordiv_int (Int.ne_of_gt hc.1) (by rw[e];exact q) (.inl (PyProof.noPylong_of_log2 (log2_small ?_)));obtain⟨n,rfl⟩:=qy hj;have h2:=hc.2;simp only[Int.natAbs_natCast]
 exact_mod_cast h2
mutual
inductive Dat (K:υ) (H:Hp):V->ο->Prop
 |non:Dat K H .non .none
 |bl (b:Bool):Dat K H (.bl b) (.bool b)
 |int (i:Int):Dat K H (.int i) (.int i)
 |str (x:Str):Dat K H (.str x) (.str x)
 |lst {a:Addr}{xs:List V}{ds:List ο} : SqL K H a xs->DatAll K H xs ds->Dat K H (.ref a) (.list ds)
 |tup {a:Addr}{xs:List V}{ds:List ο} : SqT K H a xs->DatAll K H xs ds->Dat K H (.ref a) (.tuple ds)
inductive DatAll (K:υ) (H:Hp):List V->List ο->Prop
 |nil:DatAll K H [] []
 |cons {x:V}{xs:List V}{d:ο}{ds:List ο} : Dat K H x d->DatAll K H xs ds->DatAll K H (x::xs) (d::ds)
end
mutual
theorem Inv.reads(I:Inv X pins σ H s):∀{x:V}{d:ο}{u:Value},Dat X.K H x d->RelV x u->∃as,Reads s.heap u d as
 |_,_,_,.non,r=>by cases r;exact⟨_,.none⟩
 |_,_,_,.bl b,r=>by cases r;exact⟨_,.bool b⟩
 |_,_,_,.int i,r=>by obtain⟨t,rfl⟩:=r;exact⟨_,.int i t⟩
 |_,_,_,.str x,r=>by obtain⟨t,rfl⟩:=r;exact⟨_,.str x t⟩
 |_,_,_,.lst h ds,r=>by
  cases r;obtain⟨its,rv,⟨o,n,e,hc,_,hd⟩,_⟩:=I.list h;obtain⟨as,ra⟩:=Inv.readsAll I ds rv;exact⟨_,.list e hc hd ra⟩
 |_,_,_,.tup h ds,r=>by
  cases r;obtain⟨its,rv,⟨o,e,hc,n,hd⟩,_⟩:=I.tuple h;obtain⟨as,ra⟩:=Inv.readsAll I ds rv;exact⟨_,.tuple e hc hd ra⟩
theorem Inv.readsAll(I:Inv X pins σ H s):∀{xs:List V}{ds:List ο}{us:List Value},DatAll X.K H xs ds->kN xs us->∃as,ReadsAll s.heap us ds as
 |_,_,_,.nil,r=>by cases r;exact⟨_,.nil⟩
 |_,_,_,.cons h t,r=>by
  cases r with
  |cons r1 r2 =>
   obtain⟨a1,e1⟩:=Inv.reads I h r1;obtain⟨a2,e2⟩:=Inv.readsAll I t r2;exact⟨_,.cons e1 e2⟩
end
def rEqD (K:υ) (neg:Bool):R2:=fun x y H Q=>∃d d':ο,Dat K H x d/\Dat K H y d'/\ke d=true/\ke d'=true/\Q (.bl (xor neg (ο.eqv d d'))) H
theorem aJx(hu:X.A.units+64<ou):OpR X (ky .Eq) (rEqD X.K false):=by
 intro pins s σ H x y v u Q I rx ry h;obtain⟨d,d',hx,hy,s1,s2,q⟩:=h;obtain⟨as,ra⟩:=I.reads hx rx;obtain⟨bs,rb⟩:=I.reads hy ry;exact eq_dataH ra rb s1 s2 hu ⟨.bl _,H,I,rfl,by simpa using q⟩
theorem aDn(hu:X.A.units+64<ou):OpR X (ky .NotEq) (rEqD X.K true):=by
 intro pins s σ H x y v u Q I rx ry h;obtain⟨d,d',hx,hy,s1,s2,q⟩:=h;obtain⟨as,ra⟩:=I.reads hx rx;obtain⟨bs,rb⟩:=I.reads hy ry;exact ne_dataH ra rb s1 s2 hu ⟨.bl _,H,I,rfl,by simpa using q⟩
end
mutual
theorem Dat.same{K:υ}(g:jI H H'):∀{x:V}{d:ο},Dat K H x d->Dat K H' x d
 |_,_,.non=>.non
 |_,_,.bl b=>.bl b
 |_,_,.int i=>.int i
 |_,_,.str x=>.str x
 |_,_,.lst h t=>.lst (g.seq h) (DatAll.same g t)
 |_,_,.tup h t=>.tup (by
   rcases h with (h|⟨o,h⟩)|h
   ·exact .inl (.inl (g _ _ h))
   ·exact .inl (.inr ⟨o,g _ _ h⟩)
   ·exact .inr h) (DatAll.same g t)
theorem DatAll.same{K:υ}(g:jI H H'):∀{xs:List V}{ds:List ο},DatAll K H xs ds->DatAll K H' xs ds
 |_,_,.nil=>.nil
 |_,_,.cons h t=>.cons (Dat.same g h) (DatAll.same g t)
end
section
variable {X:Cx}
theorem aCe(hc:X.calm=true):xA X (.builtin "sum") (fun xs H Q=>∃(a:Addr) (ns:List Int),xs=[.ref a]/\SqL X.K H a (ns.map V.int)/\Q (.int ns.sum) H):=by
 intro pins s σ H xs us Q I r h;obtain⟨a,ns,rfl,ha,q⟩:=h;obtain⟨u,rfl,rx⟩:=vals1 r;cases rx;obtain⟨its,rv,pl,_⟩:=I.list ha;have hi:=intsAre_of rv;obtain⟨ys,hy⟩:=hi.allInts.items;refine sum_intListG (I.ok.hd hc) (hy ▸ pl.isList) fun h' tk t' hk=>?_;have e1:ns=ys.toList.map (·.1):=by
  rw[←nums_intItems,←hy];exact(show numsOf its.toArray.toList=ns from hi.numsOf).symm
 rw[preSum_eq,lq (by simp),←e1];exact⟨.int ns.sum,H,I.kept hk,⟨_,rfl⟩,q⟩
end
section
variable {X:Cx}
theorem yY{K:υ}{n:Nat}(hK:X.K=K)(hc:X.calm=true)(h:PGs X es t)
  (hn:(vm es X.env).length=n:=by rfl)(hst:(vm es X.env).findIdx? (·.1)=none:=by rfl):PG X (.Tuple es k pos) (gTup K n t):=hK ▸ xP hc h hn hst
end
def tL (P:Nat->List V->Hp->Prop) (i k:Nat) (js:List Nat) (σ:St):St->List V->Hp->Prop:=fun σ' ys H=>P (i+1) ys H/\∃os:St,os.length=k/\σ'=os++vX js σ
theorem fE{K:υ}{xs:List V}{k:Nat}{g:TG}{tc:TT}{te:TE}{Q:VK}(P:Nat->List V->Hp->Prop)(h0:P 0 [] H1)(hl:∀i ys H,i<=xs.length->P i ys H->SqL K H a xs/\ys.length<=i)(hz:xs.length<ρ)
  (hs:∀i x ys H (os:St),os.length=k->xs[i]?=some x->P i ys H->g x (os++vX js σ) H fun σ3 H3=>tc σ3 H3 fun b H2=>if b=true then te σ3 H2 fun v H3=>tL P i k js σ σ3 (ys++[v]) H3 else tL P i k js σ σ3 ys H2)
  (hd:∀ys H,P xs.length ys H->∀p,H p=none->Q (.ref p) (upd H p (.lst ys))):
  mC (Itl K a) k js g tc te σ Q H1:=by
 refine⟨fun i m σ' ys H=>m=xs.length-i/\i<=xs.length/\P i ys H/\∃os:St,os.length=k/\σ'=os++vX js σ,⟨xs.length,by simp,iy _,h0,vo k none,oo,rfl⟩,?_⟩;rintro i m σ' ys H ⟨rfl,hi,p,os,ho,rfl⟩;obtain⟨q,hy⟩:=hl i ys H hi p
 by_cases hlt:i<xs.length
 ·refine .inr ⟨⟨xs,xs[i],q,by simp[hlt]⟩,by omega,tL P i k js σ,fun σ3 zs H3 z=>⟨xs.length-(i+1),by omega,rfl,hlt,z.1,z.2⟩,fun x H' y=>?_⟩;obtain⟨e,y⟩:=y;subst e;exact hs i x ys _ os ho (y xs q) p
 ·have e:i=xs.length:=by omega
  subst e;exact .inl ⟨⟨xs,q,ν _⟩,fun l n _=>hd ys H p l n⟩
def But (l:Addr) (H H':Hp):Prop:=∀b o,b≠l->H b=some o->H' b=some o
theorem But.trans(a:But l H H1)(b:But l H1 H2):But l H H2:=fun x o n q=>b x o n (a x o n q)
theorem But.refl : But l H H:=fun _ _ _ q=>q
theorem But.of(g:jI H H'):But l H H':=fun x o _ q=>g x o q
theorem But.same{H:Hp}(a:But l H H')(h:H l=none):jI H H':=fun x o q=>a x o (jL q h) q
theorem But.upd : But l H (upd H l o):=fun x u n q=>by rw[jZ n];exact q
theorem But.tup{K:υ}{l:Addr}{H H':Hp}{zs:List V}(e:But l H H')(hl:H l=some (.lst zs)){a:Addr}{xs:List V}(h:SqT K H a xs):SqT K H' a xs:=by
 rcases h with (h|⟨o,h⟩)|h
 ·exact .inl (.inl (e _ _ (iJ h hl (by intro z;cases z)) h))
 ·exact .inl (.inr ⟨o,e _ _ (iJ h hl (by intro z;cases z)) h⟩)
 ·exact .inr h
end L2
namespace L2
open PySem
def Xc (h:kq) (e C:Addr) (dx:Option Addr) (T:Addr) (fl:Option Value):Prop :=
 ∃oe vs,h.get? e=some oe/\oe.cls=.ref C/\oe.dict=dx/\oe.data=.fields vs/\1<vs.size ∧
  ((fl=none/\T=e/\vs[1]?=some .none)\/∃oT ts v,fl=some v/\T≠e/\vs[1]?=some (.ref T)/\h.get? T=some oT/\oT.data=.fields ts/\ts[3]?=some v)
def Mv (S:List Addr) (e T:Addr) (h h':kq):Prop :=
 ∀b o,h.get? b=some o->b≠e->b≠T->(b∉S->h'.get? b=some o)/\∃sl,h'.get? b=some { o with slots:=sl }
theorem Mv.refl(S:List Addr)(e T:Addr)(h:kq):Mv S e T h h:=fun b o q _ _=>⟨fun _=>q,o.slots,q⟩
theorem Mv.ff(m:Mv S e T h h')(ff:h.FunFrames base l)(he:∀o,h.get? e=some o->∃vs,o.data=.fields vs)(hT:∀o,h.get? T=some o->∃vs,o.data=.fields vs):h'.FunFrames base l :=
 ff.of_keeps fun b o q nf=>by
  obtain⟨_,sl,q'⟩:=m b o q (fun z=>by subst z;obtain⟨vs,z⟩:=he o q;exact nf vs z) (fun z=>by subst z;obtain⟨vs,z⟩:=hT o q;exact nf vs z);exact⟨_,q',rfl⟩
theorem Xc.fe(x:Xc h e C dx T fl):∀o,h.get? e=some o->∃vs,o.data=.fields vs:=fun o q=>by
 obtain⟨oe,vs,he,_,_,hd,_⟩:=x;rw[he]at q;cases q;exact⟨vs,hd⟩
theorem Xc.fT(x:Xc h e C dx T fl):∀o,h.get? T=some o->∃vs,o.data=.fields vs:=fun o q=>by
 have fe:=x.fe;obtain⟨oe,vs,he,_,_,hd,_,⟨_,rfl,_⟩|⟨oT,ts,v,_,_,_,hT,hd',_⟩⟩:=x
 ·exact fe o q
 ·rw[hT]at q;cases q;exact⟨ts,hd'⟩
theorem oZ(o:Obj)(f:Array Value->Array Value):(o.mapFields f).dict=o.dict:=by
 obtain⟨c,d,dt,sl⟩:=o;cases dt <;> rfl
section
variable {M:Model}{A:kg}{E:Value->ξ->Prop}{s:ξ}{base:kq}{env:Env}{outer:List Env}{L e C:Addr}{dx:Option Addr}{T:Addr}{fl:Option Value}{Q:Unit->ξ->Prop}
theorem aAt{s1:ξ}{head:Value}{had:Bool}(hA:A.frames=some (env::outer))(hL:env.frame=some L)(ff:s1.heap.FunFrames base (env::outer))
  (he:s1.heap.get? e=some oe)(hc:oe.cls=.ref C)(hx:oe.dict=dx)(hd:oe.data=.fields vs)(h1 : 1<vs.size)
  (hQ:∀h' T',s1.heap.get? T'=none->s1.heap.objs.size<=T'->Xc h' e C dx T' (some (uc L))->Mv ((env::outer).filterMap (·.frame)) e e s1.heap h'->Q () { s1 with heap:=h' }):
  ik M A (do let a ←frameOf env;let pl ←entryPlaceOf L had;let b ←EntryCells.newEntry head a .none (uc L) .none pl;setField (.ref e) 1 b) Q E s1:=by
 have nfr:e∉(env::outer).filterMap (·.frame):=fun z=>by
  obtain⟨_,o,q,nf⟩:=ff.mem z;rw[he]at q;cases q;exact nf vs hd
 refine ζ (wpAny_frameOf_fun hA ff hL fun g so=>ζ (wpAny_entryPlaceOf fun pl isp=>?_));unfold EntryCells.newEntry newFields;refine ζ (vi ?_ (isp.sizeOk5 _ _ _ _ _));have e1:g.get? e=some oe:=(so.2.1 e nfr).trans he;generalize hob:({ cls:=.type "traceback",dict:=none,data:=.fields ([head,.ref L,.none,uc L,.none]++(if pl.isEmpty then vo 6 mn else pl)).toArray } : Obj)=ob;have e2:=π ob e1;refine vq e2 hd h1 ?_;have nT:g.objs.size≠e:=wb (io e1);have d3:=uu hd (·.setIfInBounds 1 (iw g.objs.size));have e3:=qg (qp (·.setIfInBounds 1 (iw g.objs.size))) e2 (yq d3);have t3:((g.push ob).update e (qp (·.setIfInBounds 1 (iw g.objs.size)))).get? g.objs.size=some ob :=
  (lp _ _ (lu nT)).trans (iu g (by rw[←hob];rfl))
 refine hQ _ g.objs.size (tq (by rw[so.1];exact ν _)) (by rw[so.1];exact ν _) ⟨_,_,e3,(Obj.cls_mapFields _ _).trans hc,(oZ _ _).trans hx,d3,by simpa using h1,.inr ⟨ob,_,uc L,rfl,nT,by simp[h1],t3,by rw[←hob],?_⟩⟩ fun b o q ne _=>?_
 ·first
   | (simp;done)
   | (rcases isp with rfl|⟨_,_,_,_,_,_,_,rfl⟩ <;> simp)
 ·have keep:∀u,g.get? b=some u->((g.push ob).update e (qp (·.setIfInBounds 1 (iw g.objs.size)))).get? b=some u:=fun u z=>by
   rw[lp _ _ (lu ne)];exact π _ z
  exact⟨fun nb=>keep _ ((so.2.1 b nb).trans q),let ⟨sl,z⟩:=so.2.2 b o q; ⟨sl,keep _ z⟩⟩
theorem aFu(hA:A.frames=some (env::outer))(hL:env.frame=some L)(ff:s.heap.FunFrames base (env::outer))(x:Xc s.heap e C dx T fl)(hf:fl=none\/fl=some .none\/fl=some (uc L))
  (hQ:∀h' T',(T'=T\/s.heap.objs.size<=T')->Xc h' e C dx T' (some (uc L))->Mv ((env::outer).filterMap (·.frame)) e T s.heap h'->Q () { s with heap:=h' }):
  ik M A (noteFrame (.ref e) env) Q E s:=by
 have x0:=x;obtain⟨oe,vs,he,hc,hx,hd,h1,ht⟩:=x;unfold noteFrame;simp only[hL];rcases ht with⟨rfl,rfl,hv⟩|⟨oT,ts,v,rfl,nT,hv,hT,hdT,h3⟩
 ·refine ζ (nj he hd hv ?_);rw[if_neg (by decide)];exact aAt hA hL ff he hc hx hd h1 fun h' T' _ q2 q3 q4=>hQ h' T' (.inr q2) q3 q4
 ·refine ζ (nj he hd hv ?_);rw[if_pos (show(iw T != mn)=true from by simp)];refine ζ (nj hT hdT h3 ?_)
  by_cases hvL:v=uc L
  ·subst hvL;rw[if_pos (show(uc L == uc L)=true from by simp)];exact Γ (hQ s.heap T (.inl rfl) x0 (Mv.refl _ _ _ _))
  ·have hv0:v=.none:=by
    rcases hf with z|z|z
    ·cases z
    ·exact lr z
    ·exact absurd (lr z) hvL
   subst hv0;rw[if_neg (show ¬ ((mn == uc L)=true) from by simp[uc])];refine ζ (vq hT hdT (Array.getElem?_eq_some_iff.mp h3).1 ?_);have oth:∀b,b≠T->(s.heap.update T (qp (·.setIfInBounds 3 mn))).get? b=s.heap.get? b:=fun b hb=>lp _ _ (lu hb);have mv:Mv ((env::outer).filterMap (·.frame)) e T s.heap (s.heap.update T (qp (·.setIfInBounds 3 mn))):=fun b o q _ nb=>⟨fun _=>(oth b nb).trans q,o.slots,(oth b nb).trans q⟩;refine aAt (s1:={ s with heap:=s.heap.update T (qp (·.setIfInBounds 3 mn)) }) hA hL (mv.ff ff x0.fe x0.fT) ((oth e (lu nT)).trans he) hc hx hd h1 fun h' T' q1 q2 q3 q4=>hQ h' T' (.inr ?_) q3 fun b o q ne nb=>?_
   ·have:(s.heap.update T (qp (·.setIfInBounds 3 mn))).objs.size=s.heap.objs.size:=kq.size_after_update ..;rw[←this];exact q2
   ·exact q4 b o ((oth b nb).trans q) ne ne
theorem lF{v:Value}{fr:Option Addr}(x:Xc s.heap e C dx T (some v))
  (hQ:∀h',Xc h' e C dx T (some (fr.elim .none fun f=>uc f))->Mv [] e T s.heap h'->Q () { s with heap:=h' }):ik M A (setFlight (.ref e) fr) Q E s:=by
 obtain⟨oe,vs,he,hc,hx,hd,h1,⟨z,_⟩|⟨oT,ts,v',_,nT,hv,hT,hdT,h3⟩⟩:=x
 ·cases z
 have hsz:=(Array.getElem?_eq_some_iff.mp h3).1;unfold setFlight;refine ζ (nj he hd hv ?_);rw[if_pos (show(iw T != mn)=true from by simp)];refine vq hT hdT hsz (hQ _ ?_ fun b o q _ nb=>?_)
 ·exact⟨oe,vs,(lp _ _ nT).trans he,hc,hx,hd,h1,.inr ⟨_,_,_,rfl,nT,hv,qg _ hT (yq (uu hdT _)),uu hdT _,by simp[hsz]⟩⟩
 ·have:=(lp s.heap (qp (·.setIfInBounds 3 (fr.elim mn fun f=>uc f))) (lu nb)).trans q;exact⟨fun _=>this,o.slots,this⟩
theorem Mv.trans(a:Mv S e T h h1)(b:Mv S' e T' h1 h2)(hT:T'=T\/h.get? T'=none)(hS:∀x∈S',x∈S):Mv S e T h h2:=fun c o q ne nT=>by
 obtain⟨k1,sl,k2⟩:=a c o q ne nT;have nT':c≠T':=fun z=>by
  rcases hT with y|y
  ·exact nT (z.trans y)
  ·rw[←z,q]at y;cases y
 refine⟨fun nS=>(b c o (k1 nS) ne nT').1 fun z=>nS (hS c z),?_⟩;obtain⟨_,sl',k3⟩:=b c _ k2 ne nT';exact⟨sl',k3⟩
theorem aKg(hA:A.frames=some (env::outer))(hL:env.frame=some L)(ff:s.heap.FunFrames base (env::outer))(x:Xc s.heap e C dx T fl)(hf:fl=none\/fl=some .none\/fl=some (uc L))
  (hQ:∀h' T',(T'=T\/s.heap.objs.size<=T')->Xc h' e C dx T' (some .none)->Mv ((env::outer).filterMap (·.frame)) e T s.heap h'->Q () { s with heap:=h' }):
  ik M A (leaving env (.ref e)) Q E s:=by
 unfold leaving;refine ζ (aFu hA hL ff x hf fun h1 T1 q1 x1 m1=>lF x1 fun h2 x2 m2=>hQ h2 T1 q1 x2 (m1.trans m2 ?_ (by simp)));exact q1.imp id fun z=>tq z
end
structure zB (bm:List Value):Prop where
 v:bm.contains (.type "ValueError")=true
 b:bm.contains (.type "BaseException")=true
 a:bm.contains (.type "AttributeError")=false
 n:bm.contains (.type "NameError")=false
section
variable {prog:jy}{w:mf}{M:Model}{A:kg}{E:Value->ξ->Prop}{h:kq}{g:Array GenState}{d:Drawn}{t:Nat}{os:OsState}
 {nm qn:Str}{C N:Addr}{bs bm:List Value}{hdct:Bool}{sn:List Str}{sub:List Value}{ab:Bool}{col:Option Bool}{dd:Option Addr}{k0 k1 k2 k3 k5:Option Value}
abbrev nA (nm qn:Str) (C N:Addr) (bs bm:List Value) (hdct:Bool) (sn:List Str) (sub:List Value) (ab:Bool) (col:Option Bool) (dd:Option Addr) (k0 k1 k2 k3 k5:Option Value):Obj :=
 excClassObj nm qn C N bs bm hdct sn sub ab col dd k0 k1 k2 k3 k5 "ValueError.__new__"
theorem zB.cv(x:zB bm):(iw C::bm).contains (.type "ValueError")=true:=by rw[uv,x.v,Bool.or_true]
theorem zB.cb(x:zB bm):(iw C::bm).contains (.type "BaseException")=true:=by rw[uv,x.b,Bool.or_true]
theorem zB.ca(x:zB bm):(iw C::bm).contains (.type "AttributeError")=false:=by rw[uv,x.a];rfl
theorem zB.cn(x:zB bm):(iw C::bm).contains (.type "NameError")=false:=by rw[uv,x.n];rfl
theorem aDr(x:zB bm){rest:List Value}{Q:Unit->ξ->Prop}(hC:h.get? C=some (nA nm qn C N bs bm hdct sn sub ab col dd k0 k1 k2 k3 k5))(hq:Q () ⟨h,g,d,t,os⟩):
  ik M A (zc "ValueError.__new__" ⟨.ref C::rest,[]⟩) Q E ⟨h,g,d,t,os⟩:=by
 have c1:=x.cv (C:=C);have B:=pw;have c2:=B.noStar;simp only[zc,B.newSplit,B.newKind,B.newRow]
 repeat (first
  |refine mq hC ?_
  | (refine pz hC ?_;rw[c1])
  |refine wpAny_madeBy_exc hC ?_
  |refine wpAny_staticBase_exc hC ?_
  |simp only[bne_self_eq_false,if_false,ow]
  |wp_step)
 exact hq
theorem aIf(x:zB bm){rest:List Value}{R:Result->ξ->Prop}(hC:h.get? C=some (nA nm qn C N bs bm hdct sn sub ab col dd k0 k1 k2 k3 k5))(hz:rest.length<=ρ)
  (hq:R (.ok (.ret (.ref (h.objs.size+1)))) ⟨(h.push { cls:=.type "tuple",data:=.seq rest.toArray }).push { cls:=.ref C,data:=.fields #[.ref h.objs.size,.none,.none,.none,.bool false,.none] },g,d,t,os⟩):
  wd (ir prog w) A (.builtin "ValueError.__new__" ⟨.ref C::rest,[]⟩) R ⟨h,g,d,t,os⟩:=by
 have B:=pw;have c0:=B.ends;have c1:=x.cv (C:=C);have c2:=x.ca (C:=C);have c3:=x.cn (C:=C);refine codeAny_builtinAt B.entry ?_;unfold su.«BaseException.__new__»;refine wpAt_bind ?_;show wpAt _ _ _ (stack >>= _) _ _ _;refine wpAt_bind (wpAt_stack fun p below=>wpAt_of_wpAny ?_)
 wp_walk
 refine wpAt_of_wpAny ?_;rw[B.owner]
 repeat (first
  |with_reducible refine mq hC ?_
  |with_reducible refine wpAny_madeHere_exc B.canon hC ?_
  | (with_reducible refine pz hC ?_;first|rw[c1]|rw[c2]|rw[c3])
  |wp_step)
 show R _ _;rw[pq];exact hq
theorem aEn(x:zB bm){mN:Str->Option Value}{rest:List Value}{Q:Fin->ξ->Prop}(hC:h.get? C=some (nA nm qn C N bs bm hdct sn sub ab col dd k0 k1 k2 k3 k5))
  (hn:h.Ns N mN)(hi:mN "__init__" = some (.ref fI))(hf:h.get? fI=some oI)(hfc:oI.cls=.type "function")(hz:rest.length<=ρ)
  (hq:∀h' e,kq.MadeExcOf h h' e (.ref C) rest->h.objs.size<=e->ik (ir prog w) A (call (.ref fI) (.ref e::rest)) (fun r s'=>r=.none/\Q (.done (.ret (.ref e))) s') E ⟨h',g,d,t,os⟩):
  ik (ir prog w) A (su.«type.__call__» ⟨.ref C::rest,[]⟩) Q E ⟨h,g,d,t,os⟩:=by
 repeat (first
  |with_reducible refine wpAny_madeBy_exc hC ?_
  |with_reducible refine mq hC ?_
  |wp_step)
 have B:=pw;refine codeAny_call_builtin_code (Code.quiet_builtin _ B.quiet) (aDr x hC (aIf x hC hz ?_));show ik _ _ _ _ _ _;generalize htu:({ cls:=.type "tuple",data:=.seq rest.toArray } : Obj)=otu;generalize hex:({ cls:=.ref C,data:=.fields #[.ref h.objs.size,.none,.none,.none,.bool false,.none] } : Obj)=oex;have kp:∀b o,h.get? b=some o->((h.push otu).push oex).get? b=some o:=fun b o z=>π _ (π _ z);have ge:((h.push otu).push oex).get? (h.objs.size+1)=some oex:=by
  have:=iu (h.push otu) (o:=oex) (by rw[←hex];rfl)
  rwa [pq]at this
 have gt:((h.push otu).push oex).get? h.objs.size=some otu:=π _ (iu h (by rw[←htu];rfl));have oc:oex.cls=.ref C:=by rw[←hex]
 have hC1:=kp _ _ hC;have hn1:((h.push otu).push oex).Ns N mN:=let ⟨o,es,ep,z,r⟩:=hn; ⟨o,es,ep,kp _ _ z,r⟩;have c0:(iw C::bm).contains (.ref C)=true:=by simp
 unfold isInstance
 repeat (first
  | (with_reducible refine mq ge ?_;rw[oc])
  | (with_reducible refine pz hC1 ?_;rw[c0])
  |wp_step)
 show ik _ _ (typeLookup (.ref C) _) _ _ _;rw[typeLookup_eq];refine ζ (wpAny_mroOf_exc hC1 ?_);rw[lookupAlong_cons];refine ζ (wpAny_classOwn_exc hC1 hn1 ?_);rw[hi];refine Γ (my (ζ ?_));unfold bindSpecial;refine ζ (wpAny_typeOf (T:="function") ⟨_,kp _ _ hf,hfc⟩ ?_);rw[if_pos (by decide)];refine Γ (ζ (kj (hq _ (h.objs.size+1) ⟨kp,tq (qv _),h.objs.size,by rw[ge,←hex],tq (ν _),by rw[gt,←htu]⟩ (qv _)) (fun r s' z=>?_) fun _ _ y=>y));obtain⟨rfl,z⟩:=z
 wp_walk
 exact z
theorem xmake(x:zB bm){mN:Str->Option Value}{rest:List Value}{Q:Value->ξ->Prop}(hC:h.get? C=some (nA nm qn C N bs bm hdct sn sub ab col dd k0 k1 k2 k3 k5))
  (hn:h.Ns N mN)(hi:mN "__init__" = some (.ref fI))(hf:h.get? fI=some oI)(hfc:oI.cls=.type "function")(hz:rest.length<=ρ)
  (hq:∀h' e,kq.MadeExcOf h h' e (.ref C) rest->h.objs.size<=e->ik (ir prog w) (A.under (.builtin "type.__call__" ⟨.ref C::rest,[]⟩)) (call (.ref fI) (.ref e::rest)) (fun r s'=>r=.none/\Q (.ref e) s') E ⟨h',g,d,t,os⟩):
  ik (ir prog w) A (call (.ref C) rest) Q E ⟨h,g,d,t,os⟩:=by
 have b1:=tc_lookup;have b2:=tc_bind (.ref C);have b3:(⟨h,g,d,t,os⟩ : ξ).TypeIs (.ref C) "type":=⟨_,hC,rfl⟩;refine uq (codeAny_of_tree ?_);show ik _ _ (callAny (.ref C) _) _ _ _
 repeat (any_goals (first|assumption|with_reducible refine mq hC ?_|wp_step))
 refine⟨rfl,codeAny_call_builtin_at (Code.quiet_builtin _ (by ac_rfl)) entry_typeCall (wpAny_check_type_call_sub hC (aEn x hC hn hi hf hfc hz hq))⟩
theorem aPx(hh:A.handled=none)
  (hx:ik M A x (fun v s1=>∃(e C N:Addr) (nm qn:Str) (bs bm:List Value) (hdct:Bool) (sn:List Str) (sub:List Value) (ab:Bool) (col:Option Bool) (dd:Option Addr) (k0 k1 k2 k3 k5:Option Value) (dx:Option Addr) (vs:Array Value) (sl:Array (Option Value)),
   v=.ref e/\zB bm/\s1.heap.get? C=some (nA nm qn C N bs bm hdct sn sub ab col dd k0 k1 k2 k3 k5)/\s1.heap.get? e=some ⟨.ref C,dx,.fields vs,sl⟩/\vs[1]?=some .none/\E (.ref e) s1) E s):
  ik M A (raiseStmt env (some x) none) Q E s:=by
 unfold raiseStmt;refine ζ (kj hx (fun v s1 z=>?_) fun _ _ y=>y);obtain⟨e,C,N,nm,qn,bs,bm,hdct,sn,sub,ab,col,dd,k0,k1,k2,k3,k5,dx,vs,sl,rfl,xt,hC,he,hv,hE⟩:=z;have c1:=xt.cb (C:=C);obtain⟨hp,g,d,tk,os⟩:=s1
 repeat (first
  |with_reducible refine mq he ?_
  |with_reducible refine mq hC ?_
  |with_reducible refine nj he rfl hv ?_
  | (with_reducible refine pz hC ?_;rw[c1])
  |wp_step)
 exact wpAny_raiseNew_none hh hE
theorem aSd(hh:A.handled=none)
  (hx:ik M A (eval x env) (fun v s1=>∃(e C N:Addr) (nm qn:Str) (bs bm:List Value) (hdct:Bool) (sn:List Str) (sub:List Value) (ab:Bool) (col:Option Bool) (dd:Option Addr) (k0 k1 k2 k3 k5:Option Value) (dx:Option Addr) (vs:Array Value) (sl:Array (Option Value)),
   v=.ref e/\zB bm/\s1.heap.get? C=some (nA nm qn C N bs bm hdct sn sub ab col dd k0 k1 k2 k3 k5)/\s1.heap.get? e=some ⟨.ref C,dx,.fields vs,sl⟩/\vs[1]?=some .none/\E (.ref e) s1) E s):
  ik M A (exec (.Raise (some x) none pos) env) Q E s:=by
 rw[arm_exec_Raise];have key:=aPx (Q:=Q) (env:=env) (x:=do let v ←eval x env;standAt pos;pure v) hh (ζ (kj hx (fun v s1 z=>ζ (vc (Γ z))) fun _ _ y=>y))
 first
  |exact ζ (vc key)
  | (simp only[evalOpt,Option.map];exact ζ (vc key))
theorem aAy(x:zB bm){e:Addr}{rest:List Value}{Q:Unit->ξ->Prop}(hC:h.get? C=some (nA nm qn C N bs bm hdct sn sub ab col dd k0 k1 k2 k3 k5))(he:h.get? e=some oe)(oc:oe.cls=.ref C)
  (hq:Q () ⟨h,g,d,t,os⟩):ik M A (zc "ValueError.__init__" ⟨.ref e::rest,[]⟩) Q E ⟨h,g,d,t,os⟩:=by
 have c1:=x.cv (C:=C);have B:=pw;have c2:=B.noStar;simp only[zc,B.initSplit,B.initKind,B.initRow]
 repeat (first
  |with_reducible refine mq hC ?_
  | (with_reducible refine mq he ?_;rw[oc])
  | (with_reducible refine pz hC ?_;rw[c1])
  |wp_step)
 refine wx ?_;rw[show ∀(a b:String) (n:Nat),Bind.check ⟨.positional,"*","ValueError",.self,[⟨"args",.varPos,false⟩]⟩ a b n (List.map (fun y=>y.fst) ({ pos:=iw e::rest } : Args).kw)=pure () from fun a b n=>check_star_args _ _ _ _ _ _];exact Γ hq
theorem xinit(x:zB bm){e:Addr}{v:Value}{Q:Value->ξ->Prop}(hC:h.get? C=some (nA nm qn C N bs bm hdct sn sub ab col dd k0 k1 k2 k3 k5))(he:h.get? e=some oe)(oc:oe.cls=.ref C)
  (hd:oe.data=.fields vs)(h1 : 1<vs.size)
  (hq:∀h' oe' vs',(∀b o,b≠e->h.get? b=some o->h'.get? b=some o)->h'.get? e=some oe'->oe'.cls=oe.cls->oe'.dict=oe.dict->oe'.data=.fields vs'->vs'.size=vs.size->vs'[1]?=vs[1]?->Q .none ⟨h',g,d,t,os⟩):
  ik (ir prog w) A (call (.builtin "ValueError.__init__") [.ref e,v]) Q E ⟨h,g,d,t,os⟩:=by
 have B:=pw;refine uq (vt B.init.plain B.initEntry (aAy x hC he oc ?_));obtain⟨c,dx,dt,sl⟩:=oe;cases hd
 wp_walk
 have h0:vs[0]?=some vs[0]:=by simp
 rw[h0];refine Γ (ζ (vq (π _ he) rfl (by omega) ?_));have e2:=π { cls:=Value.type "tuple",data:=Data.seq #[v] } he;have fin:=hq _ _ _ (fun b o nb z=>(lp (h.push { cls:=Value.type "tuple",data:=Data.seq #[v] }) (qp (·.setIfInBounds 0 (iw h.objs.size))) (lu nb)).trans (π _ z))
  (qg (qp (·.setIfInBounds 0 (iw h.objs.size))) e2 rfl) rfl rfl rfl (by simp) (by simp)
 generalize vs[0]=a0;cases a0 <;> first
  |exact Γ (Γ fin)
  |exact wpAny_letGo (Γ fin)
theorem aQh{e Cn:Addr}{b:Bool}{Q:Bool->ξ->Prop}{nm1 nm2:Str}(hC:h.get? C=some (excClassObj nm1 q1 C N1 bs1 bm1 hd1 sn1 sub1 ab1 co1 dd1 j0 j1 j2 j3 j5 ni1))(hD:h.get? Cn=some (excClassObj nm2 q2 Cn N2 bs2 bm2 hd2 sn2 sub2 ab2 co2 dd2 l0 l1 l2 l3 l5 ni2))
  (hb:bm2.contains (.type "BaseException")=true)(he:h.get? e=some oe)(oc:oe.cls=.ref C)(hs:(iw C::bm1).contains (.ref Cn)=b)(hq:Q b ⟨h,g,d,t,os⟩):ik M A (excMatches (.ref e) (.ref Cn)) Q E ⟨h,g,d,t,os⟩:=by
 have c1:(iw Cn::bm2).contains (.type "BaseException")=true:=by rw[uv,hb,Bool.or_true]
 have c2:=tc_notTuple;unfold excMatches
 repeat (first
  |with_reducible refine mq hD ?_
  | (with_reducible refine mq he ?_;rw[oc])
  | (with_reducible refine pz hD ?_;rw[c1])
  | (with_reducible refine pz hC ?_;rw[hs])
  |wp_step)
 cases b <;> (wp_walk;exact hq)
end
end L2
namespace L2
open PySem PyProof.Rows
abbrev VB:List Value:=[.type "ValueError",.type "Exception",.type "BaseException",.type "object"]
structure bC (K:υ) (C R fI:Addr):Prop where
 obj:∃(nm qn:Str) (N:Addr) (bs:List Value) (sn:List Str) (sub:List Value) (ab:Bool) (col:Option Bool) (dd:Option Addr) (k0 k1 k2 k3 k5:Option Value),
  K.lookup C=some (nA nm qn C N bs (.ref R::VB) true sn sub ab col dd k0 k1 k2 k3 k5)/\PySem.W.nsOkIn K N=true/\nsIn K N "__init__" = some (some (.ref fI))
 fn:isFn K (.ref fI)=true
 kp:keepIn K (.ref C)=true
 sa:nu K (.ref C) "__setattr__" = some (some (.builtin "object.__setattr__"))
 ga:nu K (.ref C) "__getattribute__" = some (some (.builtin "BaseException.__getattribute__"))
 gh:nu K (.ref C) "__getattr__" = some none
theorem aIs(R:Addr):zB (.ref R::VB):=⟨rfl,rfl,rfl,rfl⟩
theorem aCu{K:υ}{m:Str->Option Value}(X:K.In h)(G:h.Ns N m)(e:nsIn K N n=some (some v)):m n=some v:=by
 obtain⟨o,es,ep,ho,hd,_,hf⟩:=G;unfold nsIn at e;cases q:K.lookup N with
 |none=>rw[q]at e;cases e
 |some o' =>
  have z:=X _ _ q;rw[ho]at z;cases z;rw[q]at e;obtain⟨c,d,dt,sl⟩:=o;cases hd;rw[←hf];unfold nsFind findBy;rw[←Array.find?_toList];dsimp only at e;cases q2:es.toList.find? (fun x=>x.key.isStr n) with
  |some y =>
   rw[q2]at e;exact congrArg (fun z:Option (Option Value)=>z.getD none) e
  |none =>
   rw[q2]at e;dsimp only at e
   split at e <;> cases e
theorem bC.cls{K:υ}(c:bC K C R fI)(X:K.In h):
  ∃(nm qn:Str) (N:Addr) (bs:List Value) (sn:List Str) (sub:List Value) (ab:Bool) (col:Option Bool) (dd:Option Addr) (k0 k1 k2 k3 k5:Option Value) (mN:Str->Option Value) (oI:Obj),
   h.get? C=some (nA nm qn C N bs (.ref R::VB) true sn sub ab col dd k0 k1 k2 k3 k5)/\h.Ns N mN/\mN "__init__" = some (.ref fI)/\h.get? fI=some oI/\oI.cls=.type "function":=by
 obtain⟨nm,qn,N,bs,sn,sub,ab,col,dd,k0,k1,k2,k3,k5,lk,nsok,nsi⟩:=c.obj;have hN:=kq.Ns.of_isNs (PySem.W.isNs_of_in X nsok);have hf:=c.fn;unfold isFn PySem.W.typeIn at hf;have hf':=beq_iff_eq.mp hf;obtain⟨oI,q,r⟩:=Option.map_eq_some_iff.mp hf';exact⟨nm,qn,N,bs,sn,sub,ab,col,dd,k0,k1,k2,k3,k5,_,oI,X _ _ lk,hN,aCu X hN nsi,X _ _ q,r⟩
section
variable {prog:jy}{w:mf}{A:kg}{E:Value->ξ->Prop}{s:ξ}{K:υ}{e C R fI:Addr}{oe:Obj}{vs:Array Value}{name:Str}{v:Value}
theorem nR{od:Option Obj}(he:s.heap.get? e=some oe)(oc:oe.cls=.ref C)(hd:oe.data=.fields vs)(hx:match oe.dict,od with|some dx,some o=>s.heap.get? dx=some o|none,none=>True|_,_=>False):vn s.heap e oe C od :=
 ⟨he,oc,by unfold PySem.W.notCls;rw[hd],hx⟩
theorem bC.clsIn(c:bC K C R fI):∃cd,PySem.W.clsIn K C=some cd/\cd.mro=.ref C :: .ref R::VB/\cd.hasDict=true:=by
 obtain⟨nm,qn,N,bs,sn,sub,ab,col,dd,k0,k1,k2,k3,k5,lk,_⟩:=c.obj;exact⟨_,by unfold PySem.W.clsIn;rw[lk],rfl,rfl⟩
theorem sZ{Q:Unit->ξ->Prop}(X:K.In s.heap)(c:bC K C R fI)(I:vn s.heap e oe C od)(hf:nu K (.ref C) name=some none)
  (h:ik (ir prog w) A.in1 (sx (.ref e) (.ref C) (.str name s.toks) name v false)
   (fun fin s'=>match fin with | .done (.ret _)=>Q () s'|_=>False) (fun _ _=>False) { s with toks:=s.toks+1 }):
  ik (ir prog w) A (setAttr (.ref e) name v) Q E s:=by
 have SF:=PySem.F.store_ValueError;obtain⟨cd,hcd,hm,hh⟩:=c.clsIn;refine PySem.W.set_plain X I c.sa ?_;have mro:wy (ir prog w) s.heap (mroOf (.ref C)) (.ref C :: .ref R::VB):=hm ▸ (wm X hcd).andThen .now;have isO:wy (ir prog w) s.heap (isInstance (.ref e) (.type "object")) true:=I.type.andThen (PySem.W.looks_mroIn X (by
  unfold ny;rw[hcd,wg,hm,if_neg (by intro z;cases z)];rfl))
 refine vt SF.slot.plain SF.entry (@PySem.W.check_slot (ir prog w) _ _ { s with toks:=s.toks+1 } "object.__setattr__" "object" "__setattr__" (.ref e) [.str name s.toks,v] [] _ SF.kind SF.split isO (SF.args (.ref e) (.str name s.toks) v) ?_);rw[PySem.W.osa_eq,refuse_eq];refine ζ (ζ (qh (s:={ s with toks:=s.toks+1 }) I.type (ζ (qh (s:={ s with toks:=s.toks+1 }) mro ?_))));rw[refuseLoop_ref,refuseLoop_ref,SF.passes];refine Γ (ζ (qh (s:={ s with toks:=s.toks+1 }) I.type (ζ (qh (s:={ s with toks:=s.toks+1 }) (qu X hf) (ζ (Γ ?_))))));refine kj h (fun fin s' z=>?_) fun _ _ z=>z.elim;rcases fin with (_|_|_|_)|_ <;> first|exact z|exact z.elim
theorem aDj{Q:Unit->ξ->Prop}(X:K.In s.heap)(c:bC K C R fI)(he:s.heap.get? e=some oe)(oc:oe.cls=.ref C)(hd:oe.data=.fields vs)(hx:oe.dict=none)(hf:nu K (.ref C) name=some none)
  (h:∀h' dx tk,s.heap.objs.size<=dx->dx≠e->h'.get? e=some { oe with dict:=some dx }->h'.Ns1 dx (fun y=>if y=name then some v else none)->(∀b o,b≠e->s.heap.get? b=some o->h'.get? b=some o)->Q () { s with heap:=h',toks:=tk }):
  ik (ir prog w) A (setAttr (.ref e) name v) Q E s:=by
 obtain⟨cd,hcd,hm,hh⟩:=c.clsIn;refine sZ X c (nR (od:=none) he oc hd (by rw[hx];trivial)) hf ?_;obtain⟨cc,dd,dt,sl⟩:=oe;cases oc;cases hd;cases hx;have ne:s.heap.objs.size≠e:=wb (io he);unfold sx wz instanceDict;refine ζ (Γ ?_);refine ζ (ζ (wpAny_loadPart he (ζ (qh (s:={ s with toks:=s.toks+1 }) (wm X hcd) ?_))));rw[hh];refine ζ (wpAny_alloc ?_);have he1:=π ({ cls:=.type "dict",data:=.dict #[] } : Obj) he;refine ζ (wpAny_update he1 ?_);refine Γ (a:=some s.heap.objs.size) ?_;have hg:((s.heap.push ({ cls:=.type "dict",data:=.dict #[] } : Obj)).update e fun o=>{ o with dict:=some s.heap.objs.size }).get? s.heap.objs.size=some ({ cls:=.type "dict",data:=.dict #[] } : Obj):=(kq.get?_update_ne _ _ _ _ ne).trans (kq.get?_push_at rfl rfl);have hE:((s.heap.push ({ cls:=.type "dict",data:=.dict #[] } : Obj)).update e fun o=>{ o with dict:=some s.heap.objs.size }).Ns s.heap.objs.size (fun _=>none):=⟨_,#[],_,hg,rfl,fun y hy=>absurd hy (by simp),fun _=>rfl⟩;refine ζ (Γ (ζ (wpAny_nsSet1 (kq.Ns1.of_empty hE) fun h' hn hs=>?_)));obtain⟨oD,esD,epD,hoD,hdD,hcD⟩:=hn.count (ql.cons name v ql.nil);refine ζ (wpAny_lookBehind hoD (by rw[hdD];exact pastItsLine_dict (Θ hcD (by rw[ii,List.length_nil];omega))) ?_);refine Γ (h h' s.heap.objs.size _ (ν _) ne ((hs.2 _ (lu ne)).trans (qg _ he1 rfl)) hn fun b o hb q=>?_);exact(hs.2 b (jb (io q))).trans ((kq.get?_update_ne _ _ _ _ hb).trans (π _ q))
theorem aGo{mA:Str->Option Value}{Q:Unit->ξ->Prop}(X:K.In s.heap)(c:bC K C R fI)(he:s.heap.get? e=some oe)(oc:oe.cls=.ref C)(hd:oe.data=.fields vs)(hx:oe.dict=some dx)(hN:s.heap.Ns1 dx mA)(hw:ql mA ns)(hz:ns.length<=ρ)(hf:nu K (.ref C) name=some none)
  (h:∀h',h'.Ns1 dx (fun y=>if y=name then some v else mA y)->oh dx s.heap h'->Q () { s with heap:=h',toks:=s.toks+2 }):
  ik (ir prog w) A (setAttr (.ref e) name v) Q E s:=by
 obtain⟨cd,hcd,hm,hh⟩:=c.clsIn;obtain⟨o1,es1,ep1,ho1,_⟩:=id hN;refine sZ X c (nR (od:=some o1) he oc hd (by rw[hx];exact ho1)) hf ?_;obtain⟨cc,dd,dt,sl⟩:=oe;cases oc;cases hd;cases hx;unfold sx wz instanceDict;refine ζ (Γ ?_);refine ζ (ζ (wpAny_loadPart he (ζ (qh (s:={ s with toks:=s.toks+1 }) (wm X hcd) ?_))));rw[hh];refine Γ (a:=some dx) (ζ (Γ (ζ (wpAny_nsSet1 (s:={ s with toks:=s.toks+1 }) hN fun h' hn hs=>?_))));obtain⟨oD,esD,epD,hoD,hdD,hcD⟩:=hn.count (ql.cons name v hw);refine ζ (wpAny_lookBehind hoD (by rw[hdD];exact pastItsLine_dict (Θ hcD (by rw[ii];omega))) ?_);exact Γ (h _ hn hs)
end
section
variable {prog:jy}{w:mf}{A:kg}{E:Value->ξ->Prop}{s:ξ}{K:υ}{e C R fI:Addr}{oe:Obj}{vs:Array Value}{name:Str}{v:Value}
theorem xget{Q:Value->ξ->Prop}(X:K.In s.heap)(c:bC K C R fI)(I:vn s.heap e oe C od)(hf:PySem.W.findObj K C od name=some (.value v))(hh:PySem.W.handedIn v=true)(h:Q v { s with toks:=s.toks+1 }):
  ik (ir prog w) A (getAttr (.ref e) name expr) Q E s:=by
 obtain⟨cd,hcd,hm,_⟩:=c.clsIn;have isB:wy (ir prog w) s.heap (isInstance (.ref e) (.type "BaseException")) true:=I.type.andThen (PySem.W.looks_mroIn X (by
  unfold ny;rw[hcd,wg,hm,if_neg (by intro z;cases z)];rfl))
 have L0:=I.type (M:=ir prog w);have L1:=qu (M:=ir prog w) X c.ga;have L2:=qu (M:=ir prog w) X c.gh;have L3:=PySem.W.looks_find (M:=ir prog w) X I hf;have hx0:(expr&&onTheHeap (Value.builtin "BaseException.__getattribute__"))=false:=by cases expr <;> rfl
 obtain⟨hp,g,d,t,os⟩:=s;unfold getAttr getAttrBy;refine ζ (wpAny_mkText (my (ζ (L0.at (ζ (L1.at ?_))))));show ik _ _ (getAttrByItsOwn _ _ _ _ _ _) _ _ _;unfold getAttrByItsOwn;refine ζ (show ik _ _ (typeLookup (.ref C) "__getattr__") _ _ _ from L2.at ?_);have FB:=PySem.F.attr_ValueError.ga;have hk:builtinKind "BaseException.__getattribute__" = some .slot:=by ac_rfl
 have hs:splitId "BaseException.__getattribute__" = some ("BaseException","__getattribute__"):=by ac_rfl
 refine ζ (zh (my ?_));unfold callGetattribute;rw[hx0,if_neg ψ];unfold boundAndCalled;rw[FB.bind];refine ζ (Γ (uq ?_));show wd _ _ (.call (.builtin "BaseException.__getattribute__") ⟨[.ref e,.str name t],[]⟩) _ _;refine vt FB.plain PySem.F.entry_bexc_ga ?_;refine @PySem.W.check_slot (ir prog w) _ _ _ "BaseException.__getattribute__" "BaseException" "__getattribute__" (.ref e) [.str name t] [] _ hk hs isB (PySem.F.args_bexc_ga _ _) ?_;unfold su.«object.__getattribute__» slotArgs;refine ζ (Γ ?_);refine ζ (Γ ?_);refine ζ (L0.at ?_);refine ζ (L3.at ?_);refine Γ ?_;show ik _ _ (handedOut v) _ _ _;rw[zk hh];exact Γ h
end
end L2
namespace L2
open PySem PySem.Spec PyProof.Rows
def Ex0 (e C:Addr) (dx:Option Addr):HO:=.ext fun h=>∃oe vs,h.get? e=some oe/\oe.cls=.ref C/\oe.dict=dx/\oe.data=.fields vs/\1<vs.size/\vs[1]?=some .none
def ExF (e C:Addr) (dx:Option Addr):HO:=.ext fun h=>∃oe vs,h.get? e=some oe/\oe.cls=.ref C/\oe.dict=dx/\oe.data=.fields vs
theorem Ex0.ok{h:kq}{e:Addr}{dx:Option Addr}(he:h.get? e=some oe)(hc:oe.cls=.ref C)(hx:oe.dict=dx)(hd:oe.data=.fields vs)(h1 : 1<vs.size)(hv:vs[1]?=some .none):vC P w H h e (Ex0 e C dx) :=
 ⟨⟨oe,vs,he,hc,hx,hd,h1,hv⟩,⟨oe,he⟩,fun _ _ ⟨oe,vs,a,b⟩ k=>⟨oe,vs,k _ a,b⟩⟩
theorem ExF.ok{h:kq}{e:Addr}{dx:Option Addr}(he:h.get? e=some oe)(hc:oe.cls=.ref C)(hx:oe.dict=dx)(hd:oe.data=.fields vs):vC P w H h e (ExF e C dx) :=
 ⟨⟨oe,vs,he,hc,hx,hd⟩,⟨oe,he⟩,fun _ _ ⟨oe,vs,a,b⟩ k=>⟨oe,vs,k _ a,b⟩⟩
theorem Xc.ok(x:Xc h e C dx T fl):vC P w H h e (ExF e C dx):=by
 obtain⟨oe,vs,he,hc,hx,hd,_⟩:=x;exact ExF.ok he hc hx hd
structure Fly (X:Cx) (pins:List (Addr×Obj)) (σ:St) (H:Hp) (s:ξ) (e C:Addr) (dx:Option Addr) (T:Addr) (fl:Option Value):Prop where
 inv:Inv X pins σ H s
 at_:H e=some (ExF e C dx)
 xc:Xc s.heap e C dx T fl
 ye:X.s₀.heap.objs.size<=e
 fp:T=e\/dZ X pins H T
section
variable {X:Cx}{pins:List (Addr×Obj)}{σ:St}{H H':Hp}{s s':ξ}{e C:Addr}{dx:Option Addr}{T:Addr}{fl:Option Value}
theorem Fly.moved(f:Fly X pins σ H s e C dx T fl){T':Addr}(m:Mv (frs X.stack) e T s.heap h')(hT:T'=T\/s.heap.objs.size<=T')(x':Xc h' e C dx T' fl'):
  Fly X pins σ H { s with heap:=h' } e C dx T' fl':=by
 have I:=f.inv;have nT:∀b u,H b=some u->b≠e->b≠T:=fun b u q ne z=>by
  rcases f.fp with y|y
  ·exact ne (z.trans y)
  ·rw[z,y.1]at q;cases q
 have hok:HOk X.prog X.w H h':=fun b u q=>by
  by_cases hb:b=e
  ·subst hb;rw[f.at_]at q;cases q;exact x'.ok
  ·refine(I.hok b u q).stay (fun c v hc z=>?_) (fun _ z=>z) fun _ _ z=>z;have hc':∃u',H c=some u'/\c≠e:=by
    rcases hc with rfl|hc
    ·exact⟨u,q,hb⟩
    ·exact⟨_,hc,fun y=>by rw[y,f.at_]at hc;cases hc⟩
   obtain⟨u',qc,nc⟩:=hc';exact(m c v z nc (nT c u' qc nc)).1 fun y=>by rw[I.stkFree c y]at qc;cases qc
 obtain⟨oe,vs,he,_⟩:=id x';have un:Un (frs X.stack) [T] H H s.heap h':=by
  have nn:∀b,H b=none->b≠e:=fun b n z=>by rw[z,f.at_]at n;cases n
  refine⟨fun b o q n hb hx=>(m b o q (nn b n) (fun z=>hx (by simp[z]))).1 hb,fun b o q n _ hx=>(m b o q (nn b n) (fun z=>hx (by simp[z]))).2,fun _ _ _ n _=>n,fun b o q hx=>?_,fun _ _ q=>q,fun _ _ _ q=>q,fun _ ps q=>⟨#[],by rw[q];simp⟩⟩
  by_cases hb:b=e
  ·exact⟨oe,hb ▸ he⟩
  ·obtain⟨_,sl,z⟩:=m b o q hb (fun z=>hx (by simp[z]));exact⟨_,z⟩
 have hch:∀b∈[T],(b∈X.ex\/X.s₀.heap.objs.size<=b)/\b≠X.env.locals/\(∀x c,X.env.cells.lookup x=some c->c≠b)/\∀p∈X.pn++pins,p.1≠b:=fun b hb=>by
  obtain rfl:b=T:=by simpa using hb
  rcases f.fp with y|y
  ·subst y;refine⟨.inr f.ye,fun z=>?_,fun x c q z=>?_,fun p hp z=>?_⟩
   ·have:=I.free;rw[←z,f.at_]at this;cases this
   ·have:=I.freeC x c q;rw[z,f.at_]at this;cases this
   ·have:=(I.pin p hp).2.1;rw[z,f.at_]at this;cases this
  ·exact⟨y.2.2.2.1,y.2.1,y.2.2.2.2.1,y.2.2.2.2.2⟩
 refine⟨I.call (g':=s.gens) (t':=s.toks) (d':=s.drawn) un hok I.bare hch,f.at_,x',f.ye,?_⟩;rcases hT with z|z
 ·rw[z];exact f.fp
 ·exact .inr (I.fpOk z (I.hok.fresh z))
theorem Xc.neT(x:Xc h e C dx T (some v)):T≠e:=by
 obtain⟨oe,vs,_,_,_,_,_,⟨z,_⟩|⟨_,_,_,_,n,_⟩⟩:=x
 ·cases z
 ·exact n
def CXE (P:jy) (w:mf):CXT:=fun outer H s E ev s'=>∃(e C:Addr) (dx:Option Addr) (T:Addr) (H':Hp),ev=.ref e/\s'.os=s.os/\AllBare s'.gens/\Un (frs outer) [] H H' s.heap s'.heap/\HOk P w H' s'.heap ∧
 H' e=some (ExF e C dx)/\Xc s'.heap e C dx T (some .none)/\s.heap.objs.size<=e/\s.heap.objs.size<=T/\H' T=none/\E ev none H'
theorem Fly.of_call{E:XK}(I:Inv X pins σ H s)(h:CXE X.prog X.w X.stack H s E ev s'):∃e C dx T H',ev=.ref e/\Fly X pins σ H' s' e C dx T (some .none)/\E ev none H':=by
 obtain⟨e,C,dx,T,H',rfl,os,ba,un,hok,at_,xc,ye,yT,hT,hE⟩:=h;have I':=I.call' (ch:=[]) os un hok ba (fun b hb=>absurd hb (by simp));exact⟨e,C,dx,T,H',rfl,⟨I',at_,xc,Θ I.sz ye,.inr (I.fpOk yT hT)⟩,hE⟩
end
section
variable {P:jy}{w:mf}{K:υ}{mg:Str->Option Value}{base:kq}{N:List Str}{qual:Str}{scope:Scope}{f:Addr}{cd:Value}{A:kg}{outer:List Env}{s₀ : ξ}{H₀ : Hp}{E E':XK}
theorem aCk(y:Fly (fY (CXE P w) P w K mg base N qual scope f cd A outer s₀ H₀ E) pins σ H s e C dx T fl)
  (hf:fl=none\/fl=some .none\/fl=some (uc s₀.heap.objs.size))(hE:E (.ref e) none H):(fY (CXE P w) P w K mg base N qual scope f cd A outer s₀ H₀ E).xe (.ref e) s:=by
 have I:=y.inv;refine aKg (base:=base) (env:=wn qual scope s₀.heap.objs.size f cd) (outer:=outer) I.ok.frames rfl I.stack y.xc hf fun h' T' hT x' m=>?_;have y':=y.moved m hT x';have I':=y'.inv;rcases y'.fp with z|z
 ·exact absurd z x'.neT
 refine⟨e,C,dx,T',H,rfl,I'.os,I'.bare,I'.base,I'.hok,y.at_,x',y.ye,?_,z.1,hE⟩;rcases z.2.2.2.1 with q|q
 ·exact absurd (show T'∈([]:List Addr) from q) (by simp)
 ·exact q
theorem aAv(hE:∀v d H',E' v d H'->E v d H'):xS (CXE P w) (fY (CXE P w) P w K mg base N qual scope f cd A outer s₀ H₀ E) E':=by
 intro pins σ H s ev s' I h;obtain⟨e,C,dx,T,H',rfl,y,q⟩:=Fly.of_call (X:=fY (CXE P w) P w K mg base N qual scope f cd A outer s₀ H₀ E) I h;exact aCk y (.inr (.inl rfl)) (hE _ _ _ q)
theorem tD : xS (CXE P w) X E0:=fun _ _ _ _ _ _ _ h=>by
 obtain⟨_,_,_,_,_,_,_,_,_,_,_,_,_,_,_,q⟩:=h;exact q.elim
def aDz (X:Cx) (S:St->Prop) (E:XK):Prop:=∀(pins:List (Addr×Obj)) (σ:St) (H:Hp) (s:ξ) (e C:Addr) (dx:Option Addr),S σ->Inv X pins σ H s->H e=some (Ex0 e C dx)->X.s₀.heap.objs.size<=e->E (.ref e) none (upd H e (ExF e C dx))->X.xe (.ref e) s
theorem Fly.start{H:Hp}(I:Inv X pins σ H s)(he:H e=some (Ex0 e C dx))(ye:X.s₀.heap.objs.size<=e):
  Fly X pins σ (upd H e (ExF e C dx)) s e C dx e none:=by
 obtain⟨⟨oe,vs,q,hc,hx,hd,h1,hv⟩,_⟩:=I.hok e _ he;have I':Inv X pins σ (upd H e (ExF e C dx)) s:=by
  have:=I.write (x:=e) (e:=e) (o:=ExF e C dx) (t':=s.toks) (h':=s.heap) (by rw[he];exact je) (.inl rfl) (fun _ _ _ z=>z) ⟨_,q⟩ (ExF.ok q hc hx hd);exact this
 exact⟨I',jQ,⟨oe,vs,q,hc,hx,hd,h1,.inl ⟨rfl,rfl,hv⟩⟩,ye,.inl rfl⟩
theorem nH:aDz (fY (CXE P w) P w K mg base N qual scope f cd A outer s₀ H₀ E) (fun _=>True) E:=fun pins σ H s e C dx _ I he ye hE=>aCk (Fly.start I he ye) (.inl rfl) hE
theorem ownE:PassesOwn (ir P w) (A.deeper (wn qual scope s₀.heap.objs.size f cd)) (wn qual scope s₀.heap.objs.size f cd) (fY (CXE P w) P w K mg base N qual scope f cd A outer s₀ H₀ E).xe:=PassesOwn.leaving
end
theorem Fun.okE{P:jy}{w:mf}{K:υ}{mg:Str->Option Value}{base:kq}{x qual:Str}{st:Stmt}{f:Addr}{fd:oz}{N ps:List Str}{k:Nat}{sp:Sp}(F:Fun K x qual st f fd)(S:jN N ps (jG st))(len:∀vs H Q E,sp vs H Q E->vs.length=ps.length)
  (hbody:∀(cdv:Value) (A:kg) (outer:List Env) (s:ξ) (H:Hp) (vs:List V) (Q:VK) (E:XK),vQ k (A.deeper (wn qual (jG st) s.heap.objs.size f cdv))->sp vs H Q E →
   ∃t,PSs (fY (CXE P w) P w K mg base N qual (jG st) f cdv A outer s H E) (yZ st) t/\t { nx:=fun _ H'=>Q .non H',rt:=Q } (start N vs) H):kJ P w K mg base (CXE P w) (k+1) f fd ps sp:=by
 obtain⟨oc,od,kV,doc,pm,an,cdv,ct,osl,rfl,lk,hcd⟩:=F.ex;exact aPn lk hcd S len fun A outer s H vs Q E hr hsp=>hbody cdv A outer s H vs Q E hr hsp
theorem Cx.Ok.re{X:Cx}(ok:X.Ok)(pn:List (Addr×Obj))(E:Value->ξ->Prop):Cx.Ok { X with pn:=pn,xe:=E } :=
 ⟨ok.mod,ok.kind,ok.glob,ok.blt,ok.above,ok.inj,ok.has,ok.cab,ok.hd,ok.frames,ok.stk,ok.exf,ok.bs,ok.bsz,ok.noex,ok.exfs,ok.funs,ok.frf⟩
theorem Cx.Ok.back{X:Cx}{pn:List (Addr×Obj)}{E:Value->ξ->Prop}(ok:Cx.Ok { X with pn:=pn,xe:=E }):X.Ok :=
 ⟨ok.mod,ok.kind,ok.glob,ok.blt,ok.above,ok.inj,ok.has,ok.cab,ok.hd,ok.frames,ok.stk,ok.exf,ok.bs,ok.bsz,ok.noex,ok.exfs,ok.funs,ok.frf⟩
section
variable {X:Cx}{pins:List (Addr×Obj)}{σ:St}{H:Hp}{s:ξ}
theorem Inv.re(I:Inv X pins σ H s)(pn pins':List (Addr×Obj))(E:Value->ξ->Prop)(h:∀p∈pn++pins',p∈X.pn++pins):Inv { X with pn:=pn,xe:=E } pins' σ H s :=
 ⟨I.ok.re pn E,I.os,I.bare,I.base,I.loc,I.cell,I.free,I.freeC,fun p hp=>I.pin p (h p hp),I.hok,I.len⟩
theorem Inv.back{pn:List (Addr×Obj)}{E:Value->ξ->Prop}(I:Inv { X with pn:=pn,xe:=E } pins' σ H s)(h:∀p∈X.pn++pins,p∈pn++pins'):Inv X pins σ H s :=
 ⟨I.ok.back,I.os,I.bare,I.base,I.loc,I.cell,I.free,I.freeC,fun p hp=>I.pin p (h p hp),I.hok,I.len⟩
def XT (X:Cx) (pn:List (Addr×Obj)) (S:St->Prop) (W:XK):Value->ξ->Prop:=fun ev s=>∃(e C:Addr) (dx:Option Addr) (T:Addr) (fl:Option Value) (σ:St) (H:Hp),
 ev=.ref e/\Fly { X with pn:=pn,xe:=fun _ _=>False } [] σ H s e C dx T fl/\(fl=none\/fl=some .none)/\S σ/\W ev none H
abbrev XB (X:Cx) (pn:List (Addr×Obj)) (S:St->Prop) (W:XK):Cx:={ X with pn:=pn,xe:=XT X pn S W }
theorem Fly.re{pn:List (Addr×Obj)}{E E':Value->ξ->Prop}(f:Fly { X with pn:=pn,xe:=E } pins σ H s e C dx T fl):Fly { X with pn:=pn,xe:=E' } [] σ H s e C dx T fl:=by
 refine⟨?_,f.at_,f.xc,f.ye,?_⟩
 ·exact Inv.re (X:={ X with pn:=pn,xe:=E }) f.inv pn [] E' (fun p hp=>by
   rw[li]at hp;exact nv _ hp)
 ·rcases f.fp with z|⟨a1,a2,a3,a4,a5,a6⟩
  ·exact .inl z
  ·exact .inr ⟨a1,a2,a3,a4,a5,fun p hp=>a6 p (by
    have hp':p∈pn++[]:=hp;rw[li]at hp';exact nv _ hp')⟩
def nN (CX:CXT) (X:Cx) (S:St->Prop) (E:XK):Prop:=∀(pins:List (Addr×Obj)) (σ:St) (H:Hp) (s:ξ) (e:Value) (s':ξ),S σ->Inv X pins σ H s->CX X.stack H s E e s'->X.xe e s'
theorem aOr : nN (CXE X.prog X.w) (XB X pn S W) S W:=by
 intro pins σ H s ev s' hS I h;obtain⟨e,C,dx,T,H',rfl,y,q⟩:=Fly.of_call (X:=XB X pn S W) I h;exact⟨e,C,dx,T,_,σ,H',rfl,y.re,.inr rfl,hS,q⟩
end
section
variable {X:Cx}{CX:CXT}{k:Nat}{f C:Addr}{fd:oz}{ps:List Str}{sp:Sp}{dvs:List V}{ds:List Value}{E:XK}{S:St->Prop}{x m:Str}{p pos apos:Pos}{e o:Expr}{es:List Expr}{ta:TE}{t:TA}
theorem aMx{Q:VK}(F:kJ X.prog X.w X.K X.mg X.base CX k f fd ps sp)(hr:vQ k X.A)(hb:Binds X.K fd ps ds)(hd:kN dvs ds)(hx:nN CX X S E)(hS:S σ)
  (I:Inv X pins σ H s)(r:kN vs us)(h:sp (vs++dvs) H Q E):ik (ir X.prog X.w) X.A (call (.ref f) us) (EP X pins σ Q) X.xe s:=by
 have r2:kN (vs++dvs) (us++ds):=r.append hd;have hl:(us++ds).length=ps.length:=by rw[←r2.length];exact F.len _ _ _ _ h
 refine uq (wf (F.run X.A X.stack s H ⟨us,[]⟩ (us++ds) (vs++dvs) Q E hr I.env0 (hb s us I.kIn hl) r2 h) fun r s' hq=>?_);cases r with
 |error e=>exact hx pins σ H s e s' hS I hq
 |ok fl =>
  cases fl with
  |ret u=>exact I.after hq
  |next=>exact jl hq
  |brk=>exact jl hq
  |cont=>exact jl hq
def aIw (S:St->Prop) (sp:Sp) (dvs:List V) (E:XK) (t:TA):TE:=fun σ H Q=>t σ H fun vs H1=>S σ/\sp (vs++dvs) H1 Q E
theorem aIn(F:kJ X.prog X.w X.K X.mg X.base CX k f fd ps sp)(hr:vQ k X.A)(hg:Gl X x)(hm:X.mg x=some (.ref f))(hk:keepIn X.K (.ref f)=true)(hb:Binds X.K fd ps ds)(hd:kN dvs ds)(hx:nN CX X S E)
  (ha:PA X (e::es) t)(hdb:(x == ("__debug__" : Str))=false:=by decide)(he:il (e::es) X.env=(false,eval e X.env)::il es X.env:=by rfl)(hpl:(rf pos (il es X.env)).any (·.1)=false:=by rfl):
  PE X (.Call (.Name x p) (e::es) [] pos) (aIw S sp dvs E t):=by
 intro pins s σ H Q I h;refine qi (cM I hg hm ?_ hdb);refine qj (h₀:=X.base) I.ok.mod.kin hk (thn (ha pos pins s σ H _ I h) fun us s1 ⟨vs,H1,I1,r,hS,q⟩=>⟨I1.kIn,?_⟩) he hpl;exact aMx F hr hb hd hx hS I1 r q
end
structure XCls (K:υ) (C:Addr) (bm:List Value):Prop where
 obj:∃(nm q:Str) (N:Addr) (bs:List Value) (hd:Bool) (sn:List Str) (sub:List Value) (ab:Bool) (col:Option Bool) (dd:Option Addr) (k0 k1 k2 k3 k5:Option Value) (ni:String),K.lookup C=some (excClassObj nm q C N bs bm hd sn sub ab col dd k0 k1 k2 k3 k5 ni)
 b:bm.contains (.type "BaseException")=true
abbrev XH (X:Cx) (e:Addr):Cx:={ X with A:=X.A.mark (some (.ref e)),calm:=false,xe:=fun _ _=>False }
section
variable {X:Cx}{pins:List (Addr×Obj)}{σ:St}{H:Hp}{s:ξ}
theorem Inv.toH(I:Inv X pins σ H s)(e:Addr):Inv (XH X e) pins σ H s :=
 ⟨⟨I.ok.mod,I.ok.kind,I.ok.glob,I.ok.blt,I.ok.above,I.ok.inj,I.ok.has,I.ok.cab,(fun z=>by cases z),I.ok.frames,I.ok.stk,I.ok.exf,I.ok.bs,I.ok.bsz,I.ok.noex,I.ok.exfs,I.ok.funs,I.ok.frf⟩,I.os,I.bare,I.base,I.loc,I.cell,I.free,I.freeC,I.pin,I.hok,I.len⟩
theorem Inv.ofH(hd:X.calm=true->X.A.handled=none)(I:Inv (XH X e) pins σ H s):Inv X pins σ H s :=
 ⟨⟨I.ok.mod,I.ok.kind,I.ok.glob,I.ok.blt,I.ok.above,I.ok.inj,I.ok.has,I.ok.cab,hd,I.ok.frames,I.ok.stk,I.ok.exf,I.ok.bs,I.ok.bsz,I.ok.noex,I.ok.exfs,I.ok.funs,I.ok.frf⟩,I.os,I.bare,I.base,I.loc,I.cell,I.free,I.freeC,I.pin,I.hok,I.len⟩
theorem Inv.unbound{h':kq}{m:Str->Option Value}{u:Option Value}{i:Nat}{n:Str}(I:Inv X pins σ H s)(hN:X.N.Nodup)(hi:X.N[i]?=some n)(hn:s.heap.Ns X.env.locals m)
  (hm:∀(j:Nat) (x:Str) (v:V),X.N[j]?=some x->σ[j]?=some (some v)->Vis X.env.scope x->∃u,RelV v u/\Look X.env s.heap m x u)
  (hn':h'.Ns X.env.locals (fun x=>if x=n then u else m x))(sb:oh X.env.locals s.heap h'):Inv X pins (σ.set i none) H { s with heap:=h' }:=by
 have kp:∀b o,b≠X.env.locals->s.heap.get? b=some o->h'.get? b=some o:=fun b o nb q=>(sb.2 b nb).trans q;have neL:∀b o,X.s₀.heap.get? b=some o->b≠X.env.locals:=fun b o e=>jb (ς (io e) I.ok.above);have B:=I.base;refine⟨I.ok,I.os,I.bare,⟨fun b o q n1 hb hx=>kp b o (neL b o q) (B.keep b o q n1 hb hx),fun b o q n1 hb hx=>?_,B.free,fun b o q hx=>?_,B.tups,B.frzs,B.tbls⟩,⟨_,hn',fun j x v e1 e2 e3=>?_⟩,fun x c e=>?_,I.free,I.freeC,fun p hp=>?_,?_,?_⟩
 ·obtain⟨sl,z⟩:=B.slot b o q n1 hb hx;exact⟨sl,kp b _ (neL b o q) z⟩
 ·obtain⟨o',z⟩:=B.there b o q hx;exact⟨o',kp b _ (neL b o q) z⟩
 ·have hj:j≠i:=fun z=>by
   subst z;rw[List.getElem?_set_self' ]at e2;cases hz : σ[j]? with
   |none=>rw[hz]at e2;cases e2
   |some _=>rw[hz]at e2;cases e2
  rw[zj (lu hj)]at e2;obtain⟨u',ru,l⟩:=hm j x v e1 e2 e3;have xn:x≠n:=fun z=>hj (oM hN e1 (z ▸ hi));refine⟨u',ru,?_⟩;rcases l with⟨k1,k2⟩|⟨k1,c,k2,o,ho,hd⟩
  ·exact .inl ⟨k1,by show(if x=n then u else m x)=some u';rw[if_neg xn];exact k2⟩
  ·exact .inr ⟨k1,c,k2,o,kp c o (I.cne x c k2) ho,hd⟩
 ·obtain⟨v,o,ho,hd⟩:=I.cell x c e;exact⟨v,o,kp c o (I.cne x c e) ho,hd⟩
 ·obtain⟨a1,a2,a3,a4,a5⟩:=I.pin p hp;exact⟨kp _ _ a3 a1,a2,a3,a4,a5⟩
 ·intro b o q;refine(I.hok b o q).stay (fun c v hc z=>kp c v ?_ z) (fun _ z=>z) fun _ _ z=>z;rintro rfl;rcases hc with z|z
  ·rw[←z,I.free]at q;cases q
  ·rw[I.free]at z;cases z
 ·rw[ux];exact I.len
def tTry (tb:(St->Prop)->XK->TS) (K:υ) (Cn:Addr) (i:Nat) (ts:TS):TS:=fun D σ H=>∃(S:St->Prop) (W:XK),tb S W D σ H ∧
 ∀(σ':St) (e:Addr) (H':Hp),S σ'->W (.ref e) none H'->∃C dx bm,H' e=some (ExF e C dx)/\XCls K C bm/\(iw C::bm).contains (.ref Cn)=true ∧
  ts { nx:=fun σ2 H2=>D.nx (σ2.set i none) H2,rt:=D.rt,bk:=fun σ2 H2=>D.bk (σ2.set i none) H2,ct:=fun σ2 H2=>D.ct (σ2.set i none) H2 } (σ'.set i (some (.ref e))) H'
theorem aKd{b0:Stmt}{suite:List Stmt}{rest:List ExceptHandler}{i:Nat}{tb:(St->Prop)->XK->TS}(hcalm:X.calm=true)(hst:X.stack=X.env::X.outer)(hfr:X.env.frame=some X.env.locals)
  (hg:Gl X cn)(hm:X.mg cn=some (.ref Cn))(hcl:XCls X.K Cn bmn)
  (hN:X.N.Nodup)(hi:X.N[i]?=some n)(hn:X.env.scope.names.lookup n=some .local)
  (hb:∀pn S W,PSs (XB X pn S W) body (tb S W))(hs:∀e,PSs (XH X e) (b0::suite) ts)(hdb:(cn == ("__debug__" : Str))=false:=by decide):
  PS X (.Try body (.ExceptHandler (some (.Name cn p)) (some n) (b0::suite) hp::rest) [] [] pos) (tTry tb X.K Cn i ts):=by
 intro pins s σ H D I h;obtain⟨S,W,hbody,hh⟩:=h;refine wpAny_Try_except (kj (hb (X.pn++pins) S W [] s σ H D (I.re (X.pn++pins) [] _ (fun q hq=>by rwa [li]at hq)) hbody) (fun f s1 hf=>?_) fun ev s1 hx=>?_)
 ·have bk:∀{σ':St}{H':Hp},Inv (XB X (X.pn++pins) S W) [] σ' H' s1->Inv X pins σ' H' s1:=fun {σ' H'} J=>J.back (fun q hq=>by rw[li];exact hq);cases f with
  |next =>
   obtain⟨σ',H',J,q⟩:=hf;exact wpAny_execs_nil ⟨σ',H',bk J,q⟩
  |brk=>obtain⟨σ',H',J,q⟩:=hf;exact⟨σ',H',bk J,q⟩
  |cont=>obtain⟨σ',H',J,q⟩:=hf;exact⟨σ',H',bk J,q⟩
  |ret u=>obtain⟨v,σ',H',J,r,q⟩:=hf;exact⟨v,σ',H',bk J,r,q⟩
 ·obtain⟨e,C,dx,T,fl,σ',H',rfl,y,hfl,hS,hW⟩:=hx;have hA:X.A.frames=some (X.env::X.outer):=hst ▸ I.ok.frames;have ff:s1.heap.FunFrames X.base (X.env::X.outer):=hst ▸ y.inv.stack;refine aFu hA hfr ff y.xc (hfl.imp id .inl) fun h1 T1 q1 x1 m1=>?_;have y1:=y.moved (by show Mv (frs X.stack) _ _ _ _;rw[hst];exact m1) q1 x1;refine lF x1 fun h2 x2 m2=>?_;have y2:=y1.moved (h':=h2) (fun b o q ne nT=>⟨fun _=>(m2 b o q ne nT).1 (by simp),(m2 b o q ne nT).2⟩) (.inl rfl) x2;obtain⟨C',dx',bm,hat,hxc,hmro,hsu⟩:=hh σ' e H' hS hW;have eqs:C'=C/\dx'=dx:=by
   have z:=y.at_.symm.trans hat;obtain⟨⟨oe,vs,a1,a2,a3,_⟩,_⟩:=y.inv.hok e _ y.at_;obtain⟨⟨oe',vs',b1,b2,b3,_⟩,_⟩:=y.inv.hok e _ hat;rw[a1]at b1;cases b1;exact⟨by rw[a2]at b2;exact(iw.inj b2).symm,b3.symm.trans a3⟩
  obtain⟨rfl,rfl⟩:=eqs;have I2:Inv X pins σ' H' { s1 with heap:=h2 }:=y2.inv.back (fun q hq=>by rw[li];exact hq);refine wpAny_handleBy_cons (codeAny_handlers_test ?_) (by intro z;cases z);refine cM (X:=XH X e) (I2.toH e) hg hm ?_ hdb;obtain⟨oe,vs,he,oc,_⟩:=id x2;have match_:∀{Q:Bool->ξ->Prop}{E:Value->ξ->Prop},Q true { s1 with heap:=h2 }->ik (ir X.prog X.w) (X.A.mark (some (.ref e))) (excMatches (.ref e) (.ref Cn)) Q E { s1 with heap:=h2 }:=fun {Q E} q=>by
   obtain⟨nm1,q1,N1,bs1,hd1,sn1,su1,ab1,co1,dd1,j0,j1,j2,j3,j5,ni1,lk1⟩:=hxc.obj;obtain⟨nm2,q2,N2,bs2,hd2,sn2,su2,ab2,co2,dd2,l0,l1,l2,l3,l5,ni2,lk2⟩:=hcl.obj;exact aQh (I2.kIn _ _ lk1) (I2.kIn _ _ lk2) hcl.b he oc hmro q
  refine match_ ?_;refine codeAny_handlers_suite_as ?_;refine lF x2 fun h3 x3 m3=>?_;have y3:=y2.moved (h':=h3) (fun b o q ne nT=>⟨fun _=>(m3 b o q ne nT).1 (by simp),(m3 b o q ne nT).2⟩) (.inl rfl) x3;have I3:Inv X pins σ' H' { s1 with heap:=h3 }:=y3.inv.back (fun q hq=>by rw[li];exact hq);refine lB (X:=XH X e) (I3.toH e) hN hi (.inl hn) (v:=.ref e) rfl (fun s4 I4 _=>?_) (.inr hn);refine kj (hs e pins s4 _ H' _ I4 hsu) (fun fl5 s5 hf=>?_) fun _ _ z=>z.elim;have fin:∀{σ5:St}{H5:Hp}{P5:ξ->Prop},Inv (XH X e) pins σ5 H5 s5->(∀s6,Inv X pins (σ5.set i none) H5 s6->P5 s6) →
    ik (ir X.prog X.w) X.A (do bindName X.env n .none;unbindBehindTheSuite X.env n hp) (fun _ s6=>P5 s6) X.xe s5:=fun {σ5 H5 P5} J q=>by
   have J':Inv X pins σ5 H5 s5:=J.ofH I.ok.hd;refine ζ (wpAny_bindName (lB (X:=X) J' hN hi (.inl hn) (v:=.non) rfl (fun s6 J6 _=>?_) (.inr hn)));obtain⟨m,hm6,hl6⟩:=id J6.loc;have hv:∃v,m n=some v:=by
    have hiσ:i<σ5.length:=by rw[J'.len];exact(η.mp hi).1
    obtain⟨u,_,l⟩:=hl6 i n .non hi (by rw[xy hiσ]) (.inl hn);rcases l with⟨_,z⟩|⟨z,_⟩
    ·exact⟨u,z⟩
    ·have hn':X.env.kindOf n=some .local:=hn;rcases z with z|z <;> (rw[hn']at z;cases z)
   obtain⟨v,hv⟩:=hv;unfold unbindBehindTheSuite;refine wx (wpAny_unbindName_local hn hm6 hv (by rw[J'.ok.kind];rfl) fun h7 u7 hn7 sb7=>?_);have:=J6.unbound hN hi hm6 hl6 hn7 sb7;rw[List.set_set]at this;exact q _ this
  cases fl5 with
  |next=>obtain⟨σ5,H5,J,q⟩:=hf;exact fin J fun s6 J6=>⟨_,H5,J6,q⟩
  |brk=>obtain⟨σ5,H5,J,q⟩:=hf;exact fin J fun s6 J6=>⟨_,H5,J6,q⟩
  |cont=>obtain⟨σ5,H5,J,q⟩:=hf;exact fin J fun s6 J6=>⟨_,H5,J6,q⟩
  |ret u=>obtain⟨v,σ5,H5,J,r,q⟩:=hf;exact fin J fun s6 J6=>⟨v,_,H5,J6,r,q⟩
end
def XD (dx:Addr) (fs:List (Str×V)):HO:=.ext fun h=>∃mA,h.Ns1 dx mA/\(∀f,zT (fs.lookup f) (mA f))/\ql mA (fs.map (·.1))
theorem XD.ok{h:kq}{fs:List (Str×V)}(a:∃mA,h.Ns1 dx mA/\(∀f,zT (fs.lookup f) (mA f))/\ql mA (fs.map (·.1))):vC P w H h dx (XD dx fs):=by
 obtain⟨mA,⟨o,es,ep,ho,z⟩,r⟩:=id a;exact⟨a,⟨o,ho⟩,fun h1 h2 ⟨mA,⟨o,es,ep,ho,z⟩,r⟩ k=>⟨mA,⟨o,es,ep,k _ ho,z⟩,r⟩⟩
theorem aPv{H:Hp}(e:H a=some o):upd H a o=H:=by
 funext b
 unfold upd
 split
 ·rename_i q;rw[q,e]
 ·rfl
section
variable {X:Cx}{pins:List (Addr×Obj)}{σ:St}{H:Hp}{s:ξ}{e C R fI dx:Addr}
theorem Inv.xfirst{h':kq}{t':Nat}{fs:List (Str×V)}(I:Inv X pins σ H s)(he:H e=some (Ex0 e C none))(hx:s.heap.objs.size<=dx)(ne:dx≠e)(g:h'.get? e=some oe)(oc:oe.cls=.ref C)(od:oe.dict=some dx)(hd:oe.data=.fields vs)(h1 : 1<vs.size)(hv:vs[1]?=some .none)
  (hn:∃mA,h'.Ns1 dx mA/\(∀f,zT (fs.lookup f) (mA f))/\ql mA (fs.map (·.1)))(k:∀b o,b≠e->s.heap.get? b=some o->h'.get? b=some o):
  Inv X pins σ (upd (upd H dx (XD dx fs)) e (Ex0 e C (some dx))) { s with heap:=h',toks:=t' }:=by
 have nx:H dx=none:=I.hok.fresh hx;have eqs:∀b u,H b=some u->b≠e->upd (upd H dx (XD dx fs)) e (Ex0 e C (some dx)) b=some u:=fun b u q nb=>by
  rw[jZ nb,jZ (jL q nx)];exact q
 refine I.un ⟨fun b o q n _ _=>k b o (jL he n).symm q,fun b o q n _ _=>⟨o.slots,k b o (jL he n).symm q⟩,fun b o q n _=>?_,fun b o q _=>?_,fun b xs q=>?_,fun b o u q=>?_,fun b ps q=>⟨#[],?_⟩⟩ fun b u q=>?_
 ·rw[jZ (jL he n).symm,jZ (jb (ς (io q) hx))];exact n
 ·by_cases hb:b=e
  ·exact⟨oe,hb ▸ g⟩
  ·exact⟨o,k b o hb q⟩
 ·exact eqs b _ q fun z=>by rw[z,he]at q;cases q
 ·exact eqs b _ q fun z=>by rw[z,he]at q;cases q
 ·rw[eqs b _ q fun z=>by rw[z,he]at q;cases q];simp
 ·by_cases hb:b=e
  ·subst hb;rw[jQ]at q;cases q;exact Ex0.ok g oc od hd h1 hv
  ·rw[jZ hb]at q
   by_cases hb2:b=dx
   ·subst hb2;rw[jQ]at q;cases q;exact XD.ok hn
   ·rw[jZ hb2]at q;refine(I.hok b u q).stay (fun c v hc z=>k c v ?_ z) (fun c z=>eqs c _ z fun y=>by rw[y,he]at z;cases z) fun c xs z=>eqs c _ z fun y=>by rw[y,he]at z;cases z
    rcases hc with y|y
    ·rw[y];exact hb
    ·intro z;rw[z,he]at y;cases y
def sXfld (K:υ) (ta tv:TE) (f:Str):TS:=fun D σ H=>tv σ H fun y H1=>ta σ H1 fun x H2=>∃e C R fI,x=.ref e/\bC K C R fI/\nu K (.ref C) f=some none ∧
 ((H2 e=some (Ex0 e C none)/\∀dx,H2 dx=none->D.nx σ (upd (upd H2 dx (XD dx [(f,y)])) e (Ex0 e C (some dx)))) ∨
   ∃dx fs,H2 e=some (Ex0 e C (some dx))/\H2 dx=some (XD dx fs)/\fs.length<1000/\D.nx σ (upd H2 dx (XD dx (aG f y fs))))
theorem aRk{Q:Unit->ξ->Prop}(I:Inv X pins σ H s)(c:bC X.K C R fI)(hf:nu X.K (.ref C) f=some none)(ry:RelV y u){N:Hp->Prop}
  (h:(H e=some (Ex0 e C none)/\∀dx,H dx=none->N (upd (upd H dx (XD dx [(f,y)])) e (Ex0 e C (some dx))))\/∃dx fs,H e=some (Ex0 e C (some dx))/\H dx=some (XD dx fs)/\fs.length<1000/\N (upd H dx (XD dx (aG f y fs))))
  (q:∀s' H',Inv X pins σ H' s'->N H'->Q () s'):ik (ir X.prog X.w) A (setAttr (.ref e) f u) Q E s:=by
 rcases h with⟨he,hN⟩|⟨dx,fs,he,hd,hl,hN⟩
 ·obtain⟨⟨oe,vs,g,oc,ox,od,h1,hv⟩,_⟩:=I.hok e _ he;refine aDj I.kIn c g oc od ox hf fun h' dx tk hx ne g' hn k=>?_;refine q _ _ (I.xfirst he hx ne g' oc rfl od h1 hv ⟨_,hn,fun z=>?_,fun z hz=>?_⟩ k) (hN dx (I.hok.fresh hx))
  ·show zT (tu z [(f,y)]) (if z=f then some u else none)
   by_cases hz:z=f
   ·rw[if_pos hz,hz];simp only[tu,beq_self_eq_true];exact ry
   ·have hb:(z == f)=false:=beq_eq_false_iff_ne.mpr hz;rw[if_neg hz];simp only[tu,hb];exact je
  ·by_cases hz':z=f
   ·rw[hz'];exact Ψ.mpr rfl
   ·exact absurd (if_neg hz') hz
 ·obtain⟨⟨oe,vs,g,oc,ox,od,h1,hv⟩,_⟩:=I.hok e _ he;obtain⟨⟨mA,hn,r,wi⟩,_⟩:=I.hok dx _ hd;refine aGo I.kIn c g oc od ox hn wi (by rw[δ,jk];omega) hf fun h' hn' sb=>?_;have ho:∃o,h'.get? dx=some o:=let ⟨o,_,_,e',_⟩:=hn'; ⟨o,e'⟩;refine q _ _ (I.write (x:=dx) (e:=dx) (o:=XD dx (aG f y fs)) (by rw[hd];exact je) (.inl rfl) (fun b o hb z=>(sb.2 b hb).trans z) ho (XD.ok ⟨_,hn',fun z=>?_,fun z hz=>?_⟩)) hN
  ·show zT ((aG f y fs).lookup z) (if z=f then some u else mA z);rw[eB]
   by_cases q:z=f
   ·rw[if_pos q,if_pos q];exact ry
   ·rw[if_neg q,if_neg q];exact r z
  ·by_cases q:z=f
   ·rw[q];exact(bN f y fs).1
   ·refine(bN f y fs).2 z (wi z fun y'=>hz ?_);show(if z=f then some u else mA z)=none;rw[if_neg q];exact y'
theorem aMy{pos:Pos}(ha:PE X o ta)(hv:PE X value tv)(hs:swapsWith value (some (.Attribute o f pos')) pos.line X.env=pure false:=by rfl):PS X (.Assign [.Attribute o f pos'] value pos) (sXfld X.K ta tv f):=by
 intro pins s σ H D I h;refine plainObj_wpAny_Assign_Attribute (thn (hv pins s σ H _ I h) fun u s1 zq=>zq.el fun y H1 I1 ry h1=>thn (ha pins s1 σ H1 _ I1 h1) fun ov s2 zq=>?_) hs;obtain⟨x,H2,I2,rx,e,C,R,fI,ex,c,hf,h2⟩:=zq;subst ex;obtain rfl:ov=iw e:=rx;exact aRk I2 c hf ry h2 fun s' H' I' q=>⟨σ,H',I',q⟩
def aPt (K:υ) (ta:TE) (f:Str):TE:=fun σ H Q=>ta σ H fun x H1=>∃e C R fI dx fs v,x=.ref e/\(H1 e=some (ExF e C (some dx))\/H1 e=some (Ex0 e C (some dx)))/\H1 dx=some (XD dx fs)/\bC K C R fI/\nu K (.ref C) f=some none/\fs.lookup f=some v/\Q v H1
theorem aMz(he:PE X o ta)(hb:vd o f X.env (eval o X.env)=eval o X.env):PE X (.Attribute o f pos) (aPt X.K ta f):=by
 intro pins s σ H Q I h;refine aFk hb (thn (he pins s σ H _ I h) fun u s1 zq=>?_);obtain⟨x,H1,I1,rx,e,C,R,fI,dx,fs,v,ex,ea,ed,c,hf,l,q⟩:=zq;subst ex;obtain rfl:u=iw e:=rx;obtain⟨⟨mA,hn,r,wi⟩,_⟩:=I1.hok dx _ ed;obtain⟨u',hu,ru⟩:=zT.some_of (v:=v) (o:=mA f) (by rw[←l];exact r f);obtain⟨oe,vs,g,oc,ox,od⟩ : ∃oe vs,s1.heap.get? e=some oe/\oe.cls=.ref C/\oe.dict=some dx/\oe.data=.fields vs:=by
  rcases ea with ea|ea
  ·obtain⟨⟨oe,vs,g,oc,ox,od⟩,_⟩:=I1.hok e _ ea;exact⟨oe,vs,g,oc,ox,od⟩
  ·obtain⟨⟨oe,vs,g,oc,ox,od,_⟩,_⟩:=I1.hok e _ ea;exact⟨oe,vs,g,oc,ox,od⟩
 obtain⟨o1,ho,hl⟩:=iW hn;obtain⟨cd,hcd,hm,hh⟩:=c.clsIn;have hh':vh X.K C=true:=by unfold vh;rw[hcd];exact hh
 exact xget I1.kIn c (nR (od:=some o1) g oc od (by rw[ox];exact ho)) (PySem.W.findObj_own hh' hf rfl (by rw[hl,hu])) (tK ru) ⟨v,H1,I1.tok _,ru,q⟩
end
structure aPe (K:υ) (B f:Addr):Prop where
 r:PySem.W.readsIn K B (.type "type")=true
 fd:PySem.W.findCls K (.ref B) (.type "type") "__init__" = some (.val (.ref f))
 g:tw K (.ref B) "__getattribute__" = some (some (.builtin "type.__getattribute__"))
 k:keepIn K (.ref f)=true
structure aIx (K:υ):Prop where
 ga:nu K (.type "type") "__getattribute__" = some (some (.builtin "type.__getattribute__"))
 sub:PySem.W.subIn K (.type "type") (.type "type")=some true
 f:PySem.W.findCls K (.type "ValueError") (.type "type") "__init__" = some (.val (.builtin "ValueError.__init__"))
theorem aIq:typeOf (.type "ValueError")=pure (.type "type"):=by kernel_rfl
theorem aQa:opaqueClassAbove (.type "ValueError")=pure none:=by kernel_rfl
theorem aKm:hookBefore (.type "type")=pure none:=by kernel_rfl
theorem aKq:typeLookup (.type "type") "__getattribute__" = pure (some (.builtin "type.__getattribute__")):=by rw[typeLookup_type,builtinLookup_eq_fast];kernel_rfl
theorem aQn:specialOf (.type "ValueError") "__getattribute__" = pure (some (.builtin "type.__getattribute__")):=by
 unfold specialOf;rw[aIq];show typeLookup (.type "type") "__getattribute__" = _;exact aKq
section
variable {X:Cx}{CX:CXT}{k:Nat}{f B C R:Addr}{fd:oz}{ps:List Str}{sp:Sp}{dvs:List V}{ds:List Value}{E:XK}{x:Str}{p pos apos:Pos}{e o:Expr}{es:List Expr}{t:TA}
theorem aHv(c:aPe X.K B f)(ho:PE X o (tC (.ref B)))(F:kJ X.prog X.w X.K X.mg X.base CX k f fd ps sp)(hr:vQ k X.A)(hb:Binds X.K fd ps ds)(hd:kN dvs ds)(hx:xS CX X E)(ha:PA X (e::es) t)
  (hst:il (e::es) X.env=(false,eval e X.env)::il es X.env:=by rfl)(hpl:(rf pos (il es X.env)).any (·.1)=false:=by rfl)
  (ht:eval (.Call (.Attribute o "__init__" apos) (e::es) [] pos) X.env=(do
   let ov ←eval o X.env
   standAt apos.atName
   let (f,first) ←xb [ov] (wc ov "__init__" pl)
   callWith pos f first (rf pos (il (e::es) X.env)) (backToKw pos (xo [] X.env))):=by rfl):
  PE X (.Call (.Attribute o "__init__" apos) (e::es) [] pos) (tM sp dvs E t):=by
 intro pins s σ H Q I h;refine sv (pl:=pl) (thn (ho pins s σ H (fun v H1=>v=.ref B/\tM sp dvs E t σ H1 Q) I ⟨rfl,h⟩) fun u s1 zq=>?_) ht;obtain⟨x,H1,I1,rx,ex,q⟩:=zq;subst ex;obtain rfl:u=iw B:=rx;refine PySem.W.method_cls I1.kIn c.g (PySem.W.cls_value I1.kIn c.r c.fd rfl ?_);refine qj (first:=[]) (h₀:=X.base) I.ok.mod.kin c.k (thn (ha pos pins _ σ H1 _ (I1.tok _) q) fun us s2 zq=>zq.el fun vs H2 I2 r q2=>⟨I2.kIn,?_⟩) hst hpl;exact pH F hr hb hd hx I2 r q2
def aLu (K:υ) (t:TA):TE:=fun σ H Q=>t σ H fun vs H1=>∃e v C R fI dx,vs=[.ref e,v]/\H1 e=some (Ex0 e C dx)/\bC K C R fI/\Q .non H1
theorem aJj(c:aIx X.K)(ho:PE X o (tC (.ty "ValueError")))(ha:PA X (e::es) t)
  (hst:il (e::es) X.env=(false,eval e X.env)::il es X.env:=by rfl)(hpl:(rf pos (il es X.env)).any (·.1)=false:=by rfl)
  (ht:eval (.Call (.Attribute o "__init__" apos) (e::es) [] pos) X.env=(do
   let ov ←eval o X.env
   standAt apos.atName
   let (f,first) ←xb [ov] (wc ov "__init__" pl)
   callWith pos f first (rf pos (il (e::es) X.env)) (backToKw pos (xo [] X.env))):=by rfl):
  PE X (.Call (.Attribute o "__init__" apos) (e::es) [] pos) (aLu X.K t):=by
 intro pins s σ H Q I h;refine sv (pl:=pl) (thn (ho pins s σ H (fun v H1=>v=.ty "ValueError"/\aLu X.K t σ H1 Q) I ⟨rfl,h⟩) fun u s1 zq=>?_) ht;obtain⟨x,H1,I1,rx,ex,q⟩:=zq;subst ex;obtain rfl:u=Value.type "ValueError":=rx;have key:∀{Q':Value×List Value->ξ->Prop},Q' (.builtin "ValueError.__init__",[]) { s1 with toks:=s1.toks+1 }->ik (ir X.prog X.w) X.A (wc (.type "ValueError") "__init__" pl) Q' X.xe s1:=fun {Q'} q'=>by
  unfold wc;refine ζ ((vg aQn).here ?_);dsimp only;rw[if_pos PySem.W.canon_tga];refine ζ (PySem.W.cls_open (hook:=none) I1.kIn (vg aQa) (vg aIq) c.ga (vg aKm) c.sub c.f (Γ ?_));show ik _ _ (handedOut (.builtin "ValueError.__init__")) _ _ _;rw[zk (v:=.builtin "ValueError.__init__") rfl];exact Γ (Γ q')
 refine key ?_;refine za (thn (ha pos pins _ σ H1 _ (I1.tok _) q) fun us s2 zq=>?_) hst hpl;obtain⟨vs,H2,I2,r,e',v,C,R,fI,dx,ev,he,cx,q2⟩:=zq;subst ev;cases r with
 |cons r1 r2 =>
  cases r2 with
  |cons r3 r4 =>
   cases r4;cases r1;obtain⟨⟨oe,vs,g,oc,ox,od,h1,hv⟩,_⟩:=I2.hok e' _ he;obtain⟨nm,qn,N,bs,sn,sub,ab,col,dd,k0,k1,k2,k3,k5,mN,oI,hC,_⟩:=cx.cls I2.kIn;obtain⟨hh,gg,d,tk,os⟩:=s2;refine xinit (aIs R) hC g oc od h1 fun h' oe' vs' kp g' oc' ox' od' sz hv'=>?_;have I3:=I2.write (x:=e') (e:=e') (o:=Ex0 e' C dx) (t':=tk) (h':=h') (by rw[he];exact je) (.inl rfl) (fun b o nb z=>kp b o nb z) ⟨_,g'⟩ (Ex0.ok g' (oc'.trans oc) (ox'.trans ox) od' (by rw[sz];exact h1) (hv'.trans hv));rw[aPv he]at I3;exact⟨.non,H2,I3,rfl,q2⟩
theorem aHp{H:Hp}{Q:VK}(c:bC X.K C R f)(F:kJ X.prog X.w X.K X.mg X.base CX k f fd ps sp)(hr:vQ (k+1) X.A)(hb:Binds X.K fd ps ds)(hd:kN dvs ds)
  (hx:xS CX X E)(I:Inv X pins σ H s)(r:kN vs us)(hz:vs.length<=ρ)(h:∀e,H e=none->sp (.ref e::(vs++dvs)) (upd H e (Ex0 e C none)) (fun v H2=>v=.non/\Q (.ref e) H2) E):
  ik (ir X.prog X.w) X.A (call (.ref C) us) (fun u s'=>∃e H',u=.ref e/\X.s₀.heap.objs.size<=e/\Inv X pins σ H' s'/\Q (.ref e) H') X.xe s:=by
 obtain⟨nm,qn,N,bs,sn,sub,ab,col,dd,k0,k1,k2,k3,k5,mN,oI,hC,hN,hi,hf,hfc⟩:=c.cls I.kIn;obtain⟨hh,g,d,t,os⟩:=s;refine xmake (aIs R) hC hN hi hf hfc (by rw[←r.length];exact hz) fun h' e mk ye=>?_;obtain⟨kp,en,t0,e1,tn,e2⟩:=mk;have hE:H e=none:=I.hok.fresh ye;have I2:Inv X pins σ (upd H e (Ex0 e C none)) ⟨h',g,d,t,os⟩:=I.laid (a:=e) (o:=Ex0 e C none) (t':=t) kp ye (Ex0.ok e1 rfl rfl rfl (by show 1<6;decide) rfl);have hq:=h e hE;have r2:kN (V.ref e::(vs++dvs)) (iw e::(us++ds)):=.cons rfl (r.append hd);have hl:(iw e::us++ds).length=ps.length:=by
  have e':=r2.length;rw[F.len _ _ _ _ hq]at e';exact e'.symm
 refine uq (wf (F.run _ X.stack _ _ ⟨iw e::us,[]⟩ (iw e::(us++ds)) _ _ E (hr.make C us []) (I2.env0.make C us []) (hb _ (iw e::us) I2.kIn hl) r2 hq) fun rr s' hq'=>?_);cases rr with
 |error ev=>exact hx pins σ _ _ ev s' I2 hq'
 |ok fl =>
  cases fl with
  |ret u =>
   obtain⟨v,H',I3,rv,ev,q3⟩:=I2.after hq';subst ev;exact⟨rv,e,H',rfl,Θ I.sz ye,I3,q3⟩
  |next=>exact jl hq'
  |brk=>exact jl hq'
  |cont=>exact jl hq'
inductive wT (S:St->Prop) (C:Addr) (sp:Sp) (dvs:List V) (E:XK) (t:TA) (σ:St) (H:Hp):Prop|mk:S σ->(t σ H fun vs H1=>vs.length<=1000/\∀e,H1 e=none->sp (.ref e::(vs++dvs)) (upd H1 e (Ex0 e C none)) (fun v H2=>v=.non/\∃e' dx,V.ref e=.ref e'/\H2 e'=some (Ex0 e' C dx)/\E (.ref e') none (upd H2 e' (ExF e' C dx))) E0)->wT S C sp dvs E t σ H
def aLa (S:St->Prop) (C:Addr) (sp:Sp) (dvs:List V) (E:XK) (t:TA):TS:=fun _ σ H=>wT S C sp dvs E t σ H
theorem aJp(c:bC X.K C R f)(F:kJ X.prog X.w X.K X.mg X.base (CXE X.prog X.w) k f fd ps sp)(hr:vQ (k+1) X.A)(hg:Gl X x)(hm:X.mg x=some (.ref C))(hb:Binds X.K fd ps ds)(hd:kN dvs ds)(hra:aDz X S E)(ha:PA X (e::es) t)
  (hdb:(x == ("__debug__" : Str))=false:=by decide)(he:il (e::es) X.env=(false,eval e X.env)::il es X.env:=by rfl)(hpl:(rf pos (il es X.env)).any (·.1)=false:=by rfl):
  PS X (.Raise (some (.Call (.Name x p) (e::es) [] pos)) none rpos) (aLa S C sp dvs E t):=by
 intro pins s σ H D I h;obtain⟨hS,h⟩:=h;refine aSd hr.hd ?_;refine qi (cM I hg hm ?_ hdb);refine qj (h₀:=X.base) I.ok.mod.kin c.kp (thn (ha pos pins s σ H _ I h) fun us s1 ⟨vs,H1,I1,r,hz,q⟩=>⟨I1.kIn,?_⟩) he hpl;refine thn (aHp (E:=E0) (Q:=fun v H2=>∃e' dx,v=.ref e'/\H2 e'=some (Ex0 e' C dx)/\E (.ref e') none (upd H2 e' (ExF e' C dx))) c F hr hb hd tD I1 r (by rw[jk];omega) q) fun u s2 zq=>?_;obtain⟨e',H2,eu,ye,I2,e'',dx,e3,h2,hE⟩:=zq
 ·cases e3;obtain⟨⟨oe,vs',g,oc,ox,od,h1,hv⟩,_⟩:=I2.hok e' _ h2;obtain⟨nm,qn,N,bs,sn,sub,ab,col,dd,k0,k1,k2,k3,k5,mN,oI,hC,_⟩:=c.cls I2.kIn;obtain⟨c1,d1,dt1,sl1⟩:=oe;cases oc;cases ox;cases od;exact⟨e',C,N,nm,qn,bs,_,true,sn,sub,ab,col,dd,k0,k1,k2,k3,k5,_,vs',sl1,eu,aIs R,hC,g,hv,hra pins σ H2 s2 e' C _ hS I2 h2 ye hE⟩
end
theorem aDl{v i p}{es:List Expr}: il (.Subscript v i p::es) env=(false,eval (.Subscript v i p) env)::il es env:=rfl
theorem fN{l o r p}{es:List Expr}: il (.BinOp l o r p::es) env=(false,eval (.BinOp l o r p) env)::il es env:=rfl
section
variable {X:Cx}
theorem cB(hc:PT X c tc)(ha:PSx X a t)(hb:PSs X b u):wE X (.If c a b pos) (aGz tc t u):=⟨kK hc ha.h hb⟩
end
section
variable {X:Cx}
def tyM (K:υ) (x:V) (H:Hp) (t:String):Prop:=tyN K x H t\/(t = "dict"/\∃p kvs,x=.ref p/\H p=some (.dK kvs))
theorem qP:xA X (.builtin "isinstance") (fun xs H Q=>∃x T t,xs=[x,.ty T]/\T∈aBs/\tyM X.K x H t/\Q (.bl (isa t T)) H):=by
 intro pins s σ H xs us Q I r h;obtain⟨x,T,t,rfl,hT,ht|⟨rfl,p,kvs,rfl,hp⟩,q⟩:=h
 ·exact oQ pins s σ H _ us Q I r ⟨x,T,t,rfl,hT,ht,q⟩
 ·exact sV pins s σ H _ us Q I r ⟨p,T,kvs,rfl,hT,hp,q⟩
end
def aOu (v:V):Prop:=eG v=true\/∃r,v=.ref r
theorem aKr:∀{v:V},eG v=true->eqV v v=true
 |.non,_=>rfl
 |.bl b,_=>by cases b <;> rfl
 |.int i,_=>by simp[eqV]
 |.str x,_=>by simp[eqV]
theorem aHs(h:aOu v)(r:RelV v u)(r':RelV v u'):kn A s u u' true:=by
 rcases h with h|⟨a,rfl⟩
 ·have:=aJg (A:=A) (s:=s) r r' h h;rw[aKr h]at this;exact this
 ·cases r;cases r';exact kn.same _
end L2
namespace L2
open PySem PyProof.Rows
section
variable {prog:jy}{w:mf}{A:kg}{E:Value->ξ->Prop}{s:ξ}{K:υ}{e C R fI:Addr}{oe:Obj}
theorem aQl{Q:Option Value->ξ->Prop}(X:K.In s.heap)(c:bC K C R fI)(I:vn s.heap e oe C od)(hf:PySem.W.findObj K C od "__class__" = some (.bind (.builtin "getset_descriptor.__get__") (.builtin "object.__class__")))(hmo:ny K C (.type "object")=some true)(h:Q (some (.ref C)) { s with toks:=s.toks+1 }):
  ik (ir prog w) A (getAttr? (.ref e) "__class__") Q E s:=by
 obtain⟨cd,hcd,hm,_⟩:=c.clsIn;have isB:wy (ir prog w) s.heap (isInstance (.ref e) (.type "BaseException")) true:=I.type.andThen (PySem.W.looks_mroIn X (by
  unfold ny;rw[hcd,wg,hm,if_neg (by intro z;cases z)];rfl))
 have L0:=I.type (M:=ir prog w);have L1:=qu (M:=ir prog w) X c.ga;have L2:=qu (M:=ir prog w) X c.gh;have L3:=PySem.W.looks_find (M:=ir prog w) X I hf;obtain⟨hp,g,d,t,os⟩:=s;unfold getAttr? getAttrBy? getAttrBy;refine ζ (wpAny_mkText (ζ (zh (my (ζ (L0.at (ζ (L1.at ?_))))))));show ik _ _ (getAttrByItsOwn _ _ _ _ _ _) _ _ _;unfold getAttrByItsOwn;refine ζ (show ik _ _ (typeLookup (.ref C) "__getattr__") _ _ _ from L2.at ?_);have FB:=PySem.F.attr_ValueError.ga;have hk:builtinKind "BaseException.__getattribute__" = some .slot:=by ac_rfl
 have hs:splitId "BaseException.__getattribute__" = some ("BaseException","__getattribute__"):=by ac_rfl
 refine ζ (zh (my ?_));unfold callGetattribute;rw[if_neg (by intro z;cases z)];unfold boundAndCalled;rw[FB.bind];refine ζ (Γ (uq ?_));show wd _ _ (.call (.builtin "BaseException.__getattribute__") ⟨[.ref e,.str "__class__" t],[]⟩) _ _;refine vt FB.plain PySem.F.entry_bexc_ga ?_;refine @PySem.W.check_slot (ir prog w) _ _ _ "BaseException.__getattribute__" "BaseException" "__getattribute__" (.ref e) [.str "__class__" t] [] _ hk hs isB (PySem.F.args_bexc_ga _ _) ?_;unfold su.«object.__getattribute__» slotArgs;refine ζ (Γ ?_);refine ζ (Γ ?_);refine ζ (L0.at ?_);refine ζ (L3.at ?_);show ik _ _ (xb [Value.builtin "object.__class__"] (call (.builtin "getset_descriptor.__get__") [.builtin "object.__class__",.ref e,.ref C]) >>= ret) _ _ _;refine ζ (my (uq ?_));refine PySem.W.class_get (s:=⟨hp,g,d,t+1,os⟩) X I hmo ?_;refine Γ ?_;show ik _ _ (handedOut (.ref C)) _ _ _;rw[zk rfl];exact Γ (Γ h)
theorem xisnt{Q:Fin->ξ->Prop}(X:K.In s.heap)(c:bC K C R fI)(I:vn s.heap e oe C od)(hf:PySem.W.findObj K C od "__class__" = some (.bind (.builtin "getset_descriptor.__get__") (.builtin "object.__class__")))(hmo:ny K C (.type "object")=some true)
  (hn:xj K C D=true)(h:Q (.done (.ret (.bool false))) { s with toks:=s.toks+1 }):
  ik (ir prog w) A (su.«isinstance.nested» ⟨[.ref e,.ref D,.int dep tk],[]⟩) Q E s:=by
 unfold xj at hn;rw[jv,jv,jv]at hn;obtain⟨⟨⟨e0,e1⟩,e2⟩,e3⟩:=hn;have hty:=PySem.W.looks_typeIn (M:=ir prog w) X (beq_iff_eq.mp e2);have hsub:=PySem.W.looks_subIn (M:=ir prog w) X (beq_iff_eq.mp e3);have isT:∀{B:Addr},(PySem.W.clsIn K B).isSome=true->wy (ir prog w) s.heap (isType (.ref B)) true:=fun {B} hB=>by
  unfold PySem.W.clsIn at hB
  split at hB
  ·rename_i c' d' cd' sl' ho;intro A' Q' E' s' k q;unfold isType loadHead;exact ζ (wpAny_loadPart (k _ _ (X _ _ ho)) (Γ q))
  ·cases hB
 have his:=isT e1;obtain⟨cd,hcd,_⟩:=c.clsIn;have hisD:=isT (B:=C) (by rw[hcd];rfl);have hne:(iw C == iw D)=false:=qz.mpr fun q=>of_decide_eq_true e0 (iw.inj (beq_iff_eq.mp q));obtain⟨h0,g,d,tt,os⟩:=s;have L0:=I.type (M:=ir prog w);have LI:wy (ir prog w) h0 (isInstance (.ref e) (.ref D)) false:=L0.andThen hsub;unfold su.«isinstance.nested»;refine ζ (L0.at ?_);rw[if_neg (fun q=>by rw[hne]at q;exact Bool.noConfusion q)];refine ζ (hty.at ?_);rw[if_pos (by decide)]
 k_delta "plainIsInstance"
 refine ζ (ζ (his.at ?_));simp only[Bool.not_true,ow,if_false];refine ζ (LI.at ?_);simp only[ow,if_false];refine ζ (aQl X c I hf hmo ?_);refine ζ (hisD.at ?_);simp only[Bool.not_true,ow,if_false];refine ζ (wpAny_rule ?_);refine hsub.at ?_
 first
  |exact Γ h
  |exact Γ (Γ h)
  |exact ζ (Γ (Γ h))
end
structure XNot (K:υ) (C D:Addr):Prop where
 ha:nu K (.ref C) "__class__" = some (some (.builtin "object.__class__"))
 hg:tw K (.builtin "object.__class__") "__get__" = some (some (.builtin "getset_descriptor.__get__"))
 ht:PySem.W.takesIn K (.builtin "object.__class__")=some true
 hm:ny K C (.type "object")=some true
 nt:xj K C D=true
def keyD:Key->ο
 |.inl n=>.int n
 |.inr x=>.str x
theorem aGu(hk:(qX P w).is k u=true):Reads h u (keyD k) []:=by
 rcases vJ hk with⟨i,t,rfl,rfl⟩|⟨x,t,rfl,rfl⟩
 ·exact .int _ _
 ·exact .str _ _
end L2
namespace L2
open PySem PySem.Spec PyProof.Rows
section
variable {X:Cx}{pins:List (Addr×Obj)}{σ:St}{H:Hp}{s:ξ}{h':kq}
theorem Inv.turned2{t':Nat}{e it p:Addr}(I:Inv X pins σ H s)(k:∀b u,b≠e->b≠it->s.heap.get? b=some u->h'.get? b=some u)(fe:dZ X pins H e)(fi:dZ X pins H it)
  (hp:s.heap.objs.size<=p)(new:vC X.prog X.w (upd H p o) h' p o):Inv X pins σ (upd H p o) { s with heap:=h',toks:=t' }:=by
 have hn:=I.hok.fresh hp;have ne:∀b u,H b=some u->b≠e:=fun b u q=>jL q fe.1;have ni:∀b u,H b=some u->b≠it:=fun b u q=>jL q fi.1;have nx:∀b,b∉[e,it]->b≠e/\b≠it:=fun b hb=>⟨fun z=>hb (by simp[z]),fun z=>hb (by simp[z])⟩;have np:∀b u,s.heap.get? b=some u->b≠p:=fun b u q=>jb (ς (io q) hp);have u:Un (frs X.stack) [e,it] H (upd H p o) s.heap h':=by
  refine⟨fun b u q _ _ hx=>k b u (nx b hx).1 (nx b hx).2 q,fun b u q _ _ hx=>⟨u.slots,k b u (nx b hx).1 (nx b hx).2 q⟩,fun b u q n _=>?_,fun b u q hx=>⟨u,k b u (nx b hx).1 (nx b hx).2 q⟩,fun b xs q=>?_,fun b o' u q=>?_,fun b ps q=>⟨#[],?_⟩⟩
  ·rw[jZ (np b u q)];exact n
  ·rw[jZ (jL q hn)];exact q
  ·rw[jZ (jL q hn)];exact q
  ·rw[jZ (jL q hn),q];simp
 have hok:HOk X.prog X.w (upd H p o) h':=fun b v eb=>by
  by_cases hb:b=p
  ·subst hb;rw[jQ]at eb;cases eb;exact new
  ·rw[jZ hb]at eb;refine(I.hok b v eb).stay (fun c w hc q=>k c w ?_ ?_ q) (fun c q=>by rw[jZ (jL q hn)];exact q) fun c xs q=>by rw[jZ (jL q hn)];exact q
   ·rcases hc with z|z
    ·rw[z];exact ne b v eb
    ·exact ne c _ z
   ·rcases hc with z|z
    ·rw[z];exact ni b v eb
    ·exact ni c _ z
 refine I.call (g':=s.gens) (d':=s.drawn) (t':=t') (ch:=[e,it]) u hok I.bare fun b hb=>?_;have:b=e\/b=it:=by simpa using hb
 rcases this with rfl|rfl
 ·exact⟨fe.2.2.2.1,fe.2.1,fe.2.2.2.2.1,fe.2.2.2.2.2⟩
 ·exact⟨fi.2.2.2.1,fi.2.1,fi.2.2.2.2.1,fi.2.2.2.2.2⟩
end
def Ite (K:υ) (a:Addr):It :=
 ⟨fun i H=>∃xs x,SqL K H a xs/\xs[i]?=some x,fun i H x H'=>∃y p,x=.ref p/\H p=none/\H'=upd H p (.tup [.int (i:Int),y])/\∀xs,SqL K H a xs->xs[i]?=some y,fun i H=>∃xs,SqL K H a xs/\xs.length<=i⟩
theorem aGm{K:υ}(a e it:Addr)(hne:e≠it):Turn P w K (.Tuple elts x1 pos) (Ite K a) [e,it] e (fun i h=>(∃old,IsEnum h e it (i:Int) old)/\h.IsListIter it a i) where
 mem:=by simp
 obj:=fun i h st b hb=>by
  have:b=e\/b=it:=by simpa using hb
  obtain⟨⟨old,he⟩,o,ho,hc,hd⟩:=st;rcases this with rfl|rfl
  ·exact⟨_,he,fun v z=>by cases z⟩
  ·exact⟨o,ho,fun v z=>by rw[hd]at z;cases z⟩
 keep:=fun i h h' st k=>by
  obtain⟨⟨old,he⟩,o,ho,r⟩:=st;exact⟨⟨old,k e (by simp) _ he⟩,o,k it (by simp) _ ho,r⟩
 item:=by
  intro X hP hw hK hc i pins s σ H E I hf st hg;subst hP hw hK;obtain⟨xs,x,hq,hx⟩:=hg;obtain⟨its,rv,p,hz⟩:=I.list hq;obtain⟨u,hu,ru⟩:=rv.get hx;have fe:=hf e (by simp);have fi:=hf it (by simp);obtain⟨⟨old,he⟩,hit⟩:=st;refine wpAny_pyNext_enum_item he hit p.isList (x:=u) (by simpa using hu) hne fun h1 heo hit1 ht1 hz1 hk1=>⟨_,rfl,?_⟩;refine wpAny_letOwnedTupleGo_enum heo fun h2 he2 hs2=>?_;replace hs2:oh e h1 h2:=hs2;have ne:s.heap.objs.size≠e:=wb (io he);have ht2:h2.get? s.heap.objs.size=some { cls:=.type "tuple",data:=.seq #[.int i s.toks,u] }:=(hs2.2 _ ne).trans ht1;have k2:∀b v,b≠e->b≠it->s.heap.get? b=some v->h2.get? b=some v:=fun b v n1 n2 q=>(hs2.2 b n1).trans (hk1 b v n1 n2 q);refine⟨.ref s.heap.objs.size,upd H s.heap.objs.size (.tup [.int (i:Int),x]),I.turned2 (t':=s.toks+1) k2 fe fi (ν _) ⟨(by show 2<=ρ;decide),[.int i s.toks,u],.cons ⟨_,rfl⟩ (.cons ru .nil),_,ht2,rfl,_,rfl⟩,rfl,⟨x,_,rfl,I.hok.fresh (ν _),rfl,fun ys hy=>by rw[I.list_inj hy hq];exact hx⟩,⟨⟨_,he2⟩,?_⟩,fun b hb=>?_⟩
  ·obtain⟨o,ho,r⟩:=hit1;exact⟨o,(hs2.2 it (lu hne)).trans ho,r⟩
  ·have:b=e\/b=it:=by simpa using hb
   obtain⟨oi,hoi,_⟩:=hit;rcases this with rfl|rfl
   ·rw[jZ (lu ne)];exact fe.1
   ·rw[jZ (jb (io hoi))];exact fi.1
 done:=by
  intro X hP hw hK hc i pins s σ H E I hf st hg;subst hP hw hK;obtain⟨xs,hq,hl⟩:=hg;obtain⟨its,rv,p,hz⟩:=I.list hq;have hlen:=rv.length;obtain⟨f0,f1,f2,f3,f4,f5⟩:=hf it (by simp);obtain⟨⟨old,he⟩,hit⟩:=st;exact wpAny_pyNext_enum_end (I.ok.hd hc) he hit p.isList (by simp;omega) fun h' eb=>⟨rfl,I.turned (t':=s.toks) (fun b o hb e=>eb b o hb e) f0 f1 f3 f4 f5⟩
 self:=fun _ _ _ _ _ st h=>by
  obtain⟨⟨old,he⟩,_⟩:=st;exact wpAny_pyIter_enum he h
def iEnum (K:υ) (ta:TA):TI:=fun σ H R=>ta σ H fun vs H1=>∃a xs,vs=[.ref a]/\SqL K H1 a xs/\R (Ite K a) H1
theorem aFq{a:Expr}(hg:Gl X "enumerate")(hm:X.mg "enumerate" = none)(ha:PA X [a] ta)(hs:il [a] X.env=[(false,eval a X.env)]:=by rfl):PI X (.Tuple elts x1 tpos) (.Call (.Name "enumerate" p) [a] [] pos) (iEnum X.K ta):=by
 intro pins s σ H R I h;refine Call_ (lR I hg hm boot_enumerate (rj (thn (ha pos pins s σ H _ I h) fun us s1 zq=>?_) hs rfl));obtain⟨vs,H1,I1,r1,q1⟩:=zq;obtain⟨l,xs,e,hl,q⟩:=q1;subst e;obtain⟨u,rfl,rx⟩:=vals1 r1;cases rx;obtain⟨its,rv,pl,hz⟩:=I1.list hl;refine call_enumerate_list pl.isList fun h' he hit hsz hk=>wpAny_pyIter_enum he ?_;refine⟨s1.heap.objs.size+1,[s1.heap.objs.size+1,s1.heap.objs.size],_,_,H1,rfl,I1.kept (t':=s1.toks) hk,aGm l _ _ (Nat.succ_ne_self _),⟨⟨_,he⟩,hit⟩,fun b hb=>?_,q⟩;have:b=s1.heap.objs.size+1\/b=s1.heap.objs.size:=by simpa using hb
 rcases this with rfl|rfl
 ·exact I1.fpOk (qv _) (I1.hok.fresh (qv _))
 ·exact I1.fpOk (ν _) (I1.hok.fresh (ν _))
theorem aBo{K:υ}{xs:List V}{g:TG}{tb:TS}{D:Ends}{σ:St}{H:Hp}(Pv:Nat->St->Hp->Prop)(h0:Pv 0 σ H)(hl:∀i σ H,i<=xs.length->Pv i σ H->SqL K H a xs)
  (hs:∀i x σ H p,xs[i]?=some x->Pv i σ H->H p=none->LpL (let D2:Ends:={ D with nx:=Pv (i+1),ct:=Pv (i+1),bk:=D.nx };g (.ref p) σ (upd H p (.tup [.int (i:Int),x])) fun σ2 H2=>tb D2 σ2 H2))(hd:∀σ H,Pv xs.length σ H->D.nx σ H):
  ∃W:Nat->Nat->St->Hp->Prop,(∃m,W 0 m σ H)/\∀i m σ H,W i m σ H →
   ((Ite K a).stop i H/\D.nx σ H)\/((Ite K a).go i H/\∃N:St->Hp->Prop,(∀σ' H',N σ' H'->∃m',m'<m/\W (i+1) m' σ' H')/\∀x H',(Ite K a).yld i H x H'->g x σ H' fun σ2 H2=>tb { D with nx:=N,ct:=N,bk:=D.nx } σ2 H2):=by
 refine⟨fun i m σ H=>m=xs.length-i/\i<=xs.length/\Pv i σ H,⟨xs.length,by simp,iy _,h0⟩,?_⟩;rintro i m σ H ⟨rfl,hi,p⟩;have q:=hl i σ H hi p
 by_cases hlt:i<xs.length
 ·refine .inr ⟨⟨xs,xs[i],q,by simp[hlt]⟩,Pv (i+1),fun σ' H' p'=>⟨xs.length-(i+1),by omega,rfl,hlt,p'⟩,fun x H' y=>?_⟩;obtain⟨y',pa,rfl,hn,rfl,hy⟩:=y;exact hs i y' σ H pa (hy xs q) p hn
 ·have e:i=xs.length:=by omega
  subst e;exact .inl ⟨⟨xs,q,ν _⟩,hd σ H p⟩
end L2
namespace L2
open PySem
theorem vQ.units1(r:vQ k A):A.units+1<ou:=by
 have:=r.units;omega
end L2
namespace L2
open PySem PySem.Spec PyProof.Rows
def Sq2 (K:υ):Bool->Hp->Addr->List V->Prop
 |false,H,a,xs=>SqL K H a xs
 |true,H,a,xs=>SqT K H a xs
def aN:Bool->kq->Addr->Addr->Nat->Prop
 |false,h,j,a,i=>h.IsListIter j a i
 |true,h,j,a,i=>h.IsTupleIter j a i
def zQ:Bool->kq->Addr->Array Value->Prop
 |false,h,a,xs=>h.IsList a xs
 |true,h,a,xs=>h.IsTuple a xs
theorem aN.keep{g:kq}(x:aN b h j a i)(k:∀o,h.get? j=some o->g.get? j=some o):aN b g j a i:=by
 cases b <;> (obtain⟨o,e,r⟩:=x;exact⟨o,k o e,r⟩)
theorem zQ.keep{g:kq}(x:zQ b h a xs)(k:∀o,h.get? a=some o->g.get? a=some o):zQ b g a xs:=by
 cases b <;> (obtain⟨o,e,r⟩:=x;exact⟨o,k o e,r⟩)
theorem aN.obj(x:aN b h j a i):∃o,h.get? j=some o/\∀v,o.data≠.cell v:=by
 cases b <;> (obtain⟨o,e,c,d⟩:=x;exact⟨o,e,fun v z=>by rw[d]at z;cases z⟩)
theorem zQ.lt(x:zQ b h a xs):a<h.objs.size:=by
 cases b <;> (obtain⟨o,e,_⟩:=x;exact io e)
section
variable {P:jy}{w:mf}{A:kg}{E:Value->ξ->Prop}{s:ξ}
theorem aNc{Q:Value->ξ->Prop}(hj:s.heap.IsTupleIter j a n)(ha:s.heap.IsTuple a vs)(hv:vs[n]?=some v)
  (q:∀g,g.IsTupleIter j a (n+1)->oh j s.heap g->Q v { s with heap:=g }):ik (ir P w) A (kf (.ref j)) Q E s:=by
 obtain⟨oj,ej,cj,dj⟩:=id hj;obtain⟨oa,ea,ca,na,da⟩:=ha;unfold kf;refine ζ (wpAny_callSpecial?_slot (name:=ε "__next__") hj.typeIs si (uh si hj.typeIs F.entry_tuple_iterator_next ?_ (F.args_tuple_iterator_next_1 _)));show ik _ _ (field (.ref j) 0 >>= _) _ _ s;refine ζ (nj ej dj (x:=.ref a) rfl ?_);show ik _ _ (if (iw a == mn)=true then _ else _) _ _ s;rw[if_neg (show ¬ ((iw a == mn)=true) from ψ)];show ik _ _ (field (.ref j) 1 >>= _) _ _ s;refine ζ (nj ej dj (x:=.int n 0) rfl ?_);show ik _ _ (seqItems? (.ref a) >>= _) _ _ s;refine ζ (sk ea da ?_);simp only[nq,hv];refine ζ (vq ej dj (by simp) (Γ ⟨v,rfl,Γ (q _ ?_ (oh.update ..))⟩));exact⟨_,qg _ ej (yq (uu dj _)),(Obj.cls_mapFields ..).trans cj,by rw[uu dj];simp[uc]⟩
theorem aRq(hh:A.handled=none)(hj:s.heap.IsTupleIter j a n)(ha:s.heap.IsTuple a vs)(hv:vs[n]?=none)
  (hE:∀g x,kq.ExtBut j s.heap g->(∃o,g.get? x=some o/\o.cls=.type "StopIteration")->E (.ref x) { s with heap:=g }):ik (ir P w) A (kf (.ref j)) Q E s:=by
 obtain⟨oj,ej,cj,dj⟩:=id hj;obtain⟨oa,ea,ca,na,da⟩:=ha;unfold kf;refine ζ (wpAny_callSpecial?_slot (name:=ε "__next__") hj.typeIs si (uh si hj.typeIs F.entry_tuple_iterator_next ?_ (F.args_tuple_iterator_next_1 _)));show ik _ _ (field (.ref j) 0 >>= _) _ _ s;refine ζ (nj ej dj (x:=.ref a) rfl ?_);show ik _ _ (if (iw a == mn)=true then _ else _) _ _ s;rw[if_neg (show ¬ ((iw a == mn)=true) from ψ)];show ik _ _ (field (.ref j) 1 >>= _) _ _ s;refine ζ (nj ej dj (x:=.int n 0) rfl ?_);show ik _ _ (seqItems? (.ref a) >>= _) _ _ s;refine ζ (sk ea da ?_);simp only[nq,hv];refine ζ (wpAny_rule (ζ (vq ej dj (by simp) ?_)));show ik _ _ (newExc (.type "StopIteration") [] >>= fun x=>raiseNew x) _ _ _;refine ζ ?_;simp only[newExc,newTuple];refine ζ (vi ?_ (by size_fits));refine ζ (m:=firstArgMember _ _) (wpAny_of_eq (a:=mn) (by first|rfl|(simp only[firstArgMember];rfl)) ?_);refine vi ?_ (by size_fits);simp only[raiseNew];refine ζ (wpAny_handled ?_)
 first|rw[show A.in1.handled=none from hh]|rw[hh]
 exact ζ (Γ (wpAny_throw (hE _ _ (((oh.update ..).extBut.push _).push _) ⟨_,iu _ rfl,rfl⟩)))
theorem aDf{Q:Value->ξ->Prop}(hj:aN b s.heap j a n)(ha:zQ b s.heap a vs)(hv:vs[n]?=some v)
  (q:∀g,aN b g j a (n+1)->oh j s.heap g->Q v { s with heap:=g }):ik (ir P w) A (kf (.ref j)) Q E s:=by
 cases b
 ·exact wpAny_nextOf_list_item hj ha hv q
 ·exact aNc hj ha hv q
theorem aPh(hh:A.handled=none)(hj:aN b s.heap j a n)(ha:zQ b s.heap a vs)(hv:vs[n]?=none)
  (hE:∀g x,kq.ExtBut j s.heap g->(∃o,g.get? x=some o/\o.cls=.type "StopIteration")->E (.ref x) { s with heap:=g }):ik (ir P w) A (kf (.ref j)) Q E s:=by
 cases b
 ·exact wpAny_nextOf_list_end hh hj ha hv hE
 ·exact aRq hh hj ha hv hE
end
abbrev itN (b:Bool):String:=if b then "tuple_iterator" else "list_iterator"
abbrev zp1 (b:Bool) (h:kq) (a:Addr):kq:=h.push { cls:=.type (itN b),data:=.fields #[.ref a,.int 0 0] }
section
variable {X:Cx}{pins:List (Addr×Obj)}{σ:St}{H:Hp}{s:ξ}{h':kq}
theorem Inv.turnedL{t':Nat}{ch:List Addr}{p:Addr}(I:Inv X pins σ H s)(k:∀b u,b∉ch->s.heap.get? b=some u->h'.get? b=some u)(f:∀b∈ch,dZ X pins H b)
  (hp:s.heap.objs.size<=p)(new:vC X.prog X.w (upd H p o) h' p o):Inv X pins σ (upd H p o) { s with heap:=h',toks:=t' }:=by
 have hn:=I.hok.fresh hp;have nx:∀b u,H b=some u->b∉ch:=fun b u q z=>jL q (f b z).1 rfl;have np:∀b u,s.heap.get? b=some u->b≠p:=fun b u q=>jb (ς (io q) hp);have u:Un (frs X.stack) ch H (upd H p o) s.heap h':=by
  refine⟨fun b u q _ _ hx=>k b u hx q,fun b u q _ _ hx=>⟨u.slots,k b u hx q⟩,fun b u q n _=>?_,fun b u q hx=>⟨u,k b u hx q⟩,fun b xs q=>?_,fun b o' u q=>?_,fun b ps q=>⟨#[],?_⟩⟩
  ·rw[jZ (np b u q)];exact n
  ·rw[jZ (jL q hn)];exact q
  ·rw[jZ (jL q hn)];exact q
  ·rw[jZ (jL q hn),q];simp
 have hok:HOk X.prog X.w (upd H p o) h':=fun b v eb=>by
  by_cases hb:b=p
  ·subst hb;rw[jQ]at eb;cases eb;exact new
  ·rw[jZ hb]at eb;refine(I.hok b v eb).stay (fun c w hc q=>k c w ?_ q) (fun c q=>by rw[jZ (jL q hn)];exact q) fun c xs q=>by rw[jZ (jL q hn)];exact q
   rcases hc with z|z
   ·rw[z];exact nx b v eb
   ·exact nx c _ z
 exact I.call (g':=s.gens) (d':=s.drawn) (t':=t') (ch:=ch) u hok I.bare fun b hb=>⟨(f b hb).2.2.2.1,(f b hb).2.1,(f b hb).2.2.2.2.1,(f b hb).2.2.2.2.2⟩
theorem Inv.turnedL0{t':Nat}{ch:List Addr}(I:Inv X pins σ H s)(k:∀b u,b∉ch->s.heap.get? b=some u->h'.get? b=some u)(f:∀b∈ch,dZ X pins H b):Inv X pins σ H { s with heap:=h',toks:=t' }:=by
 have nx:∀b u,H b=some u->b∉ch:=fun b u q z=>jL q (f b z).1 rfl;have u:Un (frs X.stack) ch H H s.heap h':=by
  refine⟨fun b u q _ _ hx=>k b u hx q,fun b u q _ _ hx=>⟨u.slots,k b u hx q⟩,fun b u q n _=>n,fun b u q hx=>⟨u,k b u hx q⟩,fun b xs q=>q,fun b o' u q=>q,fun b ps q=>⟨#[],?_⟩⟩;rw[q];simp
 have hok:HOk X.prog X.w H h':=fun b v eb=>by
  refine(I.hok b v eb).stay (fun c w hc q=>k c w ?_ q) (fun c q=>q) fun c xs q=>q;rcases hc with z|z
  ·rw[z];exact nx b v eb
  ·exact nx c _ z
 exact I.call (g':=s.gens) (d':=s.drawn) (t':=t') (ch:=ch) u hok I.bare fun b hb=>⟨(f b hb).2.2.2.1,(f b hb).2.1,(f b hb).2.2.2.2.1,(f b hb).2.2.2.2.2⟩
theorem Inv.seq2(I:Inv X pins σ H s)(h:Sq2 X.K b H a xs):∃its:List Value,kN xs its/\zQ b s.heap a its.toArray:=by
 cases b
 ·obtain⟨its,r,p,_⟩:=I.list h;exact⟨its,r,p.isList⟩
 ·obtain⟨its,r,p,_⟩:=I.tuple h;exact⟨its,r,p⟩
theorem Inv.seq2_inj(I:Inv X pins σ H s)(h:Sq2 X.K b H a xs)(h':Sq2 X.K b H a ys):xs=ys:=by
 cases b
 ·exact I.list_inj h h'
 ·exact I.tuple_inj h h'
end
section
variable {X:Cx}
theorem mG:xA X (.type "int") (fun xs H Q=>∃b:Bool,xs=[.bl b]/\Q (.int (if b then 1 else 0)) H):=by
 intro pins s σ H xs us Q I r h;obtain⟨b,rfl,q⟩:=h;obtain⟨u,rfl,r1⟩:=vals1 r;cases r1;exact call_int_bool ⟨.int _,H,I.tok _,⟨_,rfl⟩,q⟩
end
def aCv (K:υ) (H:Hp) (x:V) (d:ο):Prop:=Dat K H x d\/(∃a kvs,x=.ref a/\H a=some (.dK kvs))/\d=.dict []
def tyD:ο->String
 |.none=>"NoneType"
 |.bool _=>"bool"
 |.int _=>"int"
 |.str _=>"str"
 |.list _=>"list"
 |.tuple _=>"tuple"
 |.dict _=>"dict"
theorem Dat.ty{K:υ}(h:Dat K H x d):tyN K x H (tyD d):=by
 cases h with
 |lst h _=>exact .inl ⟨rfl,_,h⟩
 |tup h _=>exact .inr ⟨rfl,_,h⟩
 |_=>rfl
theorem aCv.ty{K:υ}(h:aCv K H x d):tyM K x H (tyD d):=by
 rcases h with h|⟨⟨a,kvs,rfl,h⟩,rfl⟩
 ·exact .inl h.ty
 ·exact .inr ⟨rfl,a,kvs,rfl,h⟩
theorem aCv.same{K:υ}(h:aCv K H x d)(g:jI H H'):aCv K H' x d:=by
 rcases h with h|⟨⟨a,kvs,rfl,h⟩,rfl⟩
 ·exact .inl (h.same g)
 ·exact .inr ⟨⟨a,kvs,rfl,g _ _ h⟩,rfl⟩
theorem DatAll.length{K:υ}: ∀{xs:List V}{ds:List ο},DatAll K H xs ds->xs.length=ds.length
 |_,_,.nil=>rfl
 |_,_,.cons _ t=>congrArg (·+1) (DatAll.length t)
theorem DatAll.get{K:υ}: ∀{xs:List V}{ds:List ο}{i:Nat}{x:V},DatAll K H xs ds->xs[i]?=some x->∃d,ds[i]?=some d/\Dat K H x d
 |_,_,_,_,.nil,e=>by simp at e
 |_,_,0,_,.cons h _,e=>by simp at e;subst e;exact⟨_,rfl,h⟩
 |_,_,i+1,x,.cons _ t,e=>by
  obtain⟨d,h1,h2⟩:=DatAll.get (i:=i) (x:=x) t (by simpa using e);exact⟨d,by simpa using h1,h2⟩
theorem DatAll.app{K:υ}: ∀{xs ys:List V}{ds es:List ο},DatAll K H xs ds->DatAll K H ys es->DatAll K H (xs++ys) (ds++es)
 |_,_,_,_,.nil,s=>s
 |_,_,_,_,.cons h t,s=>.cons h (DatAll.app t s)
theorem DatAll.take{K:υ}: ∀{xs:List V}{ds:List ο}(n:Nat),DatAll K H xs ds->DatAll K H (xs.take n) (ds.take n)
 |_,_,0,_=>.nil
 |_,_,_+1,.nil=>.nil
 |_,_,n+1,.cons h t=>.cons h (DatAll.take n t)
theorem DatAll.drop{K:υ}: ∀{xs:List V}{ds:List ο}(n:Nat),DatAll K H xs ds->DatAll K H (xs.drop n) (ds.drop n)
 |_,_,0,h=>h
 |_,_,_+1,.nil=>.nil
 |_,_,n+1,.cons _ t=>DatAll.drop n t
end L2
namespace L2
open PySem
theorem qA{H H1:Hp}(e:upd H p o=H1)(hp:H p=none):jI H H1/\H1 p=some o:=by
 subst e;exact⟨fun b u q=>by rw[jZ (jL q hp)];exact q,jQ⟩
theorem tJ{H1:Hp}(e:upd H p o=H1):But p H H1/\H1 p=some o:=by
 subst e;exact⟨But.upd,jQ⟩
theorem jI.at{H H1:Hp}(g:jI H H1)(h:H a=some o):H1 a=some o:=g _ _ h
theorem jI.tp{K:υ}(e:jI H H')(h:SqT K H a xs):SqT K H' a xs:=by
 rcases h with (h|⟨o,h⟩)|h
 ·exact .inl (.inl (e _ _ h))
 ·exact .inl (.inr ⟨o,e _ _ h⟩)
 ·exact .inr h
theorem jI.dt{K:υ}(g:jI H H')(h:Dat K H x d):Dat K H' x d:=h.same g
theorem jI.dts{K:υ}(g:jI H H')(h:DatAll K H xs ds):DatAll K H' xs ds:=h.same g
theorem jI.dtt{K:υ}(g:jI H H')(h:aCv K H x d):aCv K H' x d:=h.same g
theorem join{R:VK}(hk:R v H')(h:∀Q:VK,Q v H'->tIf t ta tb σ H Q):tIf t ta tb σ H R:=h R hk
theorem aPc(P:St->Hp->Prop){D:Ends}{rest:TS}(hk:∀σ' H',P σ' H'->rest D σ' H')(h:∀nx:St->Hp->Prop,(∀σ' H',P σ' H'->nx σ' H')->aGz c t u { D with nx:=nx } σ H):vP (aGz c t u) rest D σ H:=h (rest D) hk
end L2
local macro_rules | `(tactic| walk_at"hp") => `(tactic| first
 |assumption
 |exact L2.jQ
 |exact L2.jI.refl _
 | (refine' L2.jI.at ?k1 ?_; (case k1=>assumption);walk_at"hp";done)
 | (refine L2.SqL.of ?_;walk_at"hp";done)
 | (refine L2.SqT.of ?_;walk_at"hp";done)
 | (refine' L2.jI.seq ?k1 ?_; (case k1=>assumption);walk_at"hp";done)
 | (refine' L2.jI.tp ?k1 ?_; (case k1=>assumption);walk_at"hp";done)
 | (refine' L2.jI.dt ?k1 ?_; (case k1=>assumption);walk_at"hp";done)
 | (refine' L2.jI.dts ?k1 ?_; (case k1=>assumption);walk_at"hp";done)
 | (refine' L2.jI.dtt ?k1 ?_; (case k1=>assumption);walk_at"hp";done)
 | (refine' L2.jI.trans ?_ ?k1; (case k1=>assumption);walk_at"hp";done))
local macro_rules | `(tactic| walk_at"al") => `(tactic| (intro pX hX;generalize eX : L2.upd _ pX _ = HX;obtain ⟨gX,kX⟩ := L2.qA eX hX;clear eX))
local macro_rules | `(tactic| o_unpack $r:ident) => `(tactic| (intro $r:ident hX;generalize eX : L2.upd _ $r:ident _ = HX;obtain ⟨gX,kX⟩ := L2.qA eX hX;clear eX))
local macro_rules | `(tactic| walk_at"ch") => `(tactic| (generalize eX : L2.upd _ _ _ = HX;obtain ⟨gX,kX⟩ := L2.tJ eX;clear eX))
local macro_rules | `(tactic| walk_at"rd") => `(tactic| repeat first
 | (refine⟨_,rfl,?_⟩)
 | (refine⟨_,_,rfl,rfl,?_⟩)
 | (refine⟨_,_,rfl,rfl,⟨by decide,by decide⟩,?_⟩)
 | (refine' ⟨_,_,rfl,.inl ?k1,?_⟩; (case k1=>walk_at"hp"))
 | (refine' ⟨_,_,_,_,rfl,rfl,?k1,?k2,?_⟩; (case k1=>walk_at"hp"); (case k2=>rfl)))
namespace L2
open PySem PySem.Spec PyProof.Rows
section
variable {X:Cx}
def Exc (K:υ) (H:Hp) (e C:Addr) (fs:List (Str×V)):Prop:=∃dx R fI,(H e=some (ExF e C (some dx))\/H e=some (Ex0 e C (some dx)))/\H dx=some (XD dx fs)/\bC K C R fI
theorem Exc.obj(I:Inv X pins σ H s)(h:Exc X.K H e C fs):
  ∃dx R fI oe vs o1,s.heap.get? e=some oe/\oe.cls=.ref C/\oe.dict=some dx/\oe.data=.fields vs/\s.heap.get? dx=some o1/\bC X.K C R fI:=by
 obtain⟨dx,R,fI,he,hd,c⟩:=h;obtain⟨⟨mA,hn,_⟩,_⟩:=I.hok dx _ hd;obtain⟨o1,ho,_⟩:=iW hn;rcases he with he|he
 ·obtain⟨⟨oe,vs,g,oc,ox,od⟩,_⟩:=I.hok e _ he;exact⟨dx,R,fI,oe,vs,o1,g,oc,ox,od,ho,c⟩
 ·obtain⟨⟨oe,vs,g,oc,ox,od,_⟩,_⟩:=I.hok e _ he;exact⟨dx,R,fI,oe,vs,o1,g,oc,ox,od,ho,c⟩
structure ExP (K:υ) (e C dx:Addr) (s:ξ):Prop where
 k:K.In s.heap
 o:∃oe vs o1,s.heap.get? e=some oe/\oe.cls=.ref C/\oe.dict=some dx/\oe.data=.fields vs/\s.heap.get? dx=some o1
theorem aOe{K:υ}: Answers (ExP K e C dx) (.ref e) (.ref C) true:=fun dep tk=>Meets.of_wp fun prog w A R s hs=>by
 obtain⟨⟨_,oe,vs,o1,g,oc,_⟩,h⟩:=hs;unfold su.«isinstance.nested»;refine ζ (m:=typeOf (.ref e)) (wpAny_typeOf_ref g ?_);rw[oc];show ik _ _ (if (iw C == iw C)=true then _ else _) _ _ s;rw[if_pos (by simp)]
 repeat (first|refine Γ ?_|refine wpAny_rule ?_|refine ζ ?_)
 exact⟨_,rfl,h s.toks⟩
theorem aQk{K:υ}(c:bC K C R fI)(x:XNot K C D):Answers (ExP K e C dx) (.ref e) (.ref D) false:=fun dep tk=>Meets.of_wp fun prog w A Rs s hs=>by
 obtain⟨⟨k,oe,vs,o1,g,oc,ox,od,ho⟩,h⟩:=hs;obtain⟨cd,hcd,_⟩:=c.clsIn;exact xisnt (od:=some o1) k c (nR g oc od (by rw[ox];exact ho)) (PySem.W.findObj_data (by rw[hcd];rfl) x.ha x.hg x.ht) x.hm x.nt ⟨_,rfl,h _⟩
theorem aBu{K:υ}(hK:X.K=K):xA X (.builtin "isinstance") (fun xs H Q=>∃e C D fs b,xs=[.ref e,.ref D]/\Exc K H e C fs/\((D=C/\b=true)\/(XNot K C D/\b=false))/\Q (.bl b) H):=by
 subst hK;intro pins s σ H xs us Q I r h;obtain⟨e,C,D,fs,b,rfl,he,hb,q⟩:=h;obtain⟨u,v,rfl,ru,rv⟩:=vals2 r;cases ru;cases rv;obtain⟨dx,R,fI,oe,vs,o1,g,oc,ox,od,ho,c⟩:=he.obj I;have fin:Answers (ExP X.K e C dx) (.ref e) (.ref D) b:=by
  rcases hb with⟨rfl,rfl⟩|⟨hn,rfl⟩
  ·exact aOe
  ·exact aQk c hn
 refine call_isinstance_of ?_ (by intro z;cases z);exact fin 0 _ X.prog X.w X.A (fun r s'=>match r with | .ok (.ret v)=>EP X pins σ Q v s' | .ok _=>False | .error e=>X.xe e s') s ⟨⟨I.kIn,oe,vs,o1,g,oc,ox,od,ho⟩,fun tk=>⟨.bl b,H,I.tok _,rfl,q⟩⟩
theorem aJd(hu:X.A.units+64<ou):OpR X (ky .NotEq) (fun x y H Q=>∃(a b:Addr) (xs:List V),x=.ref a/\y=.ref b/\SqL X.K H a xs/\SqL X.K H b []/\Q (.bl (!xs.isEmpty)) H):=by
 intro pins s σ H x y v u Q I rx ry h;obtain⟨a,b,xs,rfl,rfl,ha,hb,q⟩:=h;cases rx;cases ry;obtain⟨i1,r1,p1,_⟩:=I.list ha;obtain⟨i2,r2,p2,_⟩:=I.list hb;cases r2;show ik _ _ (richCompare .NotEq (.ref a) (.ref b)) _ _ _;cases xs with
 |nil =>
  cases r1;refine SeqAt.RcNeAt.lists (e:=fun _=>true) p1.isList p2.isList rfl (by omega) (fun j h1 _=>absurd h1 (xk _)) _ _ _ _ ?_;exact⟨.bl false,H,I,rfl,q⟩
 |cons z zs =>
  cases r1 with
  |cons rz rt =>
   refine SeqAt.RcNeAt.lists_lengths p1.isList p2.isList (by simp) (by omega) _ _ _ _ ?_;exact⟨.bl true,H,I,rfl,q⟩
end
inductive EqS (K:υ) (H:Hp):Nat->V->V->Prop
 |same {n:Nat}{v:V} : aOu v->EqS K H n v v
 |lst {n:Nat}{a b:Addr}{xs ys:List V} : SqL K H a xs->SqL K H b ys->xs.length=ys.length->(∀(i:Nat) x y,xs[i]?=some x->ys[i]?=some y->EqS K H n x y)->EqS K H (n+1) (.ref a) (.ref b)
 |tup {n:Nat}{a b:Addr}{xs ys:List V} : SqT K H a xs->SqT K H b ys->xs.length=ys.length->(∀(i:Nat) x y,xs[i]?=some x->ys[i]?=some y->EqS K H n x y)->EqS K H (n+1) (.ref a) (.ref b)
section
variable {X:Cx}
theorem aE : ((jg n).all fun _=>true)=true:=by simp
theorem nO{us:List Value}{j:Nat}(h:us[j]?=some u)(hj:j<us.toArray.size):us.toArray[j]=u:=by
 have:=(η.mp h).2;simpa using this
theorem Inv.eqs(I:Inv X pins σ H s):∀{n:Nat}{x y:V},EqS X.K H n x y->∀{A:kg}{u v:Value},RelV x u->RelV y v->A.units+n<ou->kn A s u v true:=by
 intro n x y h
 induction h with
 |same hs=>intro A u v ru rv _;exact aHs hs ru rv
 | @lst n a b xs ys ha hb hl _ ih =>
  intro A u v ru rv hu;cases ru;cases rv
  by_cases hab:a=b
  ·subst hab;exact kn.same _
  obtain⟨i1,r1,p1,_⟩:=I.list ha;obtain⟨i2,r2,p2,_⟩:=I.list hb;have l1:=r1.length;have l2:=r2.length;refine kn.of_refs hab ?_;have:=SeqAt.RcAt.lists (A:=A) (e:=fun _=>true) p1.isList p2.isList (by rw[τ,τ];omega) (by omega) (fun j h1 h2=>by
   have hj:j<xs.length:=by rw[τ]at h1;omega
   have hj2:j<ys.length:=by omega
   obtain⟨u1,e1,q1⟩:=r1.get (θ hj);obtain⟨u2,e2,q2⟩:=r2.get (θ hj2);rw[nO e1,nO e2];exact ih j _ _ (θ hj) (θ hj2) q1 q2 (by show A.units+1+n<ou;omega))
  rw[aE]at this;exact this
 | @tup n a b xs ys ha hb hl _ ih =>
  intro A u v ru rv hu;cases ru;cases rv
  by_cases hab:a=b
  ·subst hab;exact kn.same _
  obtain⟨i1,r1,p1,_⟩:=I.tuple ha;obtain⟨i2,r2,p2,_⟩:=I.tuple hb;have l1:=r1.length;have l2:=r2.length;refine kn.of_refs hab ?_;have:=SeqAt.RcAt.tuples (A:=A) (e:=fun _=>true) (show s.heap.IsTuple a i1.toArray from p1) (show s.heap.IsTuple b i2.toArray from p2) (by omega) (fun j h1 h2=>by
   have hj:j<xs.length:=by rw[τ]at h1;omega
   have hj2:j<ys.length:=by omega
   obtain⟨u1,e1,q1⟩:=r1.get (θ hj);obtain⟨u2,e2,q2⟩:=r2.get (θ hj2);rw[nO e1,nO e2];exact ih j _ _ (θ hj) (θ hj2) q1 q2 (by show A.units+1+n<ou;omega))
  rw[aE,show(i1.toArray.size == i2.toArray.size)=true by rw[τ,τ,show i1.length=i2.length by omega];simp]at this;exact this
end
end L2
namespace L2
open PySem
structure Sm (d:ο) (n m:Nat):Prop where
 sh:d.showable=true
 ls:d.leavesShort 200=true
 wt:d.weight<=n
 dp:d.depth<=m
 nd:d.hasDict=false
theorem yV{n:Nat}(h:n<2 ^ 100):n.log2<100:=by
 by_cases h0:n=0
 ·subst h0;decide
 ·exact(Nat.log2_lt h0).mpr h
theorem Sm.int{i:Int}(h:i.natAbs<2 ^ 100):Sm (.int i) 101 0:=by
 have hl:=yV h;refine⟨?_,?_,?_,ν _,rfl⟩
 ·simp only[ο.showable,decide_eq_true_eq];omega
 ·simp only[ο.leavesShort,decide_eq_true_eq];have:=int_text_length_le (a:=i) (k:=100) (by decide) hl;show(ε (toString i)).length<=200;rw[ofString_length];omega
 ·simp only[ο.weight]
  split <;> omega
theorem Sm.none:Sm .none 0 0:=⟨rfl,rfl,ν _,ν _,rfl⟩
theorem Sm.bool(b:Bool):Sm (.bool b) 0 0:=⟨rfl,rfl,ν _,ν _,rfl⟩
theorem Sm.le{n' m':Nat}(h:Sm d n m)(hn:n<=n')(hm:m<=m'):Sm d n' m':=⟨h.sh,h.ls,Θ h.wt hn,Θ h.dp hm,h.nd⟩
theorem Sm.len(h:Sm d n m)(hn:n<=10000):d.shown.length<=ρ:=by
 have h1:=ο.shown_le 200 (by decide) d h.ls;have h2:=h.wt;rw[jk];omega
end L2
namespace L2
open PySem PySem.Spec PyProof.Rows
theorem yX{x p}{es:List Expr}: il (.Name x p::es) env=(false,eval (.Name x p) env)::il es env:=rfl
section
variable {X:Cx}{e:Expr}{es:List Expr}{te:TE}{t:TA}
theorem cX{x1}(h:PAx X es t):PEx X (.Tuple es x1 pos) (tTup t):=⟨kT h.h⟩
theorem eY(h:PAx X es t):PEx X (.List es pos) (tLst t):=⟨kU h.h⟩
theorem xQ(h:PEx X e te):wE X (.Return (some e) pos) (tRet te):=⟨jJ h.h⟩
end
structure zA (k:Nat) (A:kg):Prop where
 dp:A.depth+3*k+5<recursionLimit
 un:A.units+16*k+200<ou
 gd:A.guards=some []
theorem zA.mono{j:Nat}(r:zA k A)(h:j<=k):zA j A:=⟨by have:=r.dp;omega,by have:=r.un;omega,r.gd⟩
theorem zA.deeper{k:Nat}(r:zA (k+1) A)(env:Env):zA k (A.deeper env) :=
 ⟨by have:=r.dp;show A.depth+1+3*k+5<_;omega,by have:=r.un;show A.units+3+16*k+200<_;omega,r.gd⟩
theorem zA.depth(r:zA k A):A.depth<recursionLimit:=by have:=r.dp;omega
theorem zA.units(r:zA k A):A.units+64<ou:=by have:=r.un;omega
theorem vQ.toH(r:vQ k A):zA k A:=⟨r.dp,r.un,r.gd⟩
theorem vQ.mark(r:vQ k A)(v:Option Value):zA k (A.mark v):=⟨r.dp,r.un,r.gd⟩
structure dB (P:jy) (w:mf) (K:υ) (mg:Str->Option Value) (base:kq) (CX:CXT) (k:Nat) (f:Addr) (fd:oz) (ps:List Str) (sp:Sp):Prop where
 len:∀vs H Q E,sp vs H Q E->vs.length=ps.length
 run:∀(A:kg) (outer:List Env) (s:ξ) (H:Hp) (args:Args) (us:List Value) (vs:List V) (Q:VK) (E:XK),zA k A->mT P w K mg base A outer s H->BindsTo s fd args (ps.zip us)->kN vs us->sp vs H Q E →
  wd (ir P w) A (.call (.ref f) args) (CR CX outer P w H s Q E) s
section
variable {P:jy}{w:mf}{K:υ}{mg:Str->Option Value}{base:kq}{CX:CXT}{f:Addr}{fd:oz}{ps:List Str}{sp:Sp}
theorem dB.mono{k:Nat}(F:dB P w K mg base CX j f fd ps sp)(h:j<=k):dB P w K mg base CX k f fd ps sp:=⟨F.len,fun A outer s H args us vs Q E hr=>F.run A outer s H args us vs Q E (hr.mono h)⟩
theorem dB.fn(F:dB P w K mg base CX k f fd ps sp):kJ P w K mg base CX k f fd ps sp:=⟨F.len,fun A outer s H args us vs Q E hr=>F.run A outer s H args us vs Q E hr.toH⟩
end
abbrev tH (CX:CXT) (P:jy) (w:mf) (K:υ) (mg:Str->Option Value) (base:kq) (N:List Str) (qual:Str) (scope:Scope) (f:Addr) (cd:Value) (A:kg) (outer:List Env) (s:ξ) (H:Hp) (E:XK):Cx:={ fY CX P w K mg base N qual scope f cd A outer s H E with calm:=false }
theorem aDo{K:υ}{vs:List V}
  (S:jN N ps scope)(e0:mT P w K mg base A outer s H)(hl:vs.length=ps.length)(r:kN vs us)
  (x:InCallC s s.heap.objs.size (bindL (wn qual scope s.heap.objs.size f cd).kindOf (ps.zip us) fun _=>none) (cellsFrom (s.heap.objs.size+1) scope.names []) (bindC (wn qual scope s.heap.objs.size f cd).kindOf (ps.zip us) fun _=>none) s1):
  Inv (tH CX P w K mg base N qual scope f cd A outer s H E) [] (start N vs) H s1:=by
 have hpl:ps.length<=N.length:=by have:=congrArg List.length S.pre;rw[Δ]at this;omega
 obtain⟨h1,tk,rfl,hk⟩:=x.done;have noA:∀b:Addr,b∉(tH CX P w K mg base N qual scope f cd A outer s H E).ex:=fun b z=>absurd (show b∈([]:List Addr) from z) (by simp);refine⟨⟨e0.mod,S.kind,rfl,rfl,ν _,fun y z c h1 h2=>?_,fun y hy=>?_,fun y c _ h=>?_,(fun z=>nomatch z),kg.frames_deeper e0.frames,.inr ⟨rfl,rfl⟩,fun b z=>absurd z (noA b),e0.bs,e0.bsz,fun b _ _=>noA b,fun b z=>absurd z (noA b),e0.funs,e0.frf⟩,
  rfl,e0.bare,Un.kept hk,⟨_,x.toInCall.ns,fun i y v h1 h2 h3=>?_⟩,fun y c h=>⟨_,x.cell y c h⟩,e0.hok.fresh (ν _),fun y c h=>?_,fun p hp=>absurd (show p∈([]:List (Addr×Obj)) from hp) (by simp),e0.hok.kept hk,?_⟩
 ·exact name_of_addr x.apart (jr h1) (jr h2)
 ·have hy:scope.names.lookup y=some .cell\/scope.names.lookup y=some .free:=hy;rcases hy with hy|hy
  ·exact iE hy
  ·exact absurd rfl (S.nofree _ (jr hy))
 ·exact pk (x.above y c (jr h))
 ·have hi:i<vs.length:=by
   unfold start at h2
   by_cases hi:i<vs.length
   ·exact hi
   ·rw[ij (by simpa using hi)]at h2;rw[xq]at h2
    split at h2 <;> cases h2
  have ha:vs[i]?=some v:=by
   unfold start at h2;rw[iz (by simpa using hi),iq]at h2;cases e:vs[i]? with
   |none=>rw[e]at h2;cases h2
   |some a=>rw[e]at h2;cases h2;rfl
  obtain⟨u,hu,rv⟩:=r.get ha;have hp:ps[i]?=some y:=by
   rw[←S.pre,mz (by omega)];exact h1
  have ndP:ps.Nodup:=by rw[←S.pre];exact S.nd.sublist (List.take_sublist _ _)
  refine⟨u,rv,?_⟩;rcases S.par y (μ hp) with k|k
  ·exact .inl ⟨k,lZ ndP hp hu k⟩
  ·obtain⟨c,e⟩:=iE (n:=s.heap.objs.size+1) k;refine .inr ⟨.inl k,c,e,?_⟩;have q:=x.cell y c e;rw[lQ ndP hp hu (by show scope.names.lookup y≠_;rw[k];decide)]at q;exact q
 ·exact e0.hok.fresh (pk (x.above y c (jr h)))
 ·unfold start;show _=N.length;rw[ι,δ,oo];omega
theorem aRg{K:υ}{kV oc:Value}{od:Option Addr}
  {osl:Array (Option Value)}{sp:Sp}(lk:K.lookup f=some ⟨oc,od,.func (fnOf name qual params body scope dV kV doc pm an cdv ct),osl⟩)(hcd:codeIn K cdv qual=true)(S:jN N ps scope)
  (len:∀vs H Q E,sp vs H Q E->vs.length=ps.length)
  (hbody:∀(A:kg) (outer:List Env) (s:ξ) (H:Hp) (vs:List V) (Q:VK) (E:XK),zA k (A.deeper (wn qual scope s.heap.objs.size f cdv))->sp vs H Q E →
   ∃t,PSs (tH CX P w K mg base N qual scope f cdv A outer s H E) body t/\t { nx:=fun _ H'=>Q .non H',rt:=Q } (start N vs) H):
  dB P w K mg base CX (k+1) f (fnOf name qual params body scope dV kV doc pm an cdv ct) ps sp:=by
 refine⟨len,fun A outer s H args us vs Q E hr e0 hb r hsp=>?_⟩;have hl:=len _ _ _ _ hsp;have KX:K.In s.heap:=e0.mod.kin.keeps fun b o e=>(e0.bs b o e).1;have lim:s.heap.NoLimit:=e0.mod.nolimit.keeps fun b o e=>(e0.bs b o e).1;have hkind:∀y∈ps.zip us,scope.names.lookup y.1=some .local\/(scope.names.lookup y.1=some .cell/\((cellsFrom (s.heap.objs.size+1) scope.names []).lookup y.1).isSome=true):=fun ⟨n,v⟩ hy=>by
  rcases S.par n (List.of_mem_zip hy).1 with q|q
  ·exact .inl q
  ·exact .inr ⟨q,yb _ _ _ (.inl q)⟩
 refine codeAny_call_function hr.depth (KX _ _ lk) rfl S.co S.gen rfl (PySem.W.codeRec_of KX hcd) (hb _ _ _ _ ?_);refine wpAny_newFunctionEnv_cells S.kind hkind fun env he s1 x=>?_;subst he;refine⟨lim.keeps x.toInCall.keep,codeAny_func ?_⟩;obtain⟨t,ht,hq⟩:=hbody A outer s H vs Q E (hr.deeper _) hsp;have I:Inv (tH CX P w K mg base N qual scope f cdv A outer s H E) [] (start N vs) H s1:=aDo S e0 hl r x;refine kj (ht [] s1 (start N vs) H _ I hq) (fun fl s' hs=>?_) fun e s' hs=>hs;have fin:∀{σ':St}{H':Hp}{v:V}{u:Value},Inv (tH CX P w K mg base N qual scope f cdv A outer s H E) [] σ' H' s'->RelV v u->Q v H'->CE outer P w H s Q u s' :=
  fun {σ' H' v u} J rv q=>⟨v,H',J.os,J.bare,J.base,J.hok,rv,q⟩
 cases fl with
 |ret u =>
  obtain⟨v,σ',H',J,rv,q⟩:=hs;exact fin J rv q
 |next =>
  obtain⟨σ',H',J,q⟩:=hs;exact fin (v:=V.non) (u:=mn) J rfl q
 |brk =>
  obtain⟨_,_,_,q⟩:=hs;exact jl q
 |cont =>
  obtain⟨_,_,_,q⟩:=hs;exact jl q
section
variable {X:Cx}{CX:CXT}{k:Nat}{f C:Addr}{fd:oz}{ps:List Str}{sp:Sp}{dvs:List V}{ds:List Value}{E:XK}{x m:Str}{p pos apos:Pos}{e o:Expr}{es:List Expr}{ta:TE}{t:TA}
theorem aMf{Q:VK}(F:dB X.prog X.w X.K X.mg X.base CX k f fd ps sp)(hr:zA k X.A)(hb:Binds X.K fd ps ds)(hd:kN dvs ds)(hx:xS CX X E)
  (I:Inv X pins σ H s)(r:kN vs us)(h:sp (vs++dvs) H Q E):ik (ir X.prog X.w) X.A (call (.ref f) us) (EP X pins σ Q) X.xe s:=by
 have r2:kN (vs++dvs) (us++ds):=r.append hd;have hl:(us++ds).length=ps.length:=by rw[←r2.length];exact F.len _ _ _ _ h
 refine uq (wf (F.run X.A X.stack s H ⟨us,[]⟩ (us++ds) (vs++dvs) Q E hr I.env0 (hb s us I.kIn hl) r2 h) fun r s' hq=>?_);cases r with
 |error e=>exact hx pins σ H s e s' I hq
 |ok fl =>
  cases fl with
  |ret u=>exact I.after hq
  |next=>exact jl hq
  |brk=>exact jl hq
  |cont=>exact jl hq
theorem aIe(F:dB X.prog X.w X.K X.mg X.base CX k f fd ps sp)(hr:zA k X.A)(hg:Gl X x)(hm:X.mg x=some (.ref f))(hk:keepIn X.K (.ref f)=true)(hb:Binds X.K fd ps ds)(hd:kN dvs ds)(hx:xS CX X E)
  (ha:PA X (e::es) t)(hdb:(x == ("__debug__" : Str))=false:=by decide)(he:il (e::es) X.env=(false,eval e X.env)::il es X.env:=by rfl)(hpl:(rf pos (il es X.env)).any (·.1)=false:=by rfl):
  PE X (.Call (.Name x p) (e::es) [] pos) (tM sp dvs E t):=by
 intro pins s σ H Q I h;refine qi (cM I hg hm ?_ hdb);refine qj (h₀:=X.base) I.ok.mod.kin hk (thn (ha pos pins s σ H _ I h) fun us s1 zq=>zq.el fun vs H1 I1 r q=>⟨I1.kIn,?_⟩) he hpl;exact aMf F hr hb hd hx I1 r q
end
section
variable {P:jy}{w:mf}{K:υ}{mg:Str->Option Value}{base:kq}
theorem Fun.okH{st:Stmt}{sp:Sp}(F:Fun K x qual st f fd)(S:jN N ps (jG st))(len:∀vs H Q E,sp vs H Q E->vs.length=ps.length)
  (hbody:∀(cdv:Value) (A:kg) (outer:List Env) (s:ξ) (H:Hp) (vs:List V) (Q:VK) (E:XK),zA k (A.deeper (wn qual (jG st) s.heap.objs.size f cdv))->sp vs H Q E →
   ∃t,PSs (tH CX0 P w K mg base N qual (jG st) f cdv A outer s H E).nox (yZ st) t/\t { nx:=fun _ H'=>Q .non H',rt:=Q } (start N vs) H):dB P w K mg base CX0 (k+1) f fd ps sp:=by
 obtain⟨oc,od,kV,doc,pm,an,cdv,ct,osl,rfl,lk,hcd⟩:=F.ex;refine aRg lk hcd S len fun A outer s H vs Q E hr hsp=>?_;obtain⟨t,h,q⟩:=hbody cdv A outer s H vs Q E hr hsp;exact⟨t,h.nox,q⟩
end
structure zS (P:jy) (w:mf) (K:υ) (mg:Str->Option Value) (base:kq) (CX:CXT) (k:Nat) (m:Str) (C:Addr) (sp:Sp):Prop where
 cl:Cls K C
 ex:∃f fd ps,Meth K C m f/\kJ P w K mg base CX k f fd ps sp/\Binds K fd ps []
section
variable {X:Cx}{CX:CXT}{k:Nat}{E:XK}{m:Str}{pos apos:Pos}{e o:Expr}{es:List Expr}{ta:TE}{t:TA}{T:Addr->Sp->Prop}
def aHw (T:Addr->Sp->Prop) (m:Str) (E:XK) (ta:TE) (t:TA):TE:=fun σ H Q=>ta σ H fun x H1=>∃a C dx fs sp,x=.ref a/\H1 a=some (.ins C dx fs)/\fs.lookup m=none/\T C sp/\t σ H1 fun vs H2=>sp (x::vs) H2 Q E
theorem aBb(he:PE X o ta)(hT:∀C sp,T C sp->zS X.prog X.w X.K X.mg X.base CX k m C sp)(hr:vQ k X.A)(hx:xS CX X E)(ha:PA X (e::es) t)
  (hst:il (e::es) X.env=(false,eval e X.env)::il es X.env:=by rfl)(hpl:(rf pos (il es X.env)).any (·.1)=false:=by rfl)
  (ht:eval (.Call (.Attribute o m apos) (e::es) [] pos) X.env=(do
   let ov ←eval o X.env
   standAt apos.atName
   let (f,first) ←xb [ov] (wc ov m pl)
   callWith pos f first (rf pos (il (e::es) X.env)) (backToKw pos (xo [] X.env))):=by rfl):
  PE X (.Call (.Attribute o m apos) (e::es) [] pos) (aHw T m E ta t):=by
 intro pins s σ H Q I h;refine sv (pl:=pl) (thn (he pins s σ H _ I h) fun u s1 zq=>?_) ht;obtain⟨x,H1,I1,rx,a,C,dx,fs,sp,ex,ea,l,hC,q⟩:=zq;subst ex;obtain rfl:u=iw a:=rx;obtain⟨c,f,fd,ps,hm,F,hb⟩:=hT C sp hC;refine fG I1 ea c hm l ?_;refine qj (first:=[.ref a]) (h₀:=X.base) I.ok.mod.kin hm.kp (thn (ha pos pins s1 σ H1 _ I1 q) fun us s2 zq=>zq.el fun vs H2 I2 r q2=>⟨I2.kIn,?_⟩) hst hpl;exact pH (us:=.ref a::us) (vs:=.ref a::vs) (dvs:=[]) F hr hb .nil hx I2 (.cons rfl r) (by rw[li];exact q2)
theorem yC(he:PE X o ta)(hT:∀C sp,T C sp->zS X.prog X.w X.K X.mg X.base CX k m C sp)(hr:vQ k X.A)(hx:xS CX X E)
  (ht:eval (.Call (.Attribute o m apos) [] [] pos) X.env=(do
   let ov ←eval o X.env
   standAt apos.atName
   let (f,first) ←xb [ov] (wc ov m pl)
   callWith pos f first (rf pos (il [] X.env)) (backToKw pos (xo [] X.env))):=by rfl):
  PE X (.Call (.Attribute o m apos) [] [] pos) (aHw T m E ta aKc):=by
 intro pins s σ H Q I h;refine sv (pl:=pl) (thn (he pins s σ H _ I h) fun u s1 zq=>?_) ht;obtain⟨x,H1,I1,rx,a,C,dx,fs,sp,ex,ea,l,hC,q⟩:=zq;subst ex;obtain rfl:u=iw a:=rx;obtain⟨c,f,fd,ps,hm,F,hb⟩:=hT C sp hC;refine fG I1 ea c hm l ?_;exact PySem.W.callWith_K0 (first:=[.ref a]) I1.kIn hm.kp (pH (us:=[.ref a]) (vs:=[.ref a]) (dvs:=[]) F hr hb .nil hx I1 (.cons rfl .nil) q)
end
def aAu:V->Option Str
 |.str x=>some x
 |.int i=>if i.natAbs<2 ^ 100 then some (toString i) else none
 |_=>none
def TJ:=St->Hp->Str->(Str->Hp->Prop)->Prop
def PJ (X:Cx) (es:List Expr) (t:TJ):Prop:=∀(pins:List (Addr×Obj)) (s:ξ) (σ:St) (H:Hp) (acc:Str) (Q:Str->Hp->Prop),Inv X pins σ H s->t σ H acc Q →
 ik (ir X.prog X.w) X.A (joinParts acc (evalEach es X.env)) (EP X pins σ fun v H'=>∃z,v=.str z/\Q z H') X.xe s
section
variable {X:Cx}{e e1 e2:Expr}{es:List Expr}{te:TE}{t:TJ}{pos p:Pos}{x:Str}
def jNil:TJ:=fun _ H acc Q=>acc.length<=ρ/\Q acc H
theorem aRy:PJ X [] jNil:=fun _ s _ H acc Q I h=>joinParts_nil ⟨.str acc,H,I.tok _,⟨_,rfl⟩,acc,rfl,h.2⟩ h.1
def jStr (x:Str) (t:TJ):TJ:=fun σ H acc Q=>(acc++x).length<=ρ/\t σ H (acc++x) Q
theorem aSf{j}(ht:PJ X es t):PJ X (.Constant (.str x) j p::es) (jStr x t):=by
 intro pins s σ H acc Q I h;refine joinParts_cons (Calls.Constant_str ⟨h.1,ht pins _ σ H _ Q (I.tok _) h.2⟩)
theorem aJh{s:ξ}{R:Value->ξ->Prop}(I:Inv X pins σ H s)(r:RelV v u)(hy:aAu v=some y)(hl:y.length<=ρ)
  (h:∀t' tk,Inv X pins σ H { s with toks:=tk }->R (.str y t') { s with toks:=tk }):ik (ir X.prog X.w) X.A (formatField u Str.empty) R E s:=by
 cases v with
 |str x =>
  obtain⟨t,rfl⟩:=r;cases hy;exact formatField_str (fun t' tk=>h t' tk (I.kept fun _ _ q=>q)) hl
 |int i =>
  obtain⟨t,rfl⟩:=r;have hy':(if i.natAbs<2 ^ 100 then some (ε (toString i)) else none)=some y:=hy
  by_cases hi:i.natAbs<2 ^ 100
  ·rw[if_pos hi]at hy';cases hy';refine formatField_int_small ?_ (h _ _ (I.kept fun _ _ q=>q));have:=yV hi;omega
  ·rw[if_neg hi]at hy';cases hy'
 |_=>cases hy
def jVal (te:TE) (t:TJ):TJ:=fun σ H acc Q=>te σ H fun v H1=>∃y,aAu v=some y/\y.length<=ρ/\(acc++y).length<=ρ/\t σ H1 (acc++y) Q
theorem aLc(he:PE X e te)(ht:PJ X es t):PJ X (.FormattedValue e (-1) none p::es) (jVal te t):=by
 intro pins s σ H acc Q I h;refine joinParts_cons (FormattedValue_plain (thn (he pins s σ H _ I h) fun u s1 zq=>?_));obtain⟨v,H1,I1,r,y,hy,hl,ha,q⟩:=zq;exact aJh I1 r hy hl fun t' tk I2=>⟨ha,ht pins _ σ H1 _ Q I2 q⟩
def tJoin (t:TJ):TE:=fun σ H Q=>t σ H Str.empty fun z H1=>Q (.str z) H1
theorem aNi(h:PJ X (e1::e2::es) t):PE X (.JoinedStr (e1::e2::es) pos) (tJoin t):=by
 intro pins s σ H Q I hq;exact JoinedStr_many (thn (h pins s σ H Str.empty _ I hq) fun u s1 ⟨v,H1,I1,r,z,ez,q⟩=>⟨v,H1,I1,r,by rw[ez];exact q⟩)
def aQf (te:TE):TE:=fun σ H Q=>te σ H fun v H1=>∃y,aAu v=some y/\y.length<=ρ/\Q (.str y) H1
theorem aKn(he:PE X e te):PE X (.JoinedStr [.FormattedValue e (-1) none p] pos) (aQf te):=by
 intro pins s σ H Q I h;refine JoinedStr_one (FormattedValue_plain (thn (he pins s σ H _ I h) fun u s1 zq=>?_));obtain⟨v,H1,I1,r,y,hy,hl,q⟩:=zq;exact aJh I1 r hy hl fun t' tk I2=>⟨.str y,H1,I2,⟨_,rfl⟩,q⟩
end
end L2
namespace L2
open PySem
def jn (c:Nat):List (List Nat)->List Nat
 |[]=>[]
 |[p]=>p
 |p::q::r=>p++c::jn c (q::r)
theorem aFw{c:Nat}: ∀{p1 p2 t1 t2:List Nat},c∉p1->c∉p2->p1++c::t1=p2++c::t2->p1=p2/\t1=t2
 |[],[],t1,t2,_,_,h=>⟨rfl,(xa h).2⟩
 |[],b::p2,t1,t2,_,h2,h=>absurd (Φ.mpr (.inl (xa h).1)) h2
 |a::p1,[],t1,t2,h1,_,h=>absurd (Φ.mpr (.inl (xa h).1.symm)) h1
 |a::p1,b::p2,t1,t2,h1,h2,h=>by
  obtain⟨e1,e2⟩:=xa h;obtain⟨e3,e4⟩:=aFw (fun z=>h1 (Ξ _ z)) (fun z=>h2 (Ξ _ z)) e2;exact⟨by rw[e1,e3],e4⟩
theorem aJu{c:Nat}: ∀{ps qs:List (List Nat)},ps≠[]->qs≠[]->(∀p∈ps,c∉p)->(∀q∈qs,c∉q)->jn c ps=jn c qs->ps=qs
 |[],_,h,_,_,_,_=>absurd rfl h
 |_,[],_,h,_,_,_=>absurd rfl h
 |[p],[q],_,_,_,_,h=>by rw[show p=q from h]
 |[p],q::q2::qs,_,_,hp,_,h=>by
  have e:p=q++c::jn c (q2::qs):=h;exact absurd (by rw[e];simp) (hp p (Ω ..))
 |p::p2::ps,[q],_,_,_,hq,h=>by
  have e:p++c::jn c (p2::ps)=q:=h;exact absurd (by rw[←e];simp) (hq q (Ω ..))
 |p::p2::ps,q::q2::qs,_,_,hp,hq,h=>by
  obtain⟨e1,e2⟩:=aFw (hp p (Ω ..)) (hq q (Ω ..)) h;have ih:=aJu (by simp) (by simp) (fun z hz=>hp z (Ξ _ hz)) (fun z hz=>hq z (Ξ _ hz)) e2;rw[e1,ih]
theorem nU(c:Nat):∀ys:List Str,(jo ⟨#[c]⟩ ys).cps.toList=jn c (ys.map fun y=>y.cps.toList)
 |[]=>rfl
 |[y]=>rfl
 |y::z::ys=>by
  show(y++⟨#[c]⟩++jo ⟨#[c]⟩ (z::ys)).cps.toList=_;rw[sq,sq,qd,qd,nU c (z::ys),mi];rfl
theorem aJq(x y:Str):qk x y≠[]:=fun h=>by
 unfold qk at h
 split at h
 ·cases h
 ·split at h
  ·cases h
  ·rw[StrLaws.partsBetween_eq]at h;obtain⟨p,r,e⟩:=StrLaws.partsFrom_ne x y.length 0 (oy x y 0 x.length (x.length+1));rw[e]at h;cases h
theorem pY{c:Nat}{ys:List Str}(hne:ys≠[])(hf:∀y∈ys,c∉y.cps.toList):qk (jo ⟨#[c]⟩ ys) ⟨#[c]⟩=ys:=by
 have h1:=StrLaws.join_split (jo ⟨#[c]⟩ ys) ⟨#[c]⟩;have h2:=congrArg (fun z:Str=>z.cps.toList) h1;simp only[nU]at h2;have h3:=aJu (by simpa using aJq _ _) (by simpa using hne) (fun p hp=>by
  obtain⟨y,hy,rfl⟩:=jf.mp hp;exact StrLaws.split_free _ c y hy) (fun p hp=>by
  obtain⟨y,hy,rfl⟩:=jf.mp hp;exact hf y hy) h2
 have hi:∀{as bs:List Str},(as.map fun y=>y.cps.toList)=(bs.map fun y=>y.cps.toList)->as=bs:=by
  intro as
  induction as with
  |nil=>intro bs h;cases bs with
   |nil=>rfl
   |cons b bs=>cases h
  |cons a as ih=>intro bs h;cases bs with
   |nil=>cases h
   |cons b bs =>
    obtain⟨e1,e2⟩:=xa h;rw[ih e2,Str.ext' (Array.toList_inj.mp e1)]
 exact hi h3
end L2
namespace L2
open PySem PySem.Spec PyProof.Rows
section
variable {X:Cx}
theorem tE:MtR X "str.split" (fun x vs H Q=>∃z y:Str,x=.str z/\vs=[.str y]/\(y.length == 0)=false/\z.length+2<=ρ/\∀p,H p=none->Q (.ref p) (upd H p (.lst ((qk z y).map V.str)))):=by
 intro pins s σ H x vs v us Q I rx rv h;obtain⟨z,y,rfl,rfl,h2,h4,q⟩:=h;have hn:(su.Str.partsBetween z (oy z y 0 z.length (z.length+1)) y.length).length<=ρ:=by
  have e1:=StrLaws.occ_length_le z y 0 z.length (z.length+1);rw[length_partsBetween];omega
 obtain⟨t,rfl⟩:=rx;obtain⟨u,rfl,ru⟩:=vals1 rv;obtain⟨t',rfl⟩:=ru;have fin:∀(tk:Nat) (ws:List Value),kN ((qk z y).map V.str) ws->(qk z y).length<=ρ →
   EP X pins σ Q (.ref s.heap.objs.size) { s with toks:=tk,heap:=s.heap.push { cls:=.type "list",data:=.seq ws.toArray } }:=fun tk ws rw' hl=>by
  refine⟨.ref s.heap.objs.size,_,I.laid (o:=.lst ((qk z y).map V.str)) (fun b o e=>π _ e) (ν _) ?_,rfl,q _ (I.hok.fresh (ν _))⟩;exact⟨by rw[δ];exact hl,_,0,rw',iu _ rfl⟩
 cases h1:(decide (z.length<y.length)||decide (su.Str.strKind z<su.Str.strKind y))
 ·cases hf:(oy z y 0 z.length (z.length+1)).isEmpty
  ·refine vp F.slot_str_split (typeIs_str _ _ _) F.entry_str_split (F.args_str_split_2 _ _) (meets_str_split_sep z y t t' h1 h2 hf (by omega) hn) ?_;have e:qk z y=su.Str.partsBetween z (oy z y 0 z.length (z.length+1)) y.length:=(if_neg (ne_true_of_eq_false h1)).trans (if_neg (ne_true_of_eq_false hf));exact fin _ _ (by rw[e];exact tO _ _) (by rw[e];exact hn)
  ·have e:qk z y=[z]:=(if_neg (ne_true_of_eq_false h1)).trans (if_pos hf);exact vp F.slot_str_split (typeIs_str _ _ _) F.entry_str_split (F.args_str_split_2 _ _) (meets_str_split_not_found z y t t' h1 h2 hf) (fin s.toks [.str z t] (by rw[e];exact .cons ⟨_,rfl⟩ .nil) (by rw[e];show 1<=ρ;decide))
 ·have e:qk z y=[z]:=if_pos h1;exact vp F.slot_str_split (typeIs_str _ _ _) F.entry_str_split (F.args_str_split_2 _ _) (meets_str_split_cannot_occur z y t t' h1) (fin s.toks [.str z t] (by rw[e];exact .cons ⟨_,rfl⟩ .nil) (by rw[e];show 1<=ρ;decide))
theorem pC:MtR X "str.join" (fun x vs H Q=>∃(sep:Str) (a:Addr) (ys:List Str),x=.str sep/\vs=[.ref a]/\SqL X.K H a (ys.map V.str)/\(ys.map (·.length)).sum+ys.length*sep.length<=16777216/\Q (.str (jo sep ys)) H):=by
 intro pins s σ H x vs v us Q I rx rv h;obtain⟨sep,a,ys,rfl,rfl,ha,hz,q⟩:=h;obtain⟨t,rfl⟩:=rx;obtain⟨u,rfl,ru⟩:=vals1 rv;cases ru;obtain⟨its,r,pl,_⟩:=I.list ha;refine PyProof.Rows.join_list pl.isList (aCt (by simpa using r)) hz fun t' k=>⟨.str _,H,I.tok _,⟨_,rfl⟩,?_⟩;rw[show Txt.join sep ys=jo sep ys from StrLaws.glued_eq_join sep ys];exact q
end
section
variable {X:Cx}
theorem mF(f:Nat->Int):∀k,argBest (fun i j=>decide (f i > f j)) k<=k/\∀j,j<=k->f j<=f (argBest (fun i j=>decide (f i > f j)) k)
 |0=>⟨ν _,fun j hj=>by rw[show j=0 by omega];exact Int.le_refl _⟩
 |k+1=>by
  obtain⟨h1,h2⟩:=mF f k;unfold argBest
  by_cases h:f (k+1) > f (argBest (fun i j=>decide (f i > f j)) k)
  ·rw[if_pos (decide_eq_true h)];refine⟨ν _,fun j hj=>?_⟩
   by_cases e:j=k+1
   ·rw[e];exact Int.le_refl _
   ·have:=h2 j (by omega);omega
  ·rw[if_neg (by rw[decide_eq_false h];exact ψ)];refine⟨by omega,fun j hj=>?_⟩
   by_cases e:j=k+1
   ·rw[e];omega
   ·exact h2 j (by omega)
theorem zV(hc:X.calm=true):xA X (.builtin "max") (fun xs H Q=>∃(a:Addr) (ns:List Int),xs=[.ref a]/\SqL X.K H a (ns.map V.int)/\ns≠[]/\∀m:Int,m∈ns->(∀n∈ns,n<=m)->Q (.int m) H):=by
 intro pins s σ H xs us Q I r h;obtain⟨a,ns,rfl,ha,hne,q⟩:=h;obtain⟨u,rfl,rx⟩:=vals1 r;cases rx;obtain⟨its,rv,pl,_⟩:=I.list ha;have hi:=intsAre_of rv;obtain⟨ys,hy⟩:=hi.allInts.items;have e1:ns=ys.toList.map (·.1):=by
  rw[←nums_intItems,←hy];exact(show numsOf its.toArray.toList=ns from hi.numsOf).symm
 have hsz:ys.size=ns.length:=by rw[e1,δ,nh]
 have hpos : 0<ns.length:=uf.mpr hne;have hat:∀j,ns[j]?=ys[j]?.map (fun x:Int×Tok=>x.1):=fun j=>by rw[e1,iq,vf]
 have hnum:∀j,j<ns.length->ns[j]?=some (numAt ys j):=fun j hj=>by
  have hj2:j<ys.size:=by omega
  rw[hat,ol hj2];unfold numAt;rw[ol hj2];rfl
 refine max_intList (I.ok.hd hc) (hy ▸ pl.isList) (by omega) fun v h' tk hv hk=>?_;obtain⟨t,rfl⟩:=intItems_at hv;obtain⟨b1,b2⟩:=mF (numAt ys) (ys.size-1);refine⟨.int _,H,I.kept hk,⟨_,rfl⟩,q _ (μ (hnum _ (by omega))) fun n hn=>?_⟩;obtain⟨j,hj⟩:=lc.mp hn;have hjl:j<ns.length:=(η.mp hj).1;rw[hnum j hjl]at hj;cases hj;exact b2 j (by omega)
theorem aNx:OpR X (sg .Mult) (fun x y H Q=>∃(z:Str) (n:Int),x=.str z/\y=.int n/\(n=0\/n=1)/\z.length<=ρ/\Q (.str (if n=1 then z else Str.empty)) H):=by
 intro pins s σ H x y v u Q I rx ry h;obtain⟨z,n,rfl,rfl,hn,hl,q⟩:=h;obtain⟨t,rfl⟩:=rx;obtain⟨t',rfl⟩:=ry;rcases hn with rfl|rfl
 ·refine P.mul_str_none (by decide) (by decide) ⟨.str _,H,I.tok _,⟨_,rfl⟩,q⟩
 ·refine P.mul_str (by decide) (fun _ h=>by simp at h) (fun _ h=>by simp at h) ?_;exact⟨.str _,H,I,⟨_,rfl⟩,q⟩
theorem aAh(hu:X.A.units+64<ou):OpR X (ky .Eq) (fun x y H Q=>∃(a b:Addr) (xs:List V),x=.ref a/\y=.ref b/\SqL X.K H a xs/\SqL X.K H b []/\Q (.bl xs.isEmpty) H):=by
 intro pins s σ H x y v u Q I rx ry h;obtain⟨a,b,xs,rfl,rfl,ha,hb,q⟩:=h;cases rx;cases ry;obtain⟨i1,r1,p1,_⟩:=I.list ha;obtain⟨i2,r2,p2,_⟩:=I.list hb;cases r2;cases xs with
 |nil =>
  cases r1;refine SeqAt.eq_listAt (e:=fun _=>true) p1.isList p2.isList rfl (by omega) (fun j h1 _=>absurd h1 (xk _)) ?_;exact⟨.bl true,H,I,rfl,q⟩
 |cons z zs =>
  cases r1 with
  |cons rz rt =>
   refine SeqAt.eq_list_lengthsAt p1.isList p2.isList (by simp) (by omega) ?_;exact⟨.bl false,H,I,rfl,q⟩
end
def aEa (J:It) (k:Nat) (js:List Nat) (g:TG) (tc:TT) (tk tv:TE) (σ:St) (Q:VK) (H1:Hp):Prop:=∀D,H1 D=none →
 ∃W:Nat->Nat->St->List (Key×V)->Hp->Prop,(∃m,W 0 m (hZ k js σ) [] (upd H1 D (.dK [])))/\∀i m σ' kvs H',W i m σ' kvs H' →
  (J.stop i H'/\Q (.ref D) H') ∨
  (J.go i H'/\∃N:St->List (Key×V)->Hp->Prop,(∀σ' ys H',N σ' ys H'->∃m',m'<m/\W (i+1) m' σ' ys H') ∧
   ∀x H2,J.yld i H' x H2->g x σ' H2 fun σ3 H3=>tc σ3 H3 fun b H4=>if b=true then tk σ3 H4 fun y H5=>tv σ3 H5 fun v H6=>∃key,y=kV key/\H6 D=some (.dK kvs)/\kvs.length<ρ/\N σ3 (putK kvs key v) (upd H6 D (.dK (putK kvs key v))) else N σ3 kvs H4)
def aSe (wi:TI) (k:Nat) (js:List Nat) (g:TG) (tc:TT) (tk tv:TE):TE:=fun σ H Q=>wi σ H fun J H1=>aEa J k js g tc tk tv σ Q H1
section
variable {prog:jy}{w:mf}{A:kg}{R:Result->ξ->Prop}{s:ξ}
theorem rM{iter:Expr}(I:Nat->ξ->Prop)
  (turn:∀n s,I n s->ik (ir prog w) A (pyNext it) (fun r s₁=>match r with
   |none=>R (.ok .next) s₁
   |some v=>ik (ir prog w) A (xg target it v) (fun _ s₀=>ik (ir prog w) A (assign target env v) (fun _ s₂ =>
     ik (ir prog w) A (forIn ifs true fun c r=>if r=true then do let ok ←isTrue c env (eval c env);pure (uy ok) else pure (uy r)) (fun ok s₃ =>
      if ok=true then ik (ir prog w) A (eval kx env) (fun kv s₄=>ik (ir prog w) A (eval vx env) (fun vv s₅ =>
       ik (ir prog w) A (dictSet D kv vv) (fun _ s₆=>∃m,m<n/\I m s₆) (fun _ _=>False) s₅) (fun _ _=>False) s₄) (fun _ _=>False) s₃
      else ∃m,m<n/\I m s₃) (fun _ _=>False) s₂) (fun _ _=>False) s₀) (fun _ _=>False) s₁) (fun _ _=>False) s)
  (n:Nat)(h:I n s):wd (ir prog w) A (.compLoop (.DictComp kx vx [⟨target,iter,ifs,0⟩] scope pos) 0 it (.ref D) env) R s:=by
 refine codeAny_loop rfl I (fun n s hI=>?_) n h;show ik _ A ((compTurn (.DictComp kx vx [⟨target,iter,ifs,0⟩] scope pos) 0 it (.ref D) env).onRaise (fun x=>do noteFrame x env;theTreesLotGoes x)) _ _ s;refine wpAny_noted ?_;rw[compTurn_dict];refine ζ (vc (ζ (kj (turn n s hI) (fun r s₁ h₁=>?_) fun _ _ z=>jl z)));cases r with
 |none=>exact Γ h₁
 |some v =>
  refine ζ (kj h₁ (fun _ s₀ h₀=>?_) fun _ _ z=>jl z);refine ζ (kj h₀ (fun _ s₂ h₂=>ζ (kj h₂ (fun ok s₃ h₃=>?_) fun _ _ z=>jl z)) fun _ _ z=>jl z);cases ok with
  |false=>exact Γ ⟨rfl,h₃⟩
  |true =>
   exact ζ (ζ (kj h₃ (fun kv s₄ h₄=>ζ (my (kj h₄ (fun vv s₅ h₅=>ζ (vc (my (kj h₅ (fun _ s₆ h₆=>Γ ⟨rfl,h₆⟩) fun _ _ z=>jl z)))) fun _ _ z=>jl z))) fun _ _ z=>jl z))
end
section
variable {X:Cx}{elt tg iter:Expr}{ifs:List Expr}{scope:Scope}{cl:List (Str×Addr)}{ts ys:List Str}{js:List Nat}{pos:Pos}{wi:TI}{g:TG}{tc:TT}{te:TE}
theorem aGj{s4:ξ}{fp:List Addr}(I2:Inv X pins σ H2 s2)(f2:∀b∈fp,dZ X pins H2 b)
  (I4:Inv (X.comp scope cl N s2 H2 fp C) pins' σ' H3 s4)(hC:s2.heap.objs.size<=C)(hs':oh C s4.heap h'):Inv X pins σ H3 { s4 with heap:=h' }:=by
 have ext:=hs'.extBut;have neC:∀b o,s2.heap.get? b=some o->b≠C:=fun b o e=>jb (ς (io e) hC);have hok:HOk X.prog X.w H3 h':=HOk.but (C:=C) I4.hok I4.free fun b o hb e=>ext b o hb e;have B:Un (frs X.stack) fp H2 H3 s2.heap s4.heap:=I4.base;have u:Un (frs X.stack) fp H2 H3 s2.heap h':=by
  refine⟨fun b o e q hb hx=>ext b o (neC b o e) (B.keep b o e q hb hx),fun b o e q hb hx=>?_,B.free,fun b o e hx=>?_,B.tups,B.frzs,B.tbls⟩
  ·obtain⟨sl,e1⟩:=B.slot b o e q hb hx;exact⟨sl,ext b _ (neC b o e) e1⟩
  ·obtain⟨o',e1⟩:=B.there b o e hx;exact⟨o',ext b _ (neC b o e) e1⟩
 have os:s4.os=s2.os:=I4.os;have gb:=I4.bare;obtain⟨hh,gg,dd,tt,os'⟩:=s4;obtain rfl:os'=s2.os:=os;have fin:=I2.call (h':=h') (g':=gg) (d':=dd) (t':=tt) (ch:=fp) u hok gb fun b hb=>⟨(f2 b hb).2.2.2.1,(f2 b hb).2.1,(f2 b hb).2.2.2.2.1,(f2 b hb).2.2.2.2.2⟩;exact fin
theorem wX(ts ys:List Str)(js:List Nat)(hc:X.calm=true)(hi:PI X tg iter wi)(hclos:closureFor scope X.env=pure cl)(hsub:iL X.env cl)(hcap:rZ X scope cl ys js)
  (hg:∀s H fp C,PG (X.comp scope cl (ts++ys) s H fp C) tg g)(ht:∀s H fp C,PIf (X.comp scope cl (ts++ys) s H fp C) ifs tc)(hek:∀s H fp C,PE (X.comp scope cl (ts++ys) s H fp C) kx tk)(hev:∀s H fp C,PE (X.comp scope cl (ts++ys) s H fp C) vx tv)
  (hkind:scope.kind=.function:=by rfl)(hcell:(scope.names.all fun y=>y.2 != .cell)=true:=by rfl)
  (hnames:(scope.names.all fun y=>y.2 != .local||scope.names.lookup y.1 == some .local)=true:=by rfl)
  (hhas:((relabel scope X.env).names.all fun p=>(p.2 != .cell&&p.2 != .free)||(cl.lookup p.1).isSome)=true:=by rfl)
  (hs:∀x,ya iter X.env x=pure x:=by intro _;rfl):PE X (.DictComp kx vx [⟨tg,iter,ifs,0⟩] scope pos) (aSe wi ts.length js g tc tk tv):=by
 intro pins s σ H Q I h;have hcell':∀y∈scope.names,y.2≠.cell:=fun y hy z=>by
  have:=ji.mp hcell y hy;rw[z]at this;exact absurd this (by decide)
 have hnames':∀y∈scope.names,y.2=.local->scope.names.lookup y.1=some .local:=fun y hy z=>by
  have:=ji.mp hnames y hy;rw[z]at this;simpa using this
 have hhas':∀x,((relabel scope X.env).names.lookup x=some .cell\/(relabel scope X.env).names.lookup x=some .free)->∃c,cl.lookup x=some c:=fun x hx=>by
  rcases hx with hx|hx
  ·have:=ji.mp hhas _ (jr hx);exact qo.mp (by simpa using this)
  ·have:=ji.mp hhas _ (jr hx);exact qo.mp (by simpa using this)
 rw[arm_eval_DictComp];refine wpAny_comprehension_free (use:=none) rfl hs hclos hkind hnames' (thn (hi pins s σ H _ I h) fun v s1 h1=>thn h1 fun itv s2 h2=>?_);obtain⟨it,fp,tn,J,H2,e,I2,T,st2,f2,hD⟩:=h2;subst e;have fl:∀b∈fp,b<s2.heap.objs.size:=fun b hb=>by
  obtain⟨o,e,_⟩:=T.obj _ _ st2 b hb;exact io e
 refine vi (wpAny_newFunctionEnv hcell' (by intro y hy;simp at hy) (fun h₁ hns₁ hsb₁=>?_) hkind);dsimp only at hns₁ hsb₁ ⊢;have hn2:H2 s2.heap.objs.size=none:=I2.hok.fresh (ν _);obtain⟨W,⟨m0,w0⟩,turn⟩:=hD _ hn2;have I2d:Inv X pins σ (upd H2 s2.heap.objs.size (.dK [])) { s2 with heap:=s2.heap.push { cls:=.type "dict",data:=.dict #[] } } :=
  I2.laid (a:=s2.heap.objs.size) (o:=.dK []) (h':=s2.heap.push { cls:=.type "dict",data:=.dict #[] }) (t':=s2.toks) (fun _ _ q=>π _ q) (ν _) (oO s2.heap I2.big)
 generalize hHH:s2.heap.push { cls:=.type "dict",dict:=none,data:=.dict #[] }=HH at hns₁ hsb₁ I2d ⊢;have hC:HH.objs.size=s2.heap.objs.size+1:=by rw[←hHH,pq]
 have hlt:s2.heap.objs.size<HH.objs.size:=by rw[hC];exact we _
 have f2d:∀b∈fp,dZ X pins (upd H2 s2.heap.objs.size (.dK [])) b:=fun b hb=>⟨by rw[jZ (jb (fl b hb))];exact(f2 b hb).1,(f2 b hb).2⟩;have fld:∀b∈fp,b<HH.objs.size:=fun b hb=>yf (fl b hb) hlt;have old:∀b o,HH.get? b=some o->h₁.get? b=some o:=fun b o e=>hsb₁.extBut b o (jb (io e)) (π _ e);have I':Inv (X.comp scope cl (ts++ys) { s2 with heap:=HH } (upd H2 s2.heap.objs.size (.dK [])) fp HH.objs.size) [] (hZ ts.length js σ) (upd H2 s2.heap.objs.size (.dK [])) { s2 with heap:=h₁,toks:=s2.toks+([]:List (Str×Value)).length } :=
  aBj (s:={ s2 with heap:=HH }) I2d hsub hcap hkind hhas' f2d fld (ν _) hns₁ old
 have stat:∀{H':Hp},(∀b∈fp,H' b=none)->∀b∈fp,dZ (X.comp scope cl (ts++ys) { s2 with heap:=HH } (upd H2 s2.heap.objs.size (.dK [])) fp HH.objs.size) [] H' b:=fun {H'} hn b hb =>
  ⟨hn b hb,jb (fld b hb),I'.ok.exfs b hb,.inl hb,(I'.ok.exf b hb).2,fun p hq=>absurd (show p∈([]:List (Addr×Obj)) from by simpa using hq) (by simp)⟩
 have tn1:tn 0 h₁:=T.keep _ _ _ st2 fun b _ o e=>old b o (hHH ▸ π _ e);have loop:∀s₃ : ξ,s₃ = { s2 with heap:=h₁,toks:=s2.toks+([]:List (Str×Value)).length } →
   wd (ir X.prog X.w) X.A (.compLoop (.DictComp kx vx [⟨tg,iter,ifs,0⟩] scope pos) 0 (.ref it) (.ref s2.heap.objs.size) (compEnvC scope cl HH.objs.size X.env))
    (compPost (ir X.prog X.w) X.A X.xe none (EP X pins σ Q) (.ref s2.heap.objs.size) HH.objs.size) s₃:=by
  rintro s₃ rfl;refine rM (fun n s'=>∃i σ' kvs H',Inv (X.comp scope cl (ts++ys) { s2 with heap:=HH } (upd H2 s2.heap.objs.size (.dK [])) fp HH.objs.size) [] σ' H' s'/\tn i s'.heap/\(∀b∈fp,H' b=none)/\W i n σ' kvs H') ?_ m0 ⟨0,_,[],_,I',tn1,fun b hb=>(f2d b hb).1,w0⟩;rintro n s3 ⟨i,σ3,kvs,H3,I3,st3,fr3,w3⟩;rcases turn i n σ3 kvs H3 w3 with⟨stop,qn⟩|⟨go,N,hN,step⟩
  ·refine thn (T.done (X.comp scope cl (ts++ys) { s2 with heap:=HH } (upd H2 s2.heap.objs.size (.dK [])) fp HH.objs.size) rfl rfl rfl hc i _ s3 σ3 H3 (fun _ _=>False) I3 (stat fr3) st3 stop) fun r s4 zq=>?_;obtain⟨hr,I4⟩:=zq;subst hr;obtain⟨m,hn,_⟩:=I4.loc;exact⟨m,hn,fun h' hs'=>⟨.ref s2.heap.objs.size,_,aGj (s2:={ s2 with heap:=HH }) I2d f2d I4 (ν _) hs',rfl,qn⟩⟩
  ·refine thn (T.item (X.comp scope cl (ts++ys) { s2 with heap:=HH } (upd H2 s2.heap.objs.size (.dK [])) fp HH.objs.size) rfl rfl rfl hc i _ s3 σ3 H3 (fun _ _=>False) I3 (stat fr3) st3 go) fun r s4 zq=>?_;obtain⟨u,hr,h4⟩:=zq;subst hr;refine thn h4 fun _ s5 zq=>?_;obtain⟨x,H5,I5,r5,y5,st5,fr5⟩:=zq;have I5':=I5.pinned (stat fr5) (T.obj _ _ st5);refine thn (hg _ _ _ _ _ s5 σ3 H5 x u _ I5' r5 (step x H5 y5)) fun _ s6 zq=>?_;obtain⟨σ6,H6,I6,q6⟩:=zq;refine thn (ht _ _ _ _ _ s6 σ6 H6 _ I6 q6) fun b s7 zq=>?_;obtain⟨H7,I7,q7⟩:=zq;have facts:∀{σ':St}{H':Hp}{s':ξ},Inv (X.comp scope cl (ts++ys) { s2 with heap:=HH } (upd H2 s2.heap.objs.size (.dK [])) fp HH.objs.size) ([]++dO fp s5.heap) σ' H' s'->tn (i+1) s'.heap/\(∀b∈fp,H' b=none):=fun {σ' H' s'} J=>by
    refine⟨T.keep _ _ _ st5 fun b hb o e=>(J.pin (b,o) (jh _ (jh _ (yM hb e)))).1,fun b hb=>?_⟩;obtain⟨o,e,d⟩:=T.obj _ _ st5 b hb;exact(J.pin (b,o) (jh _ (jh _ (yM hb e)))).2.1
   have bare:∀{σ':St}{H':Hp}{s':ξ},Inv (X.comp scope cl (ts++ys) { s2 with heap:=HH } (upd H2 s2.heap.objs.size (.dK [])) fp HH.objs.size) ([]++dO fp s5.heap) σ' H' s'->Inv (X.comp scope cl (ts++ys) { s2 with heap:=HH } (upd H2 s2.heap.objs.size (.dK [])) fp HH.objs.size) [] σ' H' s':=fun J=>J.pins_of fun p hp=>absurd hp (by simp);cases b with
   |false =>
    have q7':N σ6 kvs H7:=by simpa using q7
    obtain⟨m',hm,w7⟩:=hN _ _ _ q7';obtain⟨a3,a4⟩:=facts I7;show ∃m,m<n/\_;exact⟨m',hm,i+1,σ6,kvs,H7,bare I7,a3,a4,w7⟩
   |true =>
    rw[if_pos rfl]at q7;show ik _ _ (eval kx _) _ _ s7;refine thn (hek _ _ _ _ _ s7 σ6 H7 _ I7 q7) fun kv s8 zq=>?_;obtain⟨y,H8,I8,r8,q8⟩:=zq;refine thn (hev _ _ _ _ _ s8 σ6 H8 _ I8 q8) fun vv s9 zq=>?_;obtain⟨v,H9,I9,r9,key,ek,eD,hl,n9⟩:=zq;subst ek;obtain⟨m',hm,w9⟩:=hN _ _ _ n9;obtain⟨a3,a4⟩:=facts I9;have I9':=bare I9;obtain⟨z,hd,vs,rel,dd⟩:=tG I9'.hok eD;have hz:vs.length<=ρ:=by rw[←rel.length];exact z
    have hlp:(putK kvs key v).length<=ρ:=by have:=aP kvs key v;omega
    refine wpAny_dictSet_pairs (hsz:=hz) (oG r8) dd fun h' dd' hs=>?_;have he:∃q,h'.get? s2.heap.objs.size=some q:=let ⟨q,_,_,hq,_⟩:=dd'; ⟨q,hq⟩;exact⟨m',hm,i+1,σ6,putK kvs key v,_,gW I9' (by rw[eD];exact je) hs he (uG hlp hd (rel.put key r9) dd'),T.keep _ _ _ a3 fun b hb o e=>(hs.2 b (jb (fl b hb))).trans e,fun b hb=>by rw[jZ (jb (fl b hb))];exact a4 b hb,w9⟩
 exact codeAny_compStart_dict (loop _ rfl) (T.self _ 0 _ _ _ tn1 (loop _ rfl))
end
def aDb (P:Nat->List (Key×V)->Hp->Prop) (i:Nat) (js:List Nat) (σ:St):St->List (Key×V)->Hp->Prop:=fun σ' ys H=>P (i+1) ys H/\∃o,σ'=o::vX js σ
theorem aEf{K:υ}{xs:List V}{k:Nat}{tc:TT}{tk tv:TE}{Q:VK}{H1:Hp}(P:Addr->Nat->List (Key×V)->Hp->Prop)(h0:∀D,H1 D=none->P D 0 [] (upd H1 D (.dK [])))(hl:∀D i ys H,i<=xs.length->P D i ys H->SqL K H a xs)
  (hs:∀D i x ys H,xs[i]?=some x->P D i ys H->tc (some x::vX js σ) H fun b H2=>if b=true then tk (some x::vX js σ) H2 fun y H3=>tv (some x::vX js σ) H3 fun v H4=>∃key,y=kV key/\H4 D=some (.dK ys)/\ys.length<ρ/\aDb (P D) i js σ (some x::vX js σ) (putK ys key v) (upd H4 D (.dK (putK ys key v))) else aDb (P D) i js σ (some x::vX js σ) ys H2)
  (hd:∀D ys H,P D xs.length ys H->Q (.ref D) H)(hk:k=1:=by rfl):
  aEa (Itl K a) k js (aQ 0) tc tk tv σ Q H1:=by
 subst hk;intro D hD;refine⟨fun i m σ' ys H=>m=xs.length-i/\i<=xs.length/\P D i ys H/\∃o,σ'=o::vX js σ,⟨xs.length,by simp,iy _,h0 D hD,none,rfl⟩,?_⟩;rintro i m σ' ys H ⟨rfl,hi,p,o,rfl⟩;have q:=hl D i ys H hi p
 by_cases hlt:i<xs.length
 ·refine .inr ⟨⟨xs,xs[i],q,by simp[hlt]⟩,aDb (P D) i js σ,fun σ3 zs H3 z=>⟨xs.length-(i+1),by omega,rfl,hlt,z.1,z.2⟩,fun x H' y=>?_⟩;obtain⟨e,y⟩:=y;subst e;exact hs D i x ys _ (y xs q) p
 ·have e:i=xs.length:=by omega
  subst e;exact .inl ⟨⟨xs,q,ν _⟩,hd D ys H p⟩
section
variable {X:Cx}{tg:Expr}
def iSeq (K:υ) (tl:TE):TI:=fun σ H R=>tl σ H fun x H1=>∃a,x=.ref a/\(((∃xs,SqL K H1 a xs)/\R (Itl K a) H1)\/((∃xs,SqT K H1 a xs)/\R (Itt K a) H1))
theorem aQx(hl:PE X l tl):PI X tg l (iSeq X.K tl):=by
 intro pins s σ H R I h;refine thn (hl pins s σ H _ I h) fun v s1 zq=>?_;obtain⟨x,H1,I1,r1,q1⟩:=zq;obtain⟨a,e,q1⟩:=q1;subst e;cases r1;rcases q1 with⟨⟨xs,hq⟩,q⟩|⟨⟨xs,hq⟩,q⟩
 ·obtain⟨its,rv,p,hz⟩:=I1.list hq;refine qw p.isList ?_;refine⟨s1.heap.objs.size,[s1.heap.objs.size],_,_,H1,rfl,I1.kept (t':=s1.toks) fun b o e=>π _ e,tN a _,⟨_,iu _ rfl,rfl,rfl⟩,fun b hb=>?_,q⟩;have e:b=s1.heap.objs.size:=by simpa using hb
  subst e;exact I1.fpOk (ν _) (I1.hok.fresh (ν _))
 ·obtain⟨its,rv,p,hz⟩:=I1.tuple hq;refine sf (show s1.heap.IsTuple a its.toArray from p) ?_;refine⟨s1.heap.objs.size,[s1.heap.objs.size],_,_,H1,rfl,I1.kept (t':=s1.toks) fun b o e=>π _ e,pG a _,⟨_,iu _ rfl,rfl,rfl⟩,fun b hb=>?_,q⟩;have e:b=s1.heap.objs.size:=by simpa using hb
  subst e;exact I1.fpOk (ν _) (I1.hok.fresh (ν _))
theorem nI{K:υ}(hK:X.K=K)(he:PE X e ta)(hb:vd e f X.env (eval e X.env)=eval e X.env):PE X (.Attribute e f pos) (tFld K ta f):=hK ▸ qD he hb
theorem aLp:OpR X (sg .Add) (fun x y H Q=>∃a b xs ys,x=.ref a/\y=.ref b/\SqT X.K H a xs/\SqT X.K H b ys/\ys≠[]/\xs.length+ys.length<=ρ ∧
  (xs=[]->Q (.ref b) H)/\(xs≠[]->∀p,H p=none->Q (.ref p) (upd H p (.tup (xs++ys))))):=by
 intro pins s σ H x y v u Q I rx ry h;obtain⟨a,b,xs,ys,rfl,rfl,ha,hb,hx,hz,q1,q2⟩:=h
 by_cases hxs:xs=[]
 ·cases rx;cases ry;obtain⟨its,r1,p1,_⟩:=I.tuple ha;obtain⟨its2,r2,p2,_⟩:=I.tuple hb;have e1:its=[]:=r1.nil_iff.mpr hxs;subst e1;obtain⟨⟨cls,dd,data,sl⟩,ho,hc,n,hd⟩:=id p1;obtain⟨⟨cls2,dd2,data2,sl2⟩,ho2,hc2,n2,hd2⟩:=id p2;simp only at hc hd hc2 hd2;subst hc hd hc2 hd2;exact concat_meets ⟨_,ho,rfl⟩ ⟨_,ho2,rfl⟩ noFill_tuple_add seq_tuple_add yc xu (wu _ _)
   (tuple_addW0 a b _ _ n n2 dd dd2 sl sl2 rfl) ⟨ho,ho2,.ref b,H,I,rfl,q1 hxs⟩
 ·exact aNk pins s σ H _ _ v u Q I rx ry ⟨a,b,xs,ys,rfl,rfl,ha,hb,hxs,hz,fun z=>absurd z hx,fun _=>q2 hxs⟩
end
theorem aGv{X:Cx}{i:Nat}(hN:X.N.Nodup)(hi:X.N[i]?=some x)(hx:Loc X.env.scope x)(he:PEx X (.List es p1) te)(hf:X.fn x=true:=by rfl):
  wE X (.Assign [.Name x pos'] (.List es p1) pos) (aKi te (aQ i)):=⟨aLw hN hi hx he.h rfl (.inl hf)⟩
theorem joinC(b:Bool){D:Ends}{rest:TS}{c:TT}{t u:TS}{H:Hp}(hk:if b=true then t { D with nx:=rest D } σ H' else u { D with nx:=rest D } σ H')(h:∀Q:Bool->Hp->Prop,Q b H'->c σ H Q):vP (aGz c t u) rest D σ H:=h _ hk
theorem aGd : SlR X (fun x lo hi H Q=>∃z,x=.str z/\z.length<=ρ/\Q (.str (Txt.slice z lo hi)) H):=by
 intro pins s σ H x v vl vu lo hi sl Q I rx hs pl pu h;obtain⟨z,rfl,hz,q⟩:=h;obtain⟨t,rfl⟩:=rx;refine⟨"str",_,F.slot_str_getitem.lookup,typeIs_str _ _ _,?_⟩;have fin:∀(a b:Option Int),Q (.str (Txt.slice z a b)) H->∀t' k,EP X pins σ Q (.str (Txt.slice z a b) t') { s with toks:=k }:=fun a b q t' k=>⟨.str _,H,I.tok _,⟨_,rfl⟩,q⟩;cases pl with
 |none =>
  cases pu with
  |none=>exact ui (l:=none) (u:=none) (st:=none) hs rfl (post_val_or_str ⟨Θ (Txt.slice_le z none none) hz,fin none none q⟩)
  |int j tj=>exact ui (l:=none) (u:=some (j,tj)) (st:=none) hs rfl (post_val_or_str ⟨Θ (Txt.slice_le z none (some j)) hz,fin none (some j) q⟩)
 |int i ti =>
  cases pu with
  |none=>exact ui (l:=some (i,ti)) (u:=none) (st:=none) hs rfl (post_val_or_str ⟨Θ (Txt.slice_le z (some i) none) hz,fin (some i) none q⟩)
  |int j tj=>exact ui (l:=some (i,ti)) (u:=some (j,tj)) (st:=none) hs rfl (post_val_or_str ⟨Θ (Txt.slice_le z (some i) (some j)) hz,fin (some i) (some j) q⟩)
theorem aJo : OpR X (sg .Add) (fun x y H Q=>∃a b xs ys,x=.ref a/\y=.ref b/\SqT X.K H a xs/\SqT X.K H b ys/\ys≠[]/\xs.length+ys.length<=ρ/\∀p H',jI H H'->SqT X.K H' p (xs++ys)->Q (.ref p) H'):=by
 intro pins s σ H x y v u Q I rx ry h;obtain⟨a,b,xs,ys,rfl,rfl,ha,hb,hx,hz,q⟩:=h;refine aLp pins s σ H _ _ v u Q I rx ry ⟨a,b,xs,ys,rfl,rfl,ha,hb,hx,hz,fun e=>?_,fun _ p hp=>?_⟩
 ·subst e;exact q b H (fun _ _ z=>z) hb
 ·exact q p _ (fun b o z=>by rw[jZ (jL z hp)];exact z) (SqT.of jQ)
theorem zU{K:υ}{xs:List V}{k:Nat}{g:TG}{tc:TT}{te:TE}{Q:VK}(P:Nat->List V->Hp->Prop)(h0:P 0 [] H1)(hl:∀i ys H,i<=xs.length->P i ys H->SqT K H a xs/\ys.length<=i)(hz:xs.length<ρ)
  (hs:∀i x ys H (os:St),os.length=k->xs[i]?=some x->P i ys H->g x (os++vX js σ) H fun σ3 H3=>tc σ3 H3 fun b H2=>if b=true then te σ3 H2 fun v H3=>tL P i k js σ σ3 (ys++[v]) H3 else tL P i k js σ σ3 ys H2)
  (hd:∀ys H,P xs.length ys H->∀p,H p=none->Q (.ref p) (upd H p (.lst ys))):
  mC (Itt K a) k js g tc te σ Q H1:=by
 refine⟨fun i m σ' ys H=>m=xs.length-i/\i<=xs.length/\P i ys H/\∃os:St,os.length=k/\σ'=os++vX js σ,⟨xs.length,by simp,iy _,h0,vo k none,oo,rfl⟩,?_⟩;rintro i m σ' ys H ⟨rfl,hi,p,os,ho,rfl⟩;obtain⟨q,hy⟩:=hl i ys H hi p
 by_cases hlt:i<xs.length
 ·refine .inr ⟨⟨xs,xs[i],q,by simp[hlt]⟩,by omega,tL P i k js σ,fun σ3 zs H3 z=>⟨xs.length-(i+1),by omega,rfl,hlt,z.1,z.2⟩,fun x H' y=>?_⟩;obtain⟨e,y⟩:=y;subst e;exact hs i x ys _ os ho (y xs q) p
 ·have e:i=xs.length:=by omega
  subst e;exact .inl ⟨⟨xs,q,ν _⟩,fun l n _=>hd ys H p l n⟩
end L2
namespace L2
open PySem
inductive Kd where
 |num (w:Nat)
 |nest (i:Nat)
 |many (n:Nat) (k:Kd)
 |pick (is:List Nat)
abbrev Shp:=Str×List (Str×Kd)
abbrev Un3:=Str×Nat×Str
def xE:List Nat->Nat
 |[]=>0
 |x::xs=>max x (xE xs)
theorem eQ{n:Nat}: ∀{xs:List Nat},n∈xs->n<=xE xs
 |x::xs,h=>by
  rcases Φ.mp h with rfl|h
  ·exact Nat.le_max_left _ _
  ·exact Θ (eQ h) (Nat.le_max_right _ _)
theorem aAw:∀{xs:List Nat},xs≠[]->xE xs∈xs
 |[],h=>absurd rfl h
 |[x],_=>by show max x 0∈[x];rw[Nat.max_zero];exact Ψ.mpr rfl
 |x::y::xs,_=>by
  have ih:=aAw (xs:=y::xs) (by simp);show max x (xE (y::xs))∈_
  by_cases h:x<=xE (y::xs)
  ·rw[Nat.max_eq_right h];exact Ξ _ ih
  ·rw[Nat.max_eq_left (by omega)];exact Ω ..
theorem aOm{m:Nat}{xs:List Nat}(h1:m∈xs)(h2:∀n∈xs,n<=m):m=xE xs :=
 Nat.le_antisymm (eQ h1) (h2 _ (aAw fun z=>by rw[z]at h1;cases h1))
def Kd.size (sz:List Nat):Kd->Nat
 |.num w=>w
 |.nest i=>sz.getD i 0
 |.many n k=>n*k.size sz
 |.pick is=>1+xE (is.map fun i=>sz.getD i 0)
def Kd.depth (dp:List Nat):Kd->Nat
 |.num _=>0
 |.nest i=>dp.getD i 0
 |.many _ k=>k.depth dp
 |.pick is=>xE (is.map fun i=>dp.getD i 0)
def pj (p x:Str):Str:=if p.length=0 then x else p++ε "." ++ x
def Kd.units (sz:List Nat) (ut:List (Str->List Un3)):Kd->Str->List Un3
 |.num w,p=>[(p,w,ε "num")]
 |.nest i,p=>(ut.getD i fun _=>[]) p
 |.many n k,p=>(jg n).flatMap fun j=>k.units sz ut (pj p (ε (toString j)))
 |.pick is,p=>[(pj p (ε "tag"),1,ε "tag"),(p,xE (is.map fun i=>sz.getD i 0),ε "pick")]
structure Tab where
 sz:List Nat
 dp:List Nat
 ut:List (Str->List Un3)
def Tab.more (t:Tab) (s:Shp):Tab:=⟨t.sz++[(s.2.map fun f=>f.2.size t.sz).sum],t.dp++[1+xE (s.2.map fun f=>f.2.depth t.dp)],t.ut++[fun p=>s.2.flatMap fun f=>f.2.units t.sz t.ut (pj p f.1)]⟩
def tabs (S:List Shp):Tab:=S.foldl Tab.more ⟨[],[],[]⟩
theorem aGg(S:List Shp)(s:Shp):tabs (S++[s])=(tabs S).more s:=by unfold tabs;rw[List.foldl_append];rfl
def Tab.Ok (t:Tab):Prop:=t.ut.length=t.sz.length/\∀i p,(((t.ut.getD i fun _=>[]) p).map (·.2.1)).sum=t.sz.getD i 0
theorem aCc(f:Nat->List Un3)(m:Nat)(h:∀j,((f j).map (·.2.1)).sum=m):∀n,((((jg n).flatMap f)).map (·.2.1)).sum=n*m
 |0=>by simp
 |n+1=>by
  rw[va,qe,χ,List.sum_append,aCc f m h n,rm,h n,Nat.succ_mul]
theorem Kd.units_sum{t:Tab}(h:t.Ok):∀(k:Kd) (p:Str),((k.units t.sz t.ut p).map (·.2.1)).sum=k.size t.sz
 |.num w,p=>by simp[Kd.units,Kd.size]
 |.nest i,p=>h.2 i p
 |.many n k,p=>aCc _ _ (fun j=>Kd.units_sum h k _) n
 |.pick is,p=>by simp[Kd.units,Kd.size]
theorem oE{t:Tab}(h:t.Ok)(p:Str):∀fs:List (Str×Kd),((fs.flatMap fun f=>f.2.units t.sz t.ut (pj p f.1)).map (·.2.1)).sum=(fs.map fun f=>f.2.size t.sz).sum
 |[]=>rfl
 |f::fs=>by
  rw[yg,χ,List.sum_append,Kd.units_sum h,oE h p fs,ju,ud]
theorem Tab.Ok.more{t:Tab}(h:t.Ok)(s:Shp):(t.more s).Ok:=by
 refine⟨by show(t.ut++[_]).length=(t.sz++[_]).length;rw[ι,ι,h.1];rfl,fun i p=>?_⟩;show((((t.ut++[_]).getD i fun _=>[]) p).map (fun u:Un3=>u.2.1)).sum=(t.sz++[_]).getD i 0;rw[ω,ω]
 by_cases hi:i<t.ut.length
 ·rw[iz hi,iz (by rw[←h.1];exact hi)];have:=h.2 i p;rw[ω,ω]at this;exact this
 ·rw[ij (by omega),ij (by rw[←h.1];omega),←h.1]
  by_cases e:i-t.ut.length=0
  ·rw[e];exact oE h p s.2
  ·obtain⟨n,hn⟩ : ∃n,i-t.ut.length=n+1:=⟨i-t.ut.length-1,by omega⟩;rw[hn];rfl
def Kd.Below (n:Nat):Kd->Prop
 |.num _=>True
 |.nest i=>i<n
 |.many _ k=>k.Below n
 |.pick is=>∀i∈is,i<n
theorem aA{α : Type}{xs ys:List α}{d : α}{i:Nat}(h:i<xs.length):(xs++ys).getD i d=xs.getD i d:=by
 rw[ω,ω,iz h]
theorem Kd.Below.mono{n m:Nat}(h:n<=m):∀{k:Kd},k.Below n->k.Below m
 |.num _,_=>je
 |.nest i,q=>ς (show i<n from q) h
 |.many _ k,q=>Kd.Below.mono (k:=k) h q
 |.pick is,q=>fun i hi=>ς (q i hi) h
theorem wQ{xs ys is:List Nat}(h:∀i∈is,i<xs.length):(is.map fun i=>(xs++ys).getD i 0)=is.map fun i=>xs.getD i 0 :=
 wo fun i hi=>aA (h i hi)
theorem Kd.size_app{sz more:List Nat}: ∀{k:Kd},k.Below sz.length->k.size (sz++more)=k.size sz
 |.num _,_=>rfl
 |.nest i,q=>aA q
 |.many n k,q=>by show n*_=n*_;rw[Kd.size_app (k:=k) q]
 |.pick is,q=>by show 1+xE _=1+xE _;rw[wQ q]
theorem Kd.depth_app{dp more:List Nat}: ∀{k:Kd},k.Below dp.length->k.depth (dp++more)=k.depth dp
 |.num _,_=>rfl
 |.nest i,q=>aA q
 |.many n k,q=>Kd.depth_app (k:=k) q
 |.pick is,q=>by show xE _=xE _;rw[wQ q]
theorem Kd.units_app{sz more:List Nat}{ut um:List (Str->List Un3)}(e:ut.length=sz.length):∀{k:Kd},k.Below sz.length->∀p,k.units (sz++more) (ut++um) p=k.units sz ut p
 |.num _,_,_=>rfl
 |.nest i,q,p=>by show((ut++um).getD i _) p=(ut.getD i _) p;rw[aA (by rw[e];exact q)]
 |.many n k,q,p=>by
  show(jg n).flatMap _=(jg n).flatMap _
  congr 1
  funext j
  exact Kd.units_app e (k:=k) q _
 |.pick is,q,p=>by
  show[_,(p,xE _,_)]=[_,(p,xE _,_)];rw[wQ q]
theorem bM:∀S:List Shp,(tabs S).sz.length=S.length/\(tabs S).dp.length=S.length/\(tabs S).ut.length=S.length:=fun S=>by
 have:∀(S:List Shp) (t:Tab) (n:Nat),(t.sz.length=n/\t.dp.length=n/\t.ut.length=n)->((S.foldl Tab.more t).sz.length=n+S.length/\(S.foldl Tab.more t).dp.length=n+S.length/\(S.foldl Tab.more t).ut.length=n+S.length):=by
  intro S
  induction S with
  |nil=>intro t n h;exact h
  |cons s S ih =>
   intro t n h;have:=ih (t.more s) (n+1) ⟨by show(t.sz++[_]).length=_;rw[ι,h.1];rfl,by show(t.dp++[_]).length=_;rw[ι,h.2.1];rfl,by show(t.ut++[_]).length=_;rw[ι,h.2.2];rfl⟩;rw[ii,show n+(S.length+1)=n+1+S.length by omega];exact this
 have h:=this S ⟨[],[],[]⟩ 0 ⟨rfl,rfl,rfl⟩;rw[Nat.zero_add]at h;exact h
theorem aCn(S:List Shp):∀R:List Shp,∃a b c,(tabs (S++R)).sz=(tabs S).sz++a/\(tabs (S++R)).dp=(tabs S).dp++b/\(tabs (S++R)).ut=(tabs S).ut++c:=fun R=>by
 have:∀(R:List Shp) (t:Tab),∃a b c,(R.foldl Tab.more t).sz=t.sz++a/\(R.foldl Tab.more t).dp=t.dp++b/\(R.foldl Tab.more t).ut=t.ut++c:=by
  intro R
  induction R with
  |nil=>intro t;exact⟨[],[],[],by simp,by simp,by simp⟩
  |cons s R ih =>
   intro t;obtain⟨a,b,c,h1,h2,h3⟩:=ih (t.more s);exact⟨[_]++a,[_]++b,[_]++c,h1.trans (mi _ _ _),h2.trans (mi _ _ _),h3.trans (mi _ _ _)⟩
 unfold tabs;rw[List.foldl_append];exact this R _
structure Cl5 where
 num:Addr
 nest:Addr
 many:Addr
 pick:Addr
 shape:Addr
inductive KO (c:Cl5) (K:υ) (H:Hp) (sa:List Addr):Addr->Kd->Prop
 |num {a dx:Addr}{w:Nat} : H a=some (.ins c.num dx [("width",.int w)])->KO c K H sa a (.num w)
 |nest {a dx s:Addr}{i:Nat} : sa[i]?=some s->H a=some (.ins c.nest dx [("shape",.ref s)])->KO c K H sa a (.nest i)
 |many {a dx b:Addr}{n:Nat}{k:Kd} : H a=some (.ins c.many dx [("count",.int n),("kind",.ref b)])->KO c K H sa b k->KO c K H sa a (.many n k)
 |pick {a dx t:Addr}{is:List Nat}{ss:List Addr} : H a=some (.ins c.pick dx [("shapes",.ref t)])->SqT K H t (ss.map V.ref)->ss.length=is.length->(∀(j i:Nat) (s:Addr),is[j]?=some i->ss[j]?=some s->sa[i]?=some s)->KO c K H sa a (.pick is)
theorem KO.same{K:υ}(h:KO c K H sa a k)(g:jI H H'):KO c K H' sa a k:=by
 induction h with
 |num h=>exact .num (g _ _ h)
 |nest e h=>exact .nest e (g _ _ h)
 |many h _ ih=>exact .many (g _ _ h) ih
 |pick h t l e=>exact .pick (g _ _ h) (g.tp t) l e
theorem uU{sa more:List Addr}{i:Nat}(h:sa[i]?=some s):(sa++more)[i]?=some s:=by
 rw[iz (η.mp h).1];exact h
theorem KO.more{K:υ}(h:KO c K H sa a k)(more:List Addr):KO c K H (sa++more) a k:=by
 induction h with
 |num h=>exact .num h
 |nest e h=>exact .nest (uU e) h
 |many h _ ih=>exact .many h ih
 |pick h t l e=>exact .pick h t l fun j i s h1 h2=>uU (e j i s h1 h2)
theorem KO.ahead{K:υ}(h:KO c K H sa a k):k.Below sa.length:=by
 induction h with
 |num h=>exact je
 |nest e h=>exact(η.mp e).1
 |many h _ ih=>exact ih
 | @pick a dx t is ss h t' l e =>
  intro i hi;obtain⟨j,hj⟩:=lc.mp hi;have hj1:j<is.length:=(η.mp hj).1;exact(η.mp (e j i _ hj (θ (by omega)))).1
inductive FO (c:Cl5) (K:υ) (H:Hp) (sa:List Addr):List Addr->List (Str×Kd)->Prop
 |nil:FO c K H sa [] []
 |cons {p k:Addr}{ps:List Addr}{nm:Str}{kd:Kd}{fs:List (Str×Kd)} : SqT K H p [.str nm,.ref k]->KO c K H sa k kd->FO c K H sa ps fs->FO c K H sa (p::ps) ((nm,kd)::fs)
theorem FO.same{K:υ}(h:FO c K H sa ps fs)(g:jI H H'):FO c K H' sa ps fs:=by
 induction h with
 |nil=>exact .nil
 |cons t k _ ih=>exact .cons (g.tp t) (k.same g) ih
theorem FO.len{K:υ}(h:FO c K H sa ps fs):ps.length=fs.length:=by
 induction h with
 |nil=>rfl
 |cons _ _ _ ih=>rw[ii,ii,ih]
theorem FO.snoc{K:υ}(h:FO c K H sa ps fs)(t:SqT K H p [.str nm,.ref k])(hk:KO c K H sa k kd):FO c K H sa (ps++[p]) (fs++[(nm,kd)]):=by
 induction h with
 |nil=>exact .cons t hk .nil
 |cons t' k' _ ih=>exact .cons t' k' ih
theorem FO.get{K:υ}(h:FO c K H sa ps fs):∀{i:Nat}{p:Addr},ps[i]?=some p->∃nm kd k,fs[i]?=some (nm,kd)/\SqT K H p [.str nm,.ref k]/\KO c K H sa k kd:=by
 induction h with
 |nil=>intro i p e;simp at e
 |cons t k _ ih =>
  intro i p e;cases i with
  |zero=>cases e;exact⟨_,_,_,rfl,t,k⟩
  |succ i=>exact ih e
def SO (c:Cl5) (K:υ) (H:Hp) (sa:List Addr) (a:Addr) (s:Shp):Prop:=∃dx t ps,H a=some (.ins c.shape dx [("name",.str s.1),("fields",.ref t)])/\SqT K H t (ps.map V.ref)/\FO c K H sa ps s.2
theorem SO.same{K:υ}(h:SO c K H sa a s)(g:jI H H'):SO c K H' sa a s:=by
 obtain⟨dx,t,ps,h1,h2,h3⟩:=h;exact⟨dx,t,ps,g _ _ h1,g.tp h2,h3.same g⟩
def SW (c:Cl5) (K:υ) (H:Hp) (sa:List Addr) (S:List Shp):Prop:=sa.length=S.length/\∀(i:Nat) (a:Addr) (s:Shp),sa[i]?=some a->S[i]?=some s->SO c K H (sa.take i) a s
theorem SW.same{K:υ}(h:SW c K H sa S)(g:jI H H'):SW c K H' sa S:=⟨h.1,fun i a s h1 h2=>(h.2 i a s h1 h2).same g⟩
theorem SW.nil{K:υ}: SW c K H [] []:=⟨rfl,fun i a s h _=>by simp at h⟩
theorem SW.snoc{K:υ}(h:SW c K H sa S)(x:SO c K H sa a s):SW c K H (sa++[a]) (S++[s]):=by
 have hl:sa.length=S.length:=h.1;refine⟨by rw[ι,ι,h.1];rfl,fun i b u h1 h2=>?_⟩
 by_cases hi:i<sa.length
 ·rw[iz hi]at h1;rw[iz (by rw[←h.1];exact hi)]at h2;rw[List.take_append_of_le_length (by omega)];exact h.2 i b u h1 h2
 ·have hi2:i<(sa++[a]).length:=(η.mp h1).1;have e:i=sa.length:=by rw[ι,ki]at hi2;omega
  subst e;rw[ij (ν _),nr]at h1;rw[ij (by omega),show sa.length-S.length=0 by omega]at h2;cases h1;cases h2;rw[List.take_left' rfl];exact x
inductive LK (K:υ) (H:Hp):Addr->Kd->Prop
 |num {a:Addr}{w:Nat} : SqT K H a [.str (ε "num"),.int w]->LK K H a (.num w)
 |nest {a:Addr}{i:Nat} : SqT K H a [.str (ε "shape"),.int i]->LK K H a (.nest i)
 |many {a b:Addr}{n:Nat}{k:Kd} : SqT K H a [.str (ε "row"),.int n,.ref b]->LK K H b k->LK K H a (.many n k)
 |pick {a l:Addr}{is:List Nat} : SqT K H a [.str (ε "pick"),.ref l]->SqL K H l (is.map fun (i:Nat)=>V.int i)->LK K H a (.pick is)
theorem LK.same{K:υ}(h:LK K H a k)(g:jI H H'):LK K H' a k:=by
 induction h with
 |num h=>exact .num (g.tp h)
 |nest h=>exact .nest (g.tp h)
 |many h _ ih=>exact .many (g.tp h) ih
 |pick h l=>exact .pick (g.tp h) (g.seq l)
inductive LF (K:υ) (H:Hp):List Addr->List (Str×Kd)->Prop
 |nil:LF K H [] []
 |cons {p k:Addr}{ps:List Addr}{nm:Str}{kd:Kd}{fs:List (Str×Kd)} : SqT K H p [.str nm,.ref k]->LK K H k kd->LF K H ps fs->LF K H (p::ps) ((nm,kd)::fs)
theorem LF.same{K:υ}(h:LF K H ps fs)(g:jI H H'):LF K H' ps fs:=by
 induction h with
 |nil=>exact .nil
 |cons t k _ ih=>exact .cons (g.tp t) (k.same g) ih
theorem LF.len{K:υ}(h:LF K H ps fs):ps.length=fs.length:=by
 induction h with
 |nil=>rfl
 |cons _ _ _ ih=>rw[ii,ii,ih]
theorem LF.snoc{K:υ}(h:LF K H ps fs)(t:SqT K H p [.str nm,.ref k])(hk:LK K H k kd):LF K H (ps++[p]) (fs++[(nm,kd)]):=by
 induction h with
 |nil=>exact .cons t hk .nil
 |cons t' k' _ ih=>exact .cons t' k' ih
theorem LF.get{K:υ}(h:LF K H ps fs):∀{i:Nat}{p:Addr},ps[i]?=some p->∃nm kd k,fs[i]?=some (nm,kd)/\SqT K H p [.str nm,.ref k]/\LK K H k kd:=by
 induction h with
 |nil=>intro i p e;simp at e
 |cons t k _ ih =>
  intro i p e;cases i with
  |zero=>cases e;exact⟨_,_,_,rfl,t,k⟩
  |succ i=>exact ih e
def LS (K:υ) (H:Hp) (a:Addr) (s:Shp):Prop:=∃l ps,SqT K H a [.str s.1,.ref l]/\SqL K H l (ps.map V.ref)/\LF K H ps s.2
theorem LS.same{K:υ}(h:LS K H a s)(g:jI H H'):LS K H' a s:=by
 obtain⟨l,ps,h1,h2,h3⟩:=h;exact⟨l,ps,g.tp h1,g.seq h2,h3.same g⟩
inductive LW (K:υ) (H:Hp):List Addr->List Shp->Prop
 |nil:LW K H [] []
 |cons {a:Addr}{as:List Addr}{s:Shp}{S:List Shp} : LS K H a s->LW K H as S->LW K H (a::as) (s::S)
theorem LW.same{K:υ}(h:LW K H as S)(g:jI H H'):LW K H' as S:=by
 induction h with
 |nil=>exact .nil
 |cons t _ ih=>exact .cons (t.same g) ih
theorem LW.len{K:υ}(h:LW K H as S):as.length=S.length:=by
 induction h with
 |nil=>rfl
 |cons _ _ ih=>rw[ii,ii,ih]
theorem LW.snoc{K:υ}(h:LW K H as S)(x:LS K H a s):LW K H (as++[a]) (S++[s]):=by
 induction h with
 |nil=>exact .cons x .nil
 |cons t _ ih=>exact .cons t ih
theorem LW.get{K:υ}(h:LW K H as S):∀{i:Nat}{a:Addr},as[i]?=some a->∃s,S[i]?=some s/\LS K H a s:=by
 induction h with
 |nil=>intro i a e;simp at e
 |cons t _ ih =>
  intro i a e;cases i with
  |zero=>cases e;exact⟨_,rfl,t⟩
  |succ i=>exact ih e
abbrev spS:Str:=⟨#[32]⟩
abbrev nlS:Str:=⟨#[10]⟩
def Kd.words (nm:Nat->Str):Kd->List Str
 |.num w=>[ε "num",ε (toString (w:Int))]
 |.nest i=>[nm i]
 |.many n k=>ε "row" :: ε (toString (n:Int))::k.words nm
 |.pick is=>ε "pick" :: is.map nm
theorem Kd.words_ne(nm:Nat->Str):∀k:Kd,k.words nm≠[]
 |.num _=>by simp[Kd.words]
 |.nest _=>by simp[Kd.words]
 |.many _ _=>by simp[Kd.words]
 |.pick _=>by simp[Kd.words]
def kL (S:List Shp) (i:Nat):Str:=(S.getD i (Str.empty,[])).1
def aFi (nm:Nat->Str) (s:Shp):List (List Str):=[ε "shape",s.1]::s.2.map fun f=>f.1::f.2.words nm
def nL (S:List Shp):List (List Str):=S.flatMap (aFi (kL S))
def Pln (w:Str):Prop:=32∉w.cps.toList/\10∉w.cps.toList
theorem aFr{c d:Nat}(ne:d≠c):∀{ps:List (List Nat)},(∀p∈ps,d∉p)->d∉jn c ps
 |[],_=>by simp[jn]
 |[p],h=>h p (Ψ.mpr rfl)
 |p::q::r,h=>by
  have ih:=aFr ne (ps:=q::r) fun x hx=>h x (Ξ _ hx);have hp:=h p (Ω ..);show d∉p++c::jn c (q::r);simp only[km,Φ,not_or];exact⟨hp,ne,ih⟩
theorem aDw{ws:List Str}(hne:ws≠[])(h:∀w∈ws,Pln w):qk (jo spS ws) spS=ws:=pY hne fun w hw=>(h w hw).1
theorem aBt{ls:List (List Str)}(hne:ls≠[])(h:∀l∈ls,∀w∈l,Pln w):qk (jo nlS (ls.map (jo spS))) nlS=ls.map (jo spS):=by
 refine pY (by simpa using hne) fun y hy=>?_;obtain⟨l,hl,rfl⟩:=jf.mp hy;rw[nU];refine aFr (by decide) fun p hp=>?_;obtain⟨w,hw,rfl⟩:=jf.mp hp;exact(h l hl w hw).2
theorem lE{y:Str}{ys:List Str}(h:ys≠[]):jo sep (y::ys)=y++sep++jo sep ys:=by
 cases ys with
 |nil=>exact absurd rfl h
 |cons z zs=>rfl
theorem aEq{n:Nat}(h:n<=9):Pln (ε (toString (n:Int))):=by
 have:∀m:Fin 10,Pln (ε (toString ((m.val:Nat):Int))):=by
  intro m;unfold Pln;revert m;ac_rfl
 exact this ⟨n,by omega⟩
def Kd.Fit (n:Nat):Kd->Prop
 |.num w=>1<=w/\w<=4
 |.nest i=>i<n
 |.many m k=>1<=m/\m<=6/\((∃w,k=.num w/\1<=w/\w<=4)\/∃i,k=.nest i/\i<n)
 |.pick is=>2<=is.length/\is.length<=4/\is.Nodup/\∀i∈is,i<n
theorem Kd.Fit.below : ∀{k:Kd},k.Fit n->k.Below n
 |.num _,_=>je
 |.nest _,h=>h
 |.many _ k,h=>by
  rcases h.2.2 with⟨w,rfl,_⟩|⟨i,rfl,hi⟩
  ·exact je
  ·exact hi
 |.pick _,h=>h.2.2.2
theorem Kd.Fit.plain{n:Nat}{nm:Nat->Str}(hnm:∀i,i<n->Pln (nm i)):∀{k:Kd},k.Fit n->∀w∈k.words nm,Pln w:=by
 have hnum:∀w:Nat,1<=w/\w<=4->∀x∈(Kd.num w).words nm,Pln x:=fun w hw x hx=>by
  simp only[Kd.words,Φ,jp,or_false]at hx;rcases hx with rfl|rfl
  ·unfold Pln;ac_rfl
  ·exact aEq (by omega)
 intro k h;cases k with
 |num w=>exact hnum w h
 |nest i =>
  intro x hx;rw[Ψ.mp (show x∈[nm i] from hx)];exact hnm i h
 |many m k =>
  intro x hx;simp only[Kd.words,Φ]at hx;rcases hx with rfl|rfl|hx
  ·unfold Pln;ac_rfl
  ·exact aEq (by have:=h.2.1;omega)
  ·rcases h.2.2 with⟨w,rfl,hw⟩|⟨i,rfl,hi⟩
   ·exact hnum w hw x hx
   ·rw[Ψ.mp (show x∈[nm i] from hx)];exact hnm i hi
 |pick is =>
  intro x hx;simp only[Kd.words,Φ,jf]at hx;rcases hx with rfl|⟨i,hi,rfl⟩
  ·unfold Pln;ac_rfl
  ·exact hnm i (h.2.2.2 i hi)
def Kd.Rk (r:Nat):Kd->Prop
 |.num _=>True
 |.nest i=>2*i+2<=r
 |.many _ k=>(∃w,k=.num w/\1<=r)\/∃i,k=.nest i/\2*i+3<=r
 |.pick is=>∀i∈is,2*i+3<=r
theorem Kd.Fit.rk : ∀{k:Kd},k.Fit n->k.Rk (2*n+1)
 |.num _,_=>je
 |.nest i,h=>by have:i<n:=h;show 2*i+2<=2*n+1;omega
 |.many m k,h=>by
  rcases h.2.2 with⟨w,e,_⟩|⟨i,e,hi⟩
  ·exact .inl ⟨w,e,by omega⟩
  ·exact .inr ⟨i,e,by omega⟩
 |.pick is,h=>fun i hi=>by have:=h.2.2.2 i hi;omega
theorem Kd.Rk.mono{r q:Nat}(h:r<=q):∀{k:Kd},k.Rk r->k.Rk q
 |.num _,_=>je
 |.nest i,g=>Θ (show 2*i+2<=r from g) h
 |.many m k,g=>by
  rcases g with⟨w,e,hw⟩|⟨i,e,hi⟩
  ·exact .inl ⟨w,e,by omega⟩
  ·exact .inr ⟨i,e,by omega⟩
 |.pick is,g=>fun i hi=>Θ (g i hi) h
theorem Kd.Fit.mono{n m:Nat}(h:n<=m):∀{k:Kd},k.Fit n->k.Fit m
 |.num _,g=>g
 |.nest i,g=>ς (show i<n from g) h
 |.many _ k,g=>⟨g.1,g.2.1,by
  rcases g.2.2 with g|⟨i,e,hi⟩
  ·exact .inl g
  ·exact .inr ⟨i,e,by omega⟩⟩
 |.pick is,g=>⟨g.1,g.2.1,g.2.2.1,fun i hi=>ς (g.2.2.2 i hi) h⟩
structure Good (S:List Shp):Prop where
 ne:∀(i:Nat) (s:Shp),S[i]?=some s->s.2≠[]
 few:∀(i:Nat) (s:Shp),S[i]?=some s->s.2.length<=6
 fit:∀(i:Nat) (s:Shp),S[i]?=some s->∀f∈s.2,f.2.Fit i/\1<=f.1.length/\f.1.length<=6
 sz:∀i:Nat,(tabs S).sz.getD i 0<=1000
theorem oC{α : Type}{S:List α}{i:Nat}{s : α}(h:S[i]?=some s):S=S.take i++s::S.drop (i+1)/\(S.take i).length=i:=by
 obtain⟨hi,e⟩:=η.mp h;refine⟨?_,by rw[Δ];omega⟩
 conv=>lhs;rw[←lh i S]
 rw[wk hi,e]
theorem pQ{α : Type}{xs zs:List α}{y d : α}: (xs++y::zs).getD xs.length d=y:=by
 rw[ω,ij (ν _),nr];rfl
theorem nM{S R:List Shp}{i:Nat}(h:i<S.length):(tabs (S++R)).sz.getD i 0=(tabs S).sz.getD i 0/\(tabs (S++R)).dp.getD i 0=(tabs S).dp.getD i 0/\((tabs (S++R)).ut.getD i fun _=>[])=(tabs S).ut.getD i fun _=>[]:=by
 obtain⟨a,b,c,e1,e2,e3⟩:=aCn S R;obtain⟨l1,l2,l3⟩:=bM S;rw[e1,e2,e3];exact⟨aA (by omega),aA (by omega),aA (by omega)⟩
theorem cA(S:List Shp)(s:Shp)(R:List Shp):(tabs (S++s::R)).sz.getD S.length 0=(s.2.map fun f=>f.2.size (tabs S).sz).sum/\(tabs (S++s::R)).dp.getD S.length 0=1+xE (s.2.map fun f=>f.2.depth (tabs S).dp)/\∀p,((tabs (S++s::R)).ut.getD S.length fun _=>[]) p=s.2.flatMap fun f=>f.2.units (tabs S).sz (tabs S).ut (pj p f.1):=by
 have e:S++s::R=(S++[s])++R:=by rw[mi];rfl
 obtain⟨h1,h2,h3⟩:=nM (S:=S++[s]) (R:=R) (i:=S.length) (by rw[ι];exact we _);obtain⟨l1,l2,l3⟩:=bM S;rw[e,h1,h2,h3,aGg];refine⟨?_,?_,fun p=>?_⟩
 ·show((tabs S).sz++[_]).getD _ _=_;rw[←l1,pQ]
 ·show((tabs S).dp++[_]).getD _ _=_;rw[←l2,pQ]
 ·show((tabs S).ut++[_]).getD _ _ p=_;rw[←l3,pQ]
theorem Kd.tab_lo{S R:List Shp}{k:Kd}(h:k.Below S.length):k.size (tabs (S++R)).sz=k.size (tabs S).sz/\k.depth (tabs (S++R)).dp=k.depth (tabs S).dp/\∀p,k.units (tabs (S++R)).sz (tabs (S++R)).ut p=k.units (tabs S).sz (tabs S).ut p:=by
 obtain⟨a,b,c,e1,e2,e3⟩:=aCn S R;obtain⟨l1,l2,l3⟩:=bM S;rw[e1,e2,e3];exact⟨Kd.size_app (by rw[l1];exact h),Kd.depth_app (by rw[l2];exact h),fun p=>Kd.units_app (by omega) (by rw[l1];exact h) p⟩
theorem aBy{α β : Type}{f g : α->List β}: ∀{xs:List α},(∀x∈xs,f x=g x)->xs.flatMap f=xs.flatMap g
 |[],_=>rfl
 |x::xs,h=>by rw[yg,yg,h x (Ω ..),aBy fun y hy=>h y (Ξ _ hy)]
theorem gR{S:List Shp}{i:Nat}(h:S[i]?=some s)(hF:∀f∈s.2,f.2.Below i):(tabs S).sz.getD i 0=(s.2.map fun f=>f.2.size (tabs S).sz).sum/\(tabs S).dp.getD i 0=1+xE (s.2.map fun f=>f.2.depth (tabs S).dp)/\∀p,((tabs S).ut.getD i fun _=>[]) p=s.2.flatMap fun f=>f.2.units (tabs S).sz (tabs S).ut (pj p f.1):=by
 obtain⟨e,hl⟩:=oC h;generalize S.take i=A at e hl;generalize S.drop (i+1)=B at e;subst e;subst hl;obtain⟨h1,h2,h3⟩:=cA A s B;have q:=fun f hf=>Kd.tab_lo (R:=s::B) (hF f hf);refine⟨?_,?_,fun p=>?_⟩
 ·rw[h1,wo fun f hf=>(q f hf).1]
 ·rw[h2,wo fun f hf=>(q f hf).2.1]
 ·rw[h3 p,aBy fun f hf=>(q f hf).2.2 _]
theorem Kd.units_len{sz:List Nat}{ut:List (Str->List Un3)}{n:Nat}(h:∀i,i<n->1<=sz.getD i 0/\∀p,((ut.getD i fun _=>[]) p).length<=sz.getD i 0):∀{k:Kd},k.Fit n->1<=k.size sz/\∀p,(k.units sz ut p).length<=k.size sz:=by
 have hn:∀w,1<=w->1<=(Kd.num w).size sz/\∀p,((Kd.num w).units sz ut p).length<=(Kd.num w).size sz:=fun w hw=>⟨hw,fun p=>hw⟩;intro k hk;cases k with
 |num w=>exact hn w hk.1
 |nest i=>exact h i hk
 |many m k =>
  have hs : 1<=k.size sz/\∀p,(k.units sz ut p).length<=k.size sz:=by
   rcases hk.2.2 with⟨w,rfl,hw,_⟩|⟨i,rfl,hi⟩
   ·exact hn w hw
   ·exact h i hi
  refine⟨Nat.mul_pos hk.1 hs.1,fun p=>?_⟩;show((jg m).flatMap _).length<=m*_;have:∀m,((jg m).flatMap fun j=>k.units sz ut (pj p (ε (toString j)))).length<=m*k.size sz:=by
   intro m
   induction m with
   |zero=>exact iy _
   |succ m ih =>
    rw[va,qe,ι,rm,Nat.succ_mul];exact vw ih (hs.2 _)
  exact this m
 |pick is =>
  refine⟨by show 1<=1+_;omega,fun p=>?_⟩;show 2<=1+xE _;cases is with
  |nil=>exact absurd hk.1 (by decide)
  |cons i r =>
   have:=(h i (hk.2.2.2 i (Ω ..))).1;have g:=eQ (n:=sz.getD i 0) (xs:=(i::r).map fun i=>sz.getD i 0) (Ω ..);omega
theorem fW(p:Str):∀{fs:List (Str×Kd)},(∀f∈fs,1<=f.2.size sz/\∀p,(f.2.units sz ut p).length<=f.2.size sz)->(fs.flatMap fun f=>f.2.units sz ut (pj p f.1)).length<=(fs.map fun f=>f.2.size sz).sum/\fs.length<=(fs.map fun f=>f.2.size sz).sum
 |[],_=>⟨ν _,ν _⟩
 |f::fs,h=>by
  have ih:=fW p (fs:=fs) fun g hg=>h g (Ξ _ hg);have h0:=h f (Ω ..);rw[yg,ι,ju,ud,ii];exact⟨vw (h0.2 _) ih.1,by omega⟩
theorem Good.len(h:Good S):∀n i,i<n->i<S.length->1<=(tabs S).sz.getD i 0/\∀p,(((tabs S).ut.getD i fun _=>[]) p).length<=(tabs S).sz.getD i 0
 |0,i,hi,_=>absurd hi (xk _)
 |n+1,i,hi,hl=>by
  have hs:S[i]?=some S[i]:=θ hl;have hF:=h.fit i _ hs;obtain⟨e1,e2,e3⟩:=gR hs fun f hf=>(hF f hf).1.below;have q:∀f∈S[i].2,1<=f.2.size (tabs S).sz/\∀p,(f.2.units (tabs S).sz (tabs S).ut p).length<=f.2.size (tabs S).sz:=fun f hf =>
   Kd.units_len (fun j hj=>Good.len h n j (by omega) (by omega)) (hF f hf).1
  have hne:=h.ne i _ hs;have : 1<=S[i].2.length:=by
   cases e:S[i].2 with
   |nil=>exact absurd e hne
   |cons _ _=>exact ug (iy _)
  refine⟨?_,fun p=>?_⟩
  ·rw[e1];exact Θ this (fW Str.empty q).2
  ·rw[e1,e3 p];exact(fW p q).1
theorem Good.kd(h:Good S){k:Kd}(hk:k.Fit S.length): 1<=k.size (tabs S).sz/\∀p,(k.units (tabs S).sz (tabs S).ut p).length<=k.size (tabs S).sz:=Kd.units_len (fun j hj=>h.len S.length j hj hj) hk
theorem wB{m:Nat}: ∀{xs:List Nat},(∀x∈xs,x<=m)->xE xs<=m
 |[],_=>iy _
 |x::xs,h=>Nat.max_le.mpr ⟨h x (Ω ..),wB fun y hy=>h y (Ξ _ hy)⟩
theorem Kd.size_bd{sz:List Nat}{m:Nat}(h:∀i,sz.getD i 0<=m)(hm : 4<=m):∀{k:Kd},k.Fit n->k.size sz<=6*m
 |.num w,hk=>by have:=hk.2;show w<=_;omega
 |.nest i,_=>by have:=h i;show sz.getD i 0<=_;omega
 |.many c k,hk=>by
  have:k.size sz<=m:=by
   rcases hk.2.2 with⟨w,rfl,_,hw⟩|⟨i,rfl,hi⟩
   ·show w<=m;omega
   ·exact h i
  exact Nat.mul_le_mul hk.2.1 this
 |.pick is,_=>by
  have:xE (is.map fun i=>sz.getD i 0)<=m:=wB fun x hx=>by obtain⟨i,_,rfl⟩:=jf.mp hx;exact h i
  show 1+_<=_;omega
def Kd.parts (S:List Shp):Kd->List (Str×Kd)
 |.nest i=>(S.getD i (Str.empty,[])).2
 |.many n k=>(jg n).map fun j=>(ε (toString j),k)
 |_=>[]
theorem Kd.parts_units(h:Good S){k:Kd}(hk:k.Fit S.length)(hs:(∃i,k=.nest i)\/∃n q,k=.many n q)(p:Str):k.units (tabs S).sz (tabs S).ut p=(k.parts S).flatMap fun f=>f.2.units (tabs S).sz (tabs S).ut (pj p f.1):=by
 rcases hs with⟨i,rfl⟩|⟨n,q,rfl⟩
 ·have hi:i<S.length:=hk;have hs:S[i]?=some S[i]:=θ hi;have e:(Kd.nest i).parts S=S[i].2:=by show(S.getD i _).2=_;rw[ω,hs];rfl
  rw[e];exact(gR hs fun f hf=>((h.fit i _ hs) f hf).1.below).2.2 p
 ·show(jg n).flatMap _=((jg n).map _).flatMap _;rw[List.flatMap_map]
def Kd.isNum:Kd->Bool
 |.num _=>true
 |_=>false
def Kd.isNest:Kd->Bool
 |.nest _=>true
 |_=>false
def Kd.isMany:Kd->Bool
 |.many _ _=>true
 |_=>false
def Kd.isPick:Kd->Bool
 |.pick _=>true
 |_=>false
def Nolk (m:Str):Prop:=∀v w:V,[(("width" : Str),v)].lookup m=none/\[(("shape" : Str),v)].lookup m=none/\[(("count" : Str),v),(("kind" : Str),w)].lookup m=none/\[(("shapes" : Str),v)].lookup m=none
def spV (c:Cl5) (K:υ) (r:Nat) (F:Kd->Bool) (val:Kd->Tab->Nat):Sp:=fun vs H Q _=>∃(a:Addr) (kd:Kd) (sa:List Addr) (S:List Shp),vs=[.ref a]/\F kd=true/\kd.Rk r/\kd.Fit S.length/\KO c K H sa a kd/\SW c K H sa S/\Good S/\∀H',jI H H'->Q (.int (val kd (tabs S))) H'
def TV (c:Cl5) (K:υ) (r:Nat) (val:Kd->Tab->Nat):Addr->Sp->Prop:=fun C sp=>(C=c.num/\sp=spV c K r Kd.isNum val)\/(C=c.nest/\sp=spV c K r Kd.isNest val)\/(C=c.many/\sp=spV c K r Kd.isMany val)\/(C=c.pick/\sp=spV c K r Kd.isPick val)
theorem aFt{K:υ}{val:Kd->Tab->Nat}{H:Hp}{kd:Kd}{S:List Shp}{Q:VK}{E:XK}(hm:Nolk m)(hr:kd.Rk r)(hf:kd.Fit S.length)(ho:KO c K H sa a kd)(hw:SW c K H sa S)(hg:Good S)
  (q:∀H',jI H H'->Q (.int (val kd (tabs S))) H'):∃a' C dx fs sp,V.ref a=.ref a'/\H a'=some (.ins C dx fs)/\fs.lookup m=none/\TV c K r val C sp/\sp [.ref a] H Q E:=by
 cases id ho with
 |num h=>exact⟨_,_,_,_,_,rfl,h,(hm _ .non).1,.inl ⟨rfl,rfl⟩,a,_,sa,S,rfl,rfl,hr,hf,ho,hw,hg,q⟩
 |nest e h=>exact⟨_,_,_,_,_,rfl,h,(hm _ .non).2.1,.inr (.inl ⟨rfl,rfl⟩),a,_,sa,S,rfl,rfl,hr,hf,ho,hw,hg,q⟩
 |many h _=>exact⟨_,_,_,_,_,rfl,h,(hm _ _).2.2.1,.inr (.inr (.inl ⟨rfl,rfl⟩)),a,_,sa,S,rfl,rfl,hr,hf,ho,hw,hg,q⟩
 |pick h _ _ _=>exact⟨_,_,_,_,_,rfl,h,(hm _ .non).2.2.2,.inr (.inr (.inr ⟨rfl,rfl⟩)),a,_,sa,S,rfl,rfl,hr,hf,ho,hw,hg,q⟩
inductive aEu (c:Cl5) (K:υ) (r:Nat) (val:Nat->Tab->Nat) (vs:List V) (H:Hp) (Q:VK):Prop|mk:∀(a:Addr) (i:Nat) (sa:List Addr) (S:List Shp),vs=[.ref a]->sa[i]?=some a->2*i+1<=r->SW c K H sa S->Good S->(∀H',jI H H'->Q (.int (val i (tabs S))) H')->aEu c K r val vs H Q
def mH (c:Cl5) (K:υ) (r:Nat) (val:Nat->Tab->Nat):Sp:=fun vs H Q _=>aEu c K r val vs H Q
inductive UR (K:υ) (H:Hp):List Addr->List Un3->Prop
 |nil:UR K H [] []
 |cons {t:Addr}{ts:List Addr}{u:Un3}{us:List Un3} : SqT K H t [.str u.1,.int u.2.1,.str u.2.2]->UR K H ts us->UR K H (t::ts) (u::us)
theorem UR.same{K:υ}(h:UR K H ts us)(g:jI H H'):UR K H' ts us:=by
 induction h with
 |nil=>exact .nil
 |cons t _ ih=>exact .cons (g.tp t) ih
theorem UR.len{K:υ}(h:UR K H ts us):ts.length=us.length:=by
 induction h with
 |nil=>rfl
 |cons _ _ ih=>rw[ii,ii,ih]
theorem UR.app{K:υ}(h:UR K H ts us)(h':UR K H ts' us'):UR K H (ts++ts') (us++us'):=by
 induction h with
 |nil=>exact h'
 |cons t _ ih=>exact .cons t ih
theorem UR.get{K:υ}(h:UR K H ts us):∀{i:Nat}{t:Addr},ts[i]?=some t->∃u,us[i]?=some u/\SqT K H t [.str u.1,.int u.2.1,.str u.2.2]:=by
 induction h with
 |nil=>intro i t e;simp at e
 |cons t _ ih =>
  intro i a e;cases i with
  |zero=>cases e;exact⟨_,rfl,t⟩
  |succ i=>exact ih e
theorem UR.but{K:υ}{H:Hp}(h:UR K H ts us)(g:But l H H')(hl:H l=some (.lst zs)):UR K H' ts us:=by
 induction h with
 |nil=>exact .nil
 |cons t _ ih=>exact .cons (g.tup hl t) ih
def UL (K:υ) (H:Hp) (l:Addr) (us:List Un3):Prop:=∃ts:List Addr,H l=some (.lst (ts.map V.ref))/\UR K H ts us
abbrev un (kd:Kd) (S:List Shp) (p:Str):List Un3:=kd.units (tabs S).sz (tabs S).ut p
theorem Kd.parts_un(h:Good S){k:Kd}(hk:k.Fit S.length)(hs:(∃i,k=.nest i)\/∃n q,k=.many n q){p:Str}: un k S p=(k.parts S).flatMap fun f=>un f.2 S (pj p f.1):=Kd.parts_units h hk hs p
def spU (c:Cl5) (K:υ) (r:Nat) (F:Kd->Bool):Sp:=fun vs H Q _=>∃(a:Addr) (p:Str) (kd:Kd) (sa:List Addr) (S:List Shp),vs=[.ref a,.str p]/\p.length+8*r<=200/\F kd=true/\kd.Rk r/\kd.Fit S.length/\KO c K H sa a kd/\SW c K H sa S/\Good S ∧
 ∀l H',jI H H'->H l=none->UL K H' l (un kd S p)->Q (.ref l) H'
def TU (c:Cl5) (K:υ) (r:Nat):Addr->Sp->Prop:=fun C sp=>(C=c.num/\sp=spU c K r Kd.isNum)\/(C=c.nest/\sp=spU c K r Kd.isNest)\/(C=c.many/\sp=spU c K r Kd.isMany)\/(C=c.pick/\sp=spU c K r Kd.isPick)
theorem kdU{K:υ}{H:Hp}{kd:Kd}{S:List Shp}(hm:Nolk m)(hr:kd.Rk r)(hf:kd.Fit S.length)(ho:KO c K H sa a kd)(hw:SW c K H sa S)(hg:Good S):
  ∃C dx fs sp,H a=some (.ins C dx fs)/\fs.lookup m=none/\TU c K r C sp/\∀(p:Str) (Q:VK) (E:XK),p.length+8*r<=200->(∀l H',jI H H'->H l=none->UL K H' l (un kd S p)->Q (.ref l) H')->sp [.ref a,.str p] H Q E:=by
 cases id ho with
 |num h=>exact⟨_,_,_,_,h,(hm _ .non).1,.inl ⟨rfl,rfl⟩,fun p Q E hp q=>⟨a,p,_,sa,S,rfl,hp,rfl,hr,hf,ho,hw,hg,q⟩⟩
 |nest e h=>exact⟨_,_,_,_,h,(hm _ .non).2.1,.inr (.inl ⟨rfl,rfl⟩),fun p Q E hp q=>⟨a,p,_,sa,S,rfl,hp,rfl,hr,hf,ho,hw,hg,q⟩⟩
 |many h _=>exact⟨_,_,_,_,h,(hm _ _).2.2.1,.inr (.inr (.inl ⟨rfl,rfl⟩)),fun p Q E hp q=>⟨a,p,_,sa,S,rfl,hp,rfl,hr,hf,ho,hw,hg,q⟩⟩
 |pick h _ _ _=>exact⟨_,_,_,_,h,(hm _ .non).2.2.2,.inr (.inr (.inr ⟨rfl,rfl⟩)),fun p Q E hp q=>⟨a,p,_,sa,S,rfl,hp,rfl,hr,hf,ho,hw,hg,q⟩⟩
inductive PR (c:Cl5) (K:υ) (H:Hp) (sa:List Addr):List Addr->List (Str×Kd)->Prop
 |nil:PR c K H sa [] []
 |cons {t k:Addr}{x:V}{y:Str}{kd:Kd}{ts:List Addr}{ps:List (Str×Kd)} : SqT K H t [x,.ref k]->aAu x=some y->KO c K H sa k kd->PR c K H sa ts ps->PR c K H sa (t::ts) ((y,kd)::ps)
theorem PR.same{K:υ}(h:PR c K H sa ts ps)(g:jI H H'):PR c K H' sa ts ps:=by
 induction h with
 |nil=>exact .nil
 |cons t x k _ ih=>exact .cons (g.tp t) x (k.same g) ih
theorem PR.len{K:υ}(h:PR c K H sa ts ps):ts.length=ps.length:=by
 induction h with
 |nil=>rfl
 |cons _ _ _ _ ih=>rw[ii,ii,ih]
theorem PR.snoc{K:υ}{x:V}(h:PR c K H sa ts ps)(t1:SqT K H t [x,.ref k])(h2:aAu x=some y)(h3:KO c K H sa k kd):PR c K H sa (ts++[t]) (ps++[(y,kd)]):=by
 induction h with
 |nil=>exact .cons t1 h2 h3 .nil
 |cons t x k _ ih=>exact .cons t x k ih
theorem PR.get{K:υ}(h:PR c K H sa ts ps):∀{i:Nat}{t:Addr},ts[i]?=some t->∃x y kd k,ps[i]?=some (y,kd)/\SqT K H t [x,.ref k]/\aAu x=some y/\KO c K H sa k kd:=by
 induction h with
 |nil=>intro i t e;simp at e
 |cons t x k _ ih =>
  intro i a e;cases i with
  |zero=>cases e;exact⟨_,_,_,_,rfl,t,x,k⟩
  |succ i=>exact ih e
theorem FO.parts{K:υ}(h:FO c K H sa ps fs)(more:List Addr):PR c K H (sa++more) ps fs:=by
 induction h with
 |nil=>exact .nil
 |cons t k _ ih=>exact .cons t rfl (k.more more) ih
theorem SW.at{K:υ}(h:SW c K H sa S){i:Nat}(e:sa[i]?=some a):∃s,S[i]?=some s/\SO c K H (sa.take i) a s:=by
 have hi:i<S.length:=by rw[←h.1];exact(η.mp e).1
 exact⟨S[i],θ hi,h.2 i a _ e (θ hi)⟩
theorem SO.fields{K:υ}{H:Hp}{sa:List Addr}(h:SO c K H (sa.take i) a s):∃dx t ps,H a=some (.ins c.shape dx [("name",.str s.1),("fields",.ref t)])/\SqT K H t (ps.map V.ref)/\PR c K H sa ps s.2:=by
 obtain⟨dx,t,ps,h1,h2,h3⟩:=h;refine⟨dx,t,ps,h1,h2,?_⟩;have:=h3.parts (sa.drop i);rw[lh]at this;exact this
theorem aHg:∀j:Nat,j<6->(ε (toString j)).length=1:=by ac_rfl
theorem Kd.parts_ok(h:Good S){k:Kd}{r:Nat}(hk:k.Fit S.length)(hr:k.Rk (r+1)){f:Str×Kd}(hf:f∈k.parts S):f.2.Rk r/\f.2.Fit S.length/\1<=f.1.length/\f.1.length<=6:=by
 cases k with
 |num w=>cases hf
 |nest i =>
  have hi:i<S.length:=hk;have hs:S[i]?=some S[i]:=θ hi;have e:(Kd.nest i).parts S=S[i].2:=by show(S.getD i _).2=_;rw[ω,hs];rfl
  rw[e]at hf;obtain⟨g1,g2,g3⟩:=h.fit i _ hs f hf;exact⟨g1.rk.mono (by have : 2*i+2<=r+1:=hr;omega),g1.mono (by omega),g2,g3⟩
 |many n q =>
  obtain⟨j,hj,rfl⟩:=jf.mp hf;have hj':j<6:=ς (vk.mp hj) hk.2.1;have:=aHg j hj';refine⟨?_,?_,by show 1<=(ε (toString j)).length;omega,by show(ε (toString j)).length<=6;omega⟩
  ·rcases hr with⟨w,rfl,_⟩|⟨i,rfl,hi⟩
   ·exact je
   ·show 2*i+2<=r;omega
  ·rcases hk.2.2 with⟨w,rfl,hw⟩|⟨i,rfl,hi⟩
   ·exact hw
   ·exact hi
 |pick is=>cases hf
def Kd.lv:Kd->Nat
 |.many _ _=>1
 |_=>0
theorem Kd.lv_le:∀k:Kd,k.lv<=1
 |.num _=>iy _
 |.nest _=>iy _
 |.many _ _=>ν _
 |.pick _=>iy _
def LX (K:υ) (H:Hp) (sl:Addr) (S:List Shp):Prop:=∃as:List Addr,SqL K H sl (as.map V.ref)/\LW K H as S
theorem LX.same{K:υ}(h:LX K H sl S)(g:jI H H'):LX K H' sl S:=by
 obtain⟨as,h1,h2⟩:=h;exact⟨as,g.seq h1,h2.same g⟩
def tU (K:υ) (val:Kd->Tab->Nat):Nat->Sp
 |0=>fun _ _ _ _=>False
 |r+1=>fun vs H Q _=>∃(a sl:Addr) (kd:Kd) (S:List Shp),vs=[.ref a,.ref sl]/\kd.Rk r/\kd.lv<=r/\kd.Fit S.length/\LK K H a kd/\LX K H sl S/\Good S/\∀H',jI H H'->Q (.int (val kd (tabs S))) H'
def spLU (K:υ):Nat->Sp
 |0=>fun _ _ _ _=>False
 |r+1=>fun vs H Q _=>∃(a sl:Addr) (p:Str) (kd:Kd) (S:List Shp),vs=[.ref a,.ref sl,.str p]/\p.length+8*r<=200/\kd.Rk r/\kd.lv<=r/\kd.Fit S.length/\LK K H a kd/\LX K H sl S/\Good S ∧
  ∀l H',jI H H'->H l=none->UL K H' l (un kd S p)->Q (.ref l) H'
def vSz (kd:Kd) (t:Tab):Nat:=kd.size t.sz
def vDp (kd:Kd) (t:Tab):Nat:=kd.depth t.dp
def sSz (i:Nat) (t:Tab):Nat:=t.sz.getD i 0
def sDp (i:Nat) (t:Tab):Nat:=t.dp.getD i 0
theorem KO.but{K:υ}{H:Hp}(g:But l H H')(hl:H l=some (.lst zs))(h:KO c K H sa a k):KO c K H' sa a k:=by
 have n:∀{a C dx fs},H a=some (.ins C dx fs)->H' a=some (.ins C dx fs):=fun h=>g _ _ (iJ h hl (by intro z;cases z)) h
 induction h with
 |num h=>exact .num (n h)
 |nest e h=>exact .nest e (n h)
 |many h _ ih=>exact .many (n h) ih
 |pick h t l e=>exact .pick (n h) (g.tup hl t) l e
theorem FO.but{K:υ}{H:Hp}(g:But l H H')(hl:H l=some (.lst zs))(h:FO c K H sa ps fs):FO c K H' sa ps fs:=by
 induction h with
 |nil=>exact .nil
 |cons t k _ ih=>exact .cons (g.tup hl t) (k.but g hl) ih
theorem SO.but{K:υ}{H:Hp}(g:But l H H')(hl:H l=some (.lst zs))(h:SO c K H sa a s):SO c K H' sa a s:=by
 obtain⟨dx,t,ps,h1,h2,h3⟩:=h;exact⟨dx,t,ps,g _ _ (iJ h1 hl (by intro z;cases z)) h1,g.tup hl h2,h3.but g hl⟩
theorem SW.but{K:υ}{H:Hp}(g:But l H H')(hl:H l=some (.lst zs))(h:SW c K H sa S):SW c K H' sa S:=⟨h.1,fun i a s h1 h2=>(h.2 i a s h1 h2).but g hl⟩
theorem But.from{H:Hp}(g:jI H H1)(hl:H l=none)(b:But l H1 H2):jI H H2:=fun x o q=>b x o (jL q hl) (g x o q)
theorem bJ{H:Hp}(hx:H x=none)(hd:H dx=none):jI H (upd (upd H dx o) x u):=fun b v q=>by
 rw[jZ (jL q hx),jZ (jL q hd)];exact q
theorem jI.putn{H:Hp}(g:jI H H1)(h:H a=none):jI H (upd H1 a o):=fun b v q=>by
 rw[jZ (jL q h)];exact g _ _ q
theorem qE{ss:List Addr}{i:Nat}(h:(ss.map V.ref)[i]?=some x):∃s,ss[i]?=some s/\x=.ref s:=by
 rw[iq]at h;cases e:ss[i]? with
 |none=>rw[e]at h;cases h
 |some c=>rw[e]at h;cases h;exact⟨c,rfl,rfl⟩
theorem vB{α β : Type}{f : α->β}{l:List α}{i:Nat}{a : α}(h:l[i]?=some a):(l.take (i+1)).map f=(l.take i).map f++[f a]:=by
 rw[jt,h,χ];rfl
theorem eU{α β : Type}{f : α->List β}{l:List α}{i:Nat}{a : α}(h:l[i]?=some a):(l.take (i+1)).flatMap f=(l.take i).flatMap f++f a:=by
 rw[jt,h,qe];show _++[a].flatMap f=_;rw[rm]
theorem kO{α : Type}{l:List α}: l.take l.length=l:=zd
theorem aHn{ns:List Nat}{m:Int}(h1:m∈ns.map fun n:Nat=>(n:Int))(h2:∀n∈ns.map fun n:Nat=>(n:Int),n<=m):m=((xE ns:Nat):Int):=by
 obtain⟨n,hn,rfl⟩:=jf.mp h1;rw[←aOm hn fun k hk=>by have:=h2 (k:Int) (List.mem_map_of_mem hk);omega]
theorem sumI:∀ns:List Nat,(ns.map fun n:Nat=>(n:Int)).sum=((ns.sum:Nat):Int)
 |[]=>rfl
 |n::ns=>by rw[ju,ud,ud,sumI ns];omega
theorem Kd.Rk.zero : ∀{k:Kd},k.Rk 0->k.Fit n->k.isNum=true
 |.num _,_,_=>rfl
 |.nest i,h,_=>by have : 2*i+2<=0:=h;omega
 |.many _ _,h,_=>by
  rcases h with⟨_,_,h⟩|⟨i,_,h⟩ <;> omega
 |.pick is,h,q=>by
  cases is with
  |nil=>exact absurd q.1 (by decide)
  |cons i _=>have:=h i (Ω ..);omega
theorem Kd.Rk.sub{r:Nat}(h:(Kd.many n k).Rk (r+1)):k.Rk r:=by
 rcases h with⟨w,rfl,_⟩|⟨i,rfl,hi⟩
 ·exact je
 ·show 2*i+2<=r;omega
theorem Kd.Fit.sub(h:(Kd.many n k).Fit m):k.Fit m:=by
 rcases h.2.2 with⟨w,rfl,hw⟩|⟨i,rfl,hi⟩
 ·exact hw
 ·exact hi
theorem wK{os:St}(h:os.length=2):∃a b,os=[a,b]:=by
 match os,h with
 |[a,b],_=>exact⟨a,b,rfl⟩
theorem sN{m:Str}(h:m = "size" ∨ m = "depth" ∨ m = "units_at" ∨ m = "parted"):Nolk m:=by
 rcases h with rfl|rfl|rfl|rfl <;> exact fun _ _=>⟨rfl,rfl,rfl,rfl⟩
theorem zS.mono{K:υ}{k:Nat}(h:zS P w K mg base CX j m C sp)(hk:j<=k):zS P w K mg base CX k m C sp:=by
 obtain⟨c,f,fd,ps,h1,h2,h3⟩:=h;exact⟨c,f,fd,ps,h1,h2.mono hk,h3⟩
theorem noFn{K:υ}{sp:Sp}(h:∀vs H Q E,sp vs H Q E->False):kJ P w K mg base CX k f fd ps sp:=⟨fun vs H Q E q=>(h vs H Q E q).elim,fun _ _ _ H _ _ vs Q E _ _ _ _ q=>(h vs H Q E q).elim⟩
theorem noV{K:υ}{F:Kd->Bool}(hF:∀k,F k=true->k.isNum=true->False):∀vs H Q E,spV c K 0 F val vs H Q E->False:=fun vs H Q E h=>by obtain⟨a,kd,sa,S,_,h1,h2,h3,_⟩:=h;exact hF kd h1 (h2.zero h3)
theorem noU{K:υ}{F:Kd->Bool}(hF:∀k,F k=true->k.isNum=true->False):∀vs H Q E,spU c K 0 F vs H Q E->False:=fun vs H Q E h=>by obtain⟨a,p,kd,sa,S,_,_,h1,h2,h3,_⟩:=h;exact hF kd h1 (h2.zero h3)
theorem nn1:∀k:Kd,k.isNest=true->k.isNum=true->False:=fun k h g=>by cases k <;> first|exact ψ h|exact ψ g
theorem nn2:∀k:Kd,k.isMany=true->k.isNum=true->False:=fun k h g=>by cases k <;> first|exact ψ h|exact ψ g
theorem nn3:∀k:Kd,k.isPick=true->k.isNum=true->False:=fun k h g=>by cases k <;> first|exact ψ h|exact ψ g
theorem ff1:∀k:Kd,k.isNest=true->(∃i,k=.nest i)\/∃n q,k=.many n q:=fun k h=>by
 cases k <;> first|exact .inl ⟨_,rfl⟩|cases h
theorem ff2:∀k:Kd,k.isMany=true->(∃i,k=.nest i)\/∃n q,k=.many n q:=fun k h=>by
 cases k <;> first|exact .inr ⟨_,_,rfl⟩|cases h
inductive Itm where
 |sh (n:Str)
 |fd (n:Str) (k:Kd)
def iN (s:Shp):List Itm:=.sh s.1::s.2.map fun f=>.fd f.1 f.2
def vH (S:List Shp):List Itm:=S.flatMap iN
def Itm.line (nm:Nat->Str):Itm->List Str
 |.sh n=>[ε "shape",n]
 |.fd n k=>n::k.words nm
theorem cK(S:List Shp):nL S=(vH S).map (Itm.line (kL S)):=by
 unfold nL vH;rw[List.map_flatMap]
 congr 1
 funext s
 unfold aFi iN;rw[ju,jw];rfl
theorem aC(A B:List Shp):vH (A++B)=vH A++vH B:=qe
def mY (S:List Shp) (j:Nat) (T:List Shp):Prop:=(∃S2,S=T++S2/\j=(vH T).length)\/∃S1 s S2 f1 f2,S=S1++s::S2/\s.2=f1++f2/\T=S1++[(s.1,f1)]/\j=(vH S1).length+1+f1.length
theorem mY.start(S:List Shp):mY S 0 []:=.inl ⟨S,rfl,rfl⟩
theorem mY.next(h:mY S j T)(hj:j<(vH S).length):∃S1 s S2,S=S1++s::S2 ∧
  (((vH S)[j]?=some (.sh s.1)/\T=S1/\mY S (j+1) (S1++[(s.1,[])]))\/∃f1 n k f2,s.2=f1++(n,k)::f2/\(vH S)[j]?=some (.fd n k)/\T=S1++[(s.1,f1)]/\mY S (j+1) (S1++[(s.1,f1++[(n,k)])])):=by
 have one:∀{T:List Shp}{S2:List Shp},S=T++S2->j=(vH T).length->∃S1 s S2,S=S1++s::S2 ∧
  (((vH S)[j]?=some (.sh s.1)/\T=S1/\mY S (j+1) (S1++[(s.1,[])]))\/∃f1 n k f2,s.2=f1++(n,k)::f2/\(vH S)[j]?=some (.fd n k)/\T=S1++[(s.1,f1)]/\mY S (j+1) (S1++[(s.1,f1++[(n,k)])])):=by
  intro T S2 e ej;cases S2 with
  |nil=>rw[e,li,←ej]at hj;exact absurd hj (qm _)
  |cons s S2 =>
   refine⟨T,s,S2,e,.inl ⟨?_,rfl,.inr ⟨T,s,S2,[],s.2,e,rfl,rfl,by rw[ej];rfl⟩⟩⟩;rw[e,aC,ij (by omega),ej,nr];rfl
 rcases h with⟨S2,e,ej⟩|⟨S1,s,S2,f1,f2,e,ef,eT,ej⟩
 ·exact one e ej
 ·cases f2 with
  |nil =>
   rw[li]at ef;have e2:T=S1++[s]:=by rw[eT,←ef]
   refine one (S2:=S2) (by rw[e,e2,mi];rfl) ?_;rw[e2,aC,ι,ej];show _=_+([s].flatMap iN).length;rw[rm];unfold iN;rw[ii,δ,ef];omega
  |cons f f2 =>
   refine⟨S1,s,S2,e,.inr ⟨f1,f.1,f.2,f2,ef,?_,eT,.inr ⟨S1,s,S2,f1++[(f.1,f.2)],f2,e,by rw[ef,mi];rfl,rfl,by rw[ej,ι];rfl⟩⟩⟩;rw[e,aC,ij (by omega),show j-(vH S1).length=f1.length+1 by omega];show((iN s)++vH S2)[f1.length+1]?=_;unfold iN;rw[uj,List.getElem?_cons_succ,iz (by rw[δ,ef,ι,ii];omega),iq,ef,ij (ν _),nr];rfl
theorem uY{A:List Shp}(h:A≠[]): 0<(vH A).length:=by
 cases A with
 |nil=>exact absurd rfl h
 |cons a A=>exact Nat.succ_pos _
theorem mY.done(h:mY S (vH S).length T):T=S:=by
 rcases h with⟨S2,e,ej⟩|⟨S1,s,S2,f1,f2,e,ef,eT,ej⟩
 ·cases S2 with
  |nil=>rw[e,li]
  |cons s S2 =>
   rw[e,aC,ι]at ej;have:=uY (A:=s::S2) (by simp);omega
 ·rw[e,aC,ι,show vH (s::S2)=iN s++vH S2 from rfl,ι]at ej;unfold iN at ej;rw[ii,δ,ef,ι]at ej;have h2:f2=[]:=pe.mp (by omega);have h3:S2=[]:=by
   cases S2 with
   |nil=>rfl
   |cons a A=>have:=uY (A:=a::A) (by simp);omega
  rw[eT,e,h3];subst h2;rw[li]at ef;rw[←ef]
theorem bI(sa:List Addr)(z:Addr):atI ((sa++[z]).map V.ref) (-1)=some (.ref z):=by
 have l:((sa++[z]).map V.ref).length=sa.length+1:=by rw[δ,ι];rfl
 have e:ixN (sa.length+1) (-1)=some sa.length:=by
  unfold ixN;rw[if_neg (by omega),if_pos (by omega)]
  congr 1
  omega
 unfold atI;rw[l,e];show((sa++[z]).map V.ref)[sa.length]?=_;rw[χ,ij (by rw[δ];exact ν _),δ,nr];rfl
theorem aHz(sa:List Addr)(z:Addr):ixN ((sa++[z]).map V.ref).length (-1)=some sa.length:=by
 rw[δ,ι,ki];unfold ixN;rw[if_neg (by omega),if_pos (by omega)]
 congr 1
 omega
theorem aIm(sa:List Addr)(z y:Addr):((sa++[z]).map V.ref).set sa.length (.ref y)=(sa++[y]).map V.ref:=by
 rw[χ,χ,List.set_append_right _ _ (by rw[δ];exact ν _),δ,nr];rfl
theorem cutA(xs:List V)(k:Nat):aK xs (some (k:Int)) none=xs.drop k:=by
 unfold aK;rw[HT.sIx_none,HT.sIx_nat];have e:xs.drop (min k xs.length)=xs.drop k:=by
  by_cases h:k<=xs.length
  ·rw[Nat.min_eq_left h]
  ·rw[Nat.min_eq_right (by omega),List.drop_length,List.drop_eq_nil_of_le (by omega)]
 rw[e,lq];rw[zb];omega
theorem aBf(x:V)(xs:List V):aK (x::xs) (some 1) none=xs:=cutA (x::xs) 1
theorem aPb(x y:V)(xs:List V):aK (x::y::xs) (some 2) none=xs:=cutA (x::y::xs) 2
theorem at0{x:V}{xs:List V}: atI (x::xs) 0=some x:=xB (j:=0) rfl
theorem at1{x y:V}{xs:List V}: atI (x::y::xs) 1=some y:=xB (j:=1) rfl
theorem cutB(xs:List V)(k:Nat):aK xs none (some (k:Int))=xs.take k:=by
 unfold aK;rw[HT.sIx_none,HT.sIx_nat,yh,Nat.sub_zero]
 by_cases h:k<=xs.length
 ·rw[Nat.min_eq_left h]
 ·rw[Nat.min_eq_right (by omega),zd,lq (by omega)]
theorem cutC(sa:List Addr)(z:Addr):aK ((sa++[z]).map V.ref) none (some (-1))=sa.map V.ref:=by
 unfold aK;rw[HT.sIx_none,yh,Nat.sub_zero];have l:((sa++[z]).map V.ref).length=sa.length+1:=by rw[δ,ι];rfl
 have e:HT.sIx ((sa++[z]).map V.ref).length ((sa++[z]).map V.ref).length (some (-1))=(sa.map V.ref).length:=by
  rw[l,δ];show(if (-1:Int)<0 then ((-1:Int)+((sa.length+1:Nat):Int)).toNat else min (-1:Int).toNat (sa.length+1))=_;rw[if_pos (by decide)];omega
 rw[e,χ,List.take_left' rfl]
def dk (T:List Shp) (sa:List Addr):List (Key×V):=jj (fun (s:Shp) (a:Addr)=>((.inr s.1:Key),V.ref a)) T sa
theorem aLj{T:List Shp}{sa:List Addr}(hn:(T.map (·.1)).Nodup):∀{i:Nat}{s:Shp}{a:Addr},T[i]?=some s->sa[i]?=some a->zX (dk T sa) (.inr s.1)=some (.ref a):=by
 induction T generalizing sa with
 |nil=>intro i s a h;simp at h
 |cons t T ih =>
  intro i s a h1 h2;cases sa with
  |nil=>simp at h2
  |cons b sa =>
   cases i with
   |zero =>
    cases h1;cases h2;unfold dk zX;rw[rn,List.find?_cons_of_pos (by simp)];rfl
   |succ i =>
    have hn':=tf.mp (show(t.1::T.map (·.1)).Nodup from hn);have:=ih hn'.2 (sa:=sa) h1 h2;unfold dk zX at this ⊢;rw[rn,uw]
    ·exact this
    ·intro z;have z2:t.1=s.1:=uo.inj (show(uo t.1:Key)=.inr s.1 from of_decide_eq_true z);have h1':T[i]?=some s:=h1;exact hn'.1 (by rw[z2];exact List.mem_map_of_mem (μ h1'))
theorem lX{kvs:List (Key×V)}{k:Key}(h:∀x∈kvs,x.1≠k):putK kvs k v=kvs++[(k,v)]:=by
 unfold putK
 first
 |rw[if_neg (by simp only[List.any_eq_true,not_exists];rintro x ⟨hx,z⟩;exact h x hx (of_decide_eq_true z))]
 | (split
    · rename_i z
      simp only[List.any_eq_true]at z;obtain⟨x,hx,z⟩:=z;exact absurd (by simpa using z) (h x hx)
    · rfl)
theorem aBr{α β γ : Type}(f : α->β->γ):∀{xs:List α}{ys:List β}{x : α}{y : β},xs.length=ys.length->jj f (xs++[x]) (ys++[y])=jj f xs ys++[f x y]
 |[],[],_,_,_=>rfl
 |a::xs,b::ys,x,y,h=>by
  rw[uj,uj,rn,rn,aBr f (qq h)];rfl
theorem aOl{T:List Shp}{sa:List Addr}{j:Nat}(h1:T[j]?=some s)(h2:sa[j]?=some a):dk (T.take (j+1)) (sa.take (j+1))=dk (T.take j) (sa.take j)++[(.inr s.1,.ref a)]:=by
 unfold dk;rw[jt,jt,h1,h2];refine aBr _ ?_;rw[Δ,Δ];have:=(η.mp h1).1;have:=(η.mp h2).1;omega
theorem aMd{T:List Shp}{sa:List Addr}: ∀x∈dk T sa,∃s∈T,x.1=.inr s.1:=by
 induction T generalizing sa with
 |nil=>intro x hx;cases sa <;> simp[dk]at hx
 |cons t T ih =>
  intro x hx;cases sa with
  |nil=>simp[dk]at hx
  |cons a sa =>
   unfold dk at hx;rw[rn]at hx;rcases Φ.mp hx with rfl|hx
   ·exact⟨t,Ω ..,rfl⟩
   ·obtain⟨s,hs,e⟩:=ih x hx;exact⟨s,Ξ _ hs,e⟩
theorem SW.init{K:υ}{sa:List Addr}{z:Addr}{T:List Shp}{s:Shp}(h:SW c K H (sa++[z]) (T++[s])):SW c K H sa T/\SO c K H sa z s:=by
 have hl:sa.length=T.length:=by have:=h.1;rw[ι,ι]at this;exact qq this
 refine⟨⟨hl,fun i a u h1 h2=>?_⟩,?_⟩
 ·have hi:i<sa.length:=(η.mp h1).1;have:=h.2 i a u (uU h1) (by rw[iz (by omega)];exact h2);rw[List.take_append_of_le_length (by omega)]at this;exact this
 ·have:=h.2 sa.length z s (by rw[ij (ν _),nr];rfl) (by rw[hl,ij (ν _),nr];rfl);rw[List.take_left' rfl]at this;exact this
theorem aKu(c:Nat):∀ps:List (List Nat),(jn c ps).length<=(ps.map (·.length)).sum+ps.length
 |[]=>ν _
 |[p]=>by show p.length<=(p.length+0)+1;omega
 |p::q::r=>by
  have ih:=aKu c (q::r);show(p++c::jn c (q::r)).length<=_;rw[ι,ii,ju,ud,ii];omega
theorem lD{α : Type}{f : α->Nat}{m:Nat}: ∀{l:List α},(∀x∈l,f x<=m)->(l.map f).sum<=l.length*m
 |[],_=>iy _
 |x::l,h=>by
  have h1:=h x (Ω ..);have h2:=lD (f:=f) (l:=l) fun y hy=>h y (Ξ _ hy);rw[ju,ud,ii,Nat.succ_mul];omega
theorem pE{c:Nat}{ws:List Str}{m:Nat}(h:∀w∈ws,w.length<=m):(jo ⟨#[c]⟩ ws).length<=ws.length*(m+1):=by
 have e:(jo ⟨#[c]⟩ ws).length=(jn c (ws.map fun w=>w.cps.toList)).length:=by
  rw[←nU];exact(nh).symm
 rw[e];refine Θ (aKu _ _) ?_;rw[jw,δ,Nat.mul_add,Nat.mul_one];exact zo (lD fun w hw=>by show w.cps.toList.length<=m;rw[nh];exact h w hw) _
theorem oU{ns:List Nat}{i:Nat}(h:(ns.map fun n:Nat=>V.int n)[i]?=some x):∃c:Nat,ns[i]?=some c/\x=.int c:=by
 rw[iq]at h;cases e:ns[i]? with
 |none=>rw[e]at h;cases h
 |some c=>rw[e]at h;cases h;exact⟨c,rfl,rfl⟩
theorem xR{ss:List Addr}{i:Nat}(h:ss[i]?=some s):atI (ss.map V.ref) (i:Int)=some (.ref s):=xB (by rw[iq,h];rfl)
theorem rC{ss:List Str}{i:Nat}(h:ss[i]?=some s):atI (ss.map V.str) (i:Int)=some (.str s):=xB (by rw[iq,h];rfl)
theorem LX.at{K:υ}(h:LX K H sl S){i:Nat}(hi:i<S.length):∃(as:List Addr) (s l:Addr) (ps:List Addr),SqL K H sl (as.map V.ref)/\as[i]?=some s/\SqT K H s [.str (S[i]).1,.ref l]/\SqL K H l (ps.map V.ref)/\LF K H ps (S[i]).2:=by
 obtain⟨as,h1,h2⟩:=h;have hl:=h2.len;have ha:as[i]?=some (as[i]'(by omega)):=θ _;obtain⟨s,hs,l,ps,q1,q2,q3⟩:=h2.get ha;rw[θ hi]at hs;cases hs;exact⟨as,_,l,ps,h1,ha,q1,q2,q3⟩
theorem len3{os:St}(h:os.length=3):∃a b c,os=[a,b,c]:=by
 match os,h with
 |[a,b,c],_=>exact⟨a,b,c,rfl⟩
def offs (xs:List Addr) (H:Hp):Hp:=fun b=>if b∈xs then none else H b
theorem kP{xs:List Addr}{a:Addr}{H:Hp}(n:a∉xs)(h:H a=some o):offs xs H a=some o:=by unfold offs;rw[if_neg n];exact h
theorem jM : jI (offs xs H) H:=fun b o q=>by
 unfold offs at q
 split at q
 ·cases q
 ·exact q
theorem vL{xs:List Addr}{H H':Hp}(h:∀b o,b∉xs->H b=some o->H' b=some o):jI (offs xs H) (offs xs H'):=fun b o q=>by
 unfold offs at q ⊢
 split at q
 ·cases q
 ·rename_i n;rw[if_neg n];exact h b o n q
theorem kH(g:jI H H'):jI (offs xs H) (offs xs H'):=vL fun b o _ q=>g b o q
theorem iS{xs ys:List Addr}(h:∀b,b∈xs->b∈ys):jI (offs ys H) (offs xs H):=fun b o q=>by
 unfold offs at q ⊢
 split at q
 ·cases q
 ·rename_i n;rw[if_neg fun z=>n (h b z)];exact q
def Al (xs:List Addr) (H:Hp):Prop:=∀b∈xs,∃o,H b=some o
theorem Al.same(h:Al xs H)(g:jI H H'):Al xs H':=fun b hb=>by
 obtain⟨o,ho⟩:=h b hb;exact⟨o,g _ _ ho⟩
theorem Al.new{H:Hp}(h:Al xs H)(ht:H t=none):t∉xs:=fun z=>by
 obtain⟨o,ho⟩:=h t z;rw[ht]at ho;cases ho
end L2
namespace L2
open PySem PySem.Spec PyProof.Rows
theorem KV.get:∀{kvs:List (Key×V)}{vs:List (Key×Value)},KV kvs vs->∀{i:Nat}{kv:Key×V},kvs[i]?=some kv->∃u,vs[i]?=some (kv.1,u)
 |_,_,.nil,_,_,e=>by simp at e
 |_,_,.cons (a:=p) (b:=q) r _,0,kv,e=>by
  simp at e;subst e;exact⟨q.2,by simp[r.1]⟩
 |_,_,.cons _ t,i+1,kv,e=>by
  obtain⟨u,h⟩:=KV.get t (i:=i) (kv:=kv) (by simpa using e);exact⟨u,by simpa using h⟩
end L2
namespace L2.TX
open PySem PySem.Spec PyProof.Rows
section
variable {prog:jy}{w:mf}{A:kg}{R:Result->ξ->Prop}{I:Addr}{fp wr:List Addr}{G:Array GenState->Array GenState->Prop}{n:Nat}{P:Nat->Value->Prop}{St:Nat->ξ->Prop}
end
end L2.TX
namespace L2
open PySem PySem.Spec PyProof.Rows
structure InsC (K:υ) (C:Addr):Prop where
 cl:Cls K C
 ha:nu K (.ref C) "__class__" = some (some (.builtin "object.__class__"))
 hn:tw K (.builtin "object.__class__") "__get__" = some (some (.builtin "getset_descriptor.__get__"))
 htk:PySem.W.takesIn K (.builtin "object.__class__")=some true
 hm:ny K C (.type "object")=some true
theorem InsC.ty{K:υ}(c:InsC K C){H:Hp}(e:H a=some (.ins C dx fs)):gM K H (.ref a) (.ref C):=.ins e c.cl c.ha c.hn c.htk c.hm
theorem zC{X:Cx}{K:υ}(hK:X.K=K):xA X (.builtin "isinstance") (fun xs H Q=>∃(x:V) (D:Addr) (t:Value) (b:Bool),xs=[x,.ref D]/\gM K H x t/\kh K t (.ref D)=some b/\Q (.bl b) H):=by
 intro pins s σ H xs us Q I r h;obtain⟨x,D,t,b,rfl,ht,hk,q⟩:=h;subst hK;obtain⟨u,w',rfl,rx,rD⟩:=vals2 r;cases rD;exact aHk I rx ht hk fun tk=>⟨.bl b,H,I.tok tk,rfl,q⟩
section
variable {P:jy}{w:mf}{A:kg}{E:Value->ξ->Prop}{s:ξ}
structure ZpM (b c2:Bool) (h:kq) (z ti to j1 j2 a1 a2:Addr) (n:Nat):Prop where
 z:IsZip h z ti to .none
 ti:IsPair h ti (.ref j1) (.ref j2)
 to:∃p q,IsPair h to p q
 i1:aN b h j1 a1 n
 i2:aN c2 h j2 a2 n
theorem aOi{Q:Option Value->ξ->Prop}(D:ZipApart z ti to j1 j2 a1 a2)(hz:ZpM b c2 s.heap z ti to j1 j2 a1 a2 n)
  (g1:zQ b s.heap a1 us)(g2:zQ c2 s.heap a2 vs)(hu:us[n]?=some u)(hv:vs[n]?=some v)
  (k:∀g,IsZip g z ti to (uc s.heap.objs.size)->IsPair g to u v->aN b g j1 a1 (n+1)->aN c2 g j2 a2 (n+1)->IsPair g s.heap.objs.size u v →
   (∀c o,c∉[z,to,j1,j2]->s.heap.get? c=some o->g.get? c=some o)->Q (some (.ref s.heap.objs.size)) { s with heap:=g }):ik (ir P w) A (pyNext (.ref z)) Q E s:=by
 obtain⟨hz,hi,⟨p,q,ho⟩,h1,h2⟩:=hz;have ty:s.TypeIs (.ref z) "zip":=⟨_,hz,rfl⟩;unfold pyNext;refine ζ (zh (wpAny_callSpecial?_slot (name:=ε "__next__") ty F.slot_zip_next (uh F.slot_zip_next ty F.entry_zip_next ?_ (F.args_zip_next_1 _))));show ik _ _ (field (.ref z) 2 >>= fun _=>_) _ _ _;refine ζ (nj hz rfl (x:=.bool false) rfl ?_);show ik _ _ (field (.ref z) 3 >>= fun _=>_) _ _ _;refine ζ (nj hz rfl (x:=.ref ti) rfl ?_);refine ζ (sk hi rfl ?_);show ik _ _ (oq (.ref z) >>= fun _=>_) _ _ _;refine ζ ?_;unfold oq;refine ζ (nj hz rfl (x:=mn) rfl (Γ ?_));simp only[if_true];refine ζ (wpAny_rule ?_);refine ζ (nj hz rfl (x:=.ref to) rfl ?_);refine ζ (sr hz (by simp) fun e1 z1 s1=>?_);replace z1:IsZip e1 z ti to .ellipsis:=z1;refine ζ ?_;simp only[List.zipIdx_cons,List.zipIdx_nil,List.forIn_cons,List.forIn_nil];have x1:=s1.extBut;refine ζ (ζ (wx ?_));show ik _ _ (kf (.ref j1) >>= fun _=>_) _ _ _;refine ζ (aDf (h1.keep fun o e=>x1 _ o D.i1z e) (g1.keep fun o e=>x1 _ o D.l1z e) hu fun e2 m2 s2=>Γ ?_);have x2:=s2.extBut;have o2:IsPair e2 to p q:=x2 _ _ D.TOi1 (x1 _ _ D.TOz ho);refine ζ (sk o2 rfl ?_);refine ζ (zp o2 fun e3 o3 s3=>?_);replace o3:IsPair e3 to u q:=o3;have x3:=s3.extBut;refine ζ (wpAny_letGo (Γ ?_));refine ζ (ζ (wx ?_));show ik _ _ (kf (.ref j2) >>= fun _=>_) _ _ _;refine ζ (aDf (h2.keep fun o e=>x3 _ o D.TOi2.symm (x2 _ o D.i12.symm (x1 _ o D.i2z e))) (g2.keep fun o e=>x3 _ o D.l2TO (x2 _ o D.l2i1 (x1 _ o D.l2z e))) hv fun e4 m4 s4=>Γ ?_);have x4:=s4.extBut;have o4:IsPair e4 to u q:=x4 _ _ D.TOi2 o3;refine ζ (sk o4 rfl ?_);refine ζ (zp o4 fun e5 o5 s5=>?_);replace o5:IsPair e5 to u v:=o5;have x5:=s5.extBut;refine ζ (wpAny_letGo (Γ (Γ ?_)));refine ζ (sk o5 rfl ?_);refine ζ (wpAny_newTuple ?_);have sz:e5.objs.size=s.heap.objs.size:=by rw[s5.1,s4.1,s3.1,s2.1,s1.1]
 have z5:IsZip e5 z ti to .ellipsis:=x5 _ _ D.TOz.symm (x4 _ _ D.i2z.symm (x3 _ _ D.TOz.symm (x2 _ _ D.i1z.symm z1)));have k5:∀c o,c∉[z,to,j1,j2]->s.heap.get? c=some o->e5.get? c=some o:=fun c o hc e=>by
  simp only[Φ,jp,or_false,not_or]at hc;exact x5 _ _ hc.2.1 (x4 _ _ hc.2.2.2 (x3 _ _ hc.2.1 (x2 _ _ hc.2.2.1 (x1 _ _ hc.1 e))))
 have m25:aN b e5 j1 a1 (n+1):=m2.keep fun o e=>x5 _ o D.TOi1.symm (x4 _ o D.i12 (x3 _ o D.TOi1.symm e));have m45:aN c2 e5 j2 a2 (n+1):=m4.keep fun o e=>x5 _ o D.TOi2.symm e;have lz:z<e5.objs.size:=io z5;show ik _ _ (wq (.ref z) (.ref e5.objs.size) >>= fun _=>_) _ _ _;refine ζ ?_;unfold wq;have z6:IsZip (e5.push { cls:=.type "tuple",data:=.seq #[u,v] }) z ti to .ellipsis:=π _ z5;refine ζ (sr z6 (by simp) fun e7 z7 s7=>?_);replace z7:IsZip e7 z ti to (uc e5.objs.size):=z7;refine sr z7 (by simp) fun e8 z8 s8=>?_;replace z8:IsZip e8 z ti to (uc e5.objs.size):=z8;have up:∀c o,c≠z->e5.get? c=some o->e8.get? c=some o:=fun c o c1 e=>s8.extBut _ _ c1 (s7.extBut _ _ c1 (π _ e));have t8:IsPair e8 e5.objs.size u v:=s8.extBut _ _ (wb lz) (s7.extBut _ _ (wb lz) (iu _ rfl));rw[sz]at z8 t8;refine Γ ⟨_,rfl,Γ ?_⟩;rw[sz];exact k e8 z8 (up _ _ D.TOz o5) (m25.keep fun o e=>up _ o D.i1z e) (m45.keep fun o e=>up _ o D.i2z e) t8 fun c o hc e=>up c o (fun x=>hc (by simp[x])) (k5 c o hc e)
theorem aRh{Q:Option Value->ξ->Prop}(hh:A.handled=none)(D:ZipApart z ti to j1 j2 a1 a2)(hz:ZpM b c2 s.heap z ti to j1 j2 a1 a2 n)
  (g1:zQ b s.heap a1 us)(g2:zQ c2 s.heap a2 vs)(hend:us[n]?=none\/vs[n]?=none)
  (k:∀g,(∀c o,c∉[z,to,j1,j2]->s.heap.get? c=some o->g.get? c=some o)->Q none { s with heap:=g }):ik (ir P w) A (pyNext (.ref z)) Q E s:=by
 obtain⟨hz,hi,⟨p,q,ho⟩,h1,h2⟩:=hz;have ty:s.TypeIs (.ref z) "zip":=⟨_,hz,rfl⟩;have nx:∀c,c∉[z,to,j1,j2]->c≠z/\c≠to/\c≠j1/\c≠j2:=fun c hc=>by simpa only[Φ,jp,or_false,not_or] using hc
 unfold pyNext;refine ζ (zh (wpAny_callSpecial?_slot (name:=ε "__next__") ty F.slot_zip_next (uh F.slot_zip_next ty F.entry_zip_next ?_ (F.args_zip_next_1 _))));show ik _ _ (field (.ref z) 2 >>= fun _=>_) _ _ _;refine ζ (nj hz rfl (x:=.bool false) rfl ?_);show ik _ _ (field (.ref z) 3 >>= fun _=>_) _ _ _;refine ζ (nj hz rfl (x:=.ref ti) rfl ?_);refine ζ (sk hi rfl ?_);show ik _ _ (oq (.ref z) >>= fun _=>_) _ _ _;refine ζ ?_;unfold oq;refine ζ (nj hz rfl (x:=mn) rfl (Γ ?_));simp only[if_true];refine ζ (wpAny_rule ?_);refine ζ (nj hz rfl (x:=.ref to) rfl ?_);refine ζ (sr hz (by simp) fun e1 z1 s1=>?_);replace z1:IsZip e1 z ti to .ellipsis:=z1;refine ζ ?_;simp only[List.zipIdx_cons,List.zipIdx_nil,List.forIn_cons,List.forIn_nil];have x1:=s1.extBut;refine ζ (ζ (wx ?_));show ik _ _ (kf (.ref j1) >>= fun _=>_) _ _ _;cases hu:us[n]? with
 |none =>
  refine ζ (aPh hh (h1.keep fun o e=>x1 _ o D.i1z e) (g1.keep fun o e=>x1 _ o D.l1z e) hu fun e2 x s2 hx=>?_);obtain⟨ox,ex,cx⟩:=hx;have z2:IsZip e2 z ti to .ellipsis:=s2 _ _ D.i1z.symm z1;have nz:x≠z:=fun y=>by subst y;rw[z2]at ex;cases ex;simp at cx
  refine sr z2 (by simp) fun e3 _ s3=>?_;refine ζ (ze (T:="StopIteration") (b:=true) ⟨ox,s3.extBut _ _ nz ex,cx⟩ isSubtype_stop ?_);refine Γ (k _ fun c o hc e=>?_);exact s3.extBut _ _ (nx c hc).1 (s2 _ _ (nx c hc).2.2.1 (x1 _ _ (nx c hc).1 e))
 |some u =>
  have hv:vs[n]?=none:=by
   rcases hend with y|y
   ·rw[hu]at y;cases y
   ·exact y
  refine ζ (aDf (h1.keep fun o e=>x1 _ o D.i1z e) (g1.keep fun o e=>x1 _ o D.l1z e) hu fun e2 m2 s2=>Γ ?_);have x2:=s2.extBut;have o2:IsPair e2 to p q:=x2 _ _ D.TOi1 (x1 _ _ D.TOz ho);refine ζ (sk o2 rfl ?_);refine ζ (zp o2 fun e3 o3 s3=>?_);have x3:=s3.extBut;refine ζ (wpAny_letGo (Γ ?_));refine ζ (ζ (wx ?_));show ik _ _ (kf (.ref j2) >>= fun _=>_) _ _ _;refine ζ (aPh hh (h2.keep fun o e=>x3 _ o D.TOi2.symm (x2 _ o D.i12.symm (x1 _ o D.i2z e))) (g2.keep fun o e=>x3 _ o D.l2TO (x2 _ o D.l2i1 (x1 _ o D.l2z e))) hv fun e4 x s4 hx=>?_);obtain⟨ox,ex,cx⟩:=hx;have z4:IsZip e4 z ti to .ellipsis:=s4 _ _ D.i2z.symm (x3 _ _ D.TOz.symm (x2 _ _ D.i1z.symm z1));have nz:x≠z:=fun y=>by subst y;rw[z4]at ex;cases ex;simp at cx
  refine sr z4 (by simp) fun e5 _ s5=>?_;refine ζ (ze (T:="StopIteration") (b:=true) ⟨ox,s5.extBut _ _ nz ex,cx⟩ isSubtype_stop ?_);refine Γ (k _ fun c o hc e=>?_);exact s5.extBut _ _ (nx c hc).1 (s4 _ _ (nx c hc).2.2.2 (x3 _ _ (nx c hc).2.1 (x2 _ _ (nx c hc).2.2.1 (x1 _ _ (nx c hc).1 e))))
end
abbrev zp3M (b c2:Bool) (h:kq) (a1 a2:Addr):kq:=(zp1 c2 (zp1 b h a1) a2).push { cls:=.type "tuple",data:=.seq #[.ref h.objs.size,.ref (zp1 b h a1).objs.size] }
abbrev zp4M (b c2:Bool) (h:kq) (a1 a2:Addr):kq:=(zp3M b c2 h a1 a2).push { cls:=.type "tuple",data:=.seq #[.none,.none] }
abbrev aGw (b c2:Bool) (h:kq) (a1 a2:Addr):kq:=(zp4M b c2 h a1 a2).push { cls:=.type "zip",data:=.fields #[.none,.bool false,.bool false,.ref (zp1 c2 (zp1 b h a1) a2).objs.size,.ref (zp3M b c2 h a1 a2).objs.size] }
theorem aKe(b c2:Bool)(a1 a2:Addr)(us vs:Array Value):Meets (su.«zip.__new__» ⟨[.type "zip",.ref a1,.ref a2],[]⟩) (fun _ R s=>zQ b s.heap a1 us/\zQ c2 s.heap a2 vs/\R (.ok (.ret (.ref (zp4M b c2 s.heap a1 a2).objs.size))) { s with heap:=aGw b c2 s.heap a1 a2 }) :=
 .of_wp fun prog w A R s h=>by
  obtain⟨hp,g,d,tk,os⟩:=s;obtain⟨k1,k2,h⟩:=h;have hsub:=sub_zip;cases b <;> cases c2
  ·have y1:kq.IsList (vy ⟨hp,g,d,tk,os⟩) a1 us:=k1;have y2:kq.IsList (vy ⟨hp.push { cls:=.type "list_iterator",data:=.fields #[.ref a1,.int 0 0] },g,d,tk,os⟩) a2 vs:=kq.IsList.push k2 _
   wp_walk using qw y1,qw y2
   exact⟨_,rfl,h⟩
  ·have y1:kq.IsList (vy ⟨hp,g,d,tk,os⟩) a1 us:=k1;have y2:yi (vy ⟨hp.push { cls:=.type "list_iterator",data:=.fields #[.ref a1,.int 0 0] },g,d,tk,os⟩) a2 vs:=yi.push k2 _
   wp_walk using qw y1,sf y2
   exact⟨_,rfl,h⟩
  ·have y1:yi (vy ⟨hp,g,d,tk,os⟩) a1 us:=k1;have y2:kq.IsList (vy ⟨hp.push { cls:=.type "tuple_iterator",data:=.fields #[.ref a1,.int 0 0] },g,d,tk,os⟩) a2 vs:=kq.IsList.push k2 _
   wp_walk using sf y1,qw y2
   exact⟨_,rfl,h⟩
  ·have y1:yi (vy ⟨hp,g,d,tk,os⟩) a1 us:=k1;have y2:yi (vy ⟨hp.push { cls:=.type "tuple_iterator",data:=.fields #[.ref a1,.int 0 0] },g,d,tk,os⟩) a2 vs:=yi.push k2 _
   wp_walk using sf y1,sf y2
   exact⟨_,rfl,h⟩
section
variable {P:jy}{w:mf}{A:kg}{E:Value->ξ->Prop}{s:ξ}
theorem aNw{Q:Value->ξ->Prop}(k1:zQ b s.heap a1 us)(k2:zQ c2 s.heap a2 vs)
  (h:∀g,ZpM b c2 g (s.heap.objs.size+4) (s.heap.objs.size+2) (s.heap.objs.size+3) s.heap.objs.size (s.heap.objs.size+1) a1 a2 0->(∀c o,s.heap.get? c=some o->g.get? c=some o)->Q (.ref (s.heap.objs.size+4)) { s with heap:=g }):
  ik (ir P w) A (call (.type "zip") [.ref a1,.ref a2]) Q E s:=by
 refine callType_new F.called_zip (by decide) (F.typeCall_zip_2 _ _) (F.newCall_zip_2 _ _) (fun obj=>F.args_object_init_3 obj _ _) F.entry_zip_new (aKe b c2 a1 a2 us vs) ⟨k1,k2,?_⟩;have z1:(zp1 b s.heap a1).objs.size=s.heap.objs.size+1:=pq ..;have z2:(zp1 c2 (zp1 b s.heap a1) a2).objs.size=s.heap.objs.size+2:=by rw[pq,z1]
 have z3:(zp3M b c2 s.heap a1 a2).objs.size=s.heap.objs.size+3:=by rw[pq,z2]
 have z4:(zp4M b c2 s.heap a1 a2).objs.size=s.heap.objs.size+4:=by rw[pq,z3]
 have up:=fun {h:kq}{c:Addr}{x:Obj}(o:Obj) (e:h.get? c=some x)=>π o e;have g5:(aGw b c2 s.heap a1 a2).get? (zp4M b c2 s.heap a1 a2).objs.size=some _:=iu _ rfl;have g4:(aGw b c2 s.heap a1 a2).get? (zp3M b c2 s.heap a1 a2).objs.size=some _:=up _ (iu _ rfl);have g3:(aGw b c2 s.heap a1 a2).get? (zp1 c2 (zp1 b s.heap a1) a2).objs.size=some _:=up _ (up _ (iu _ rfl));have g2:(aGw b c2 s.heap a1 a2).get? (zp1 b s.heap a1).objs.size=some _:=up _ (up _ (up _ (iu _ rfl)));have g1:(aGw b c2 s.heap a1 a2).get? s.heap.objs.size=some _:=up _ (up _ (up _ (up _ (iu _ rfl))));show _/\_;rw[z2,z3,z4]at g5;rw[z1,z2]at g3;rw[z3]at g4;rw[z1]at g2;rw[z4];refine⟨⟨_,g5,rfl⟩,h _ ⟨g5,g3,⟨_,_,g4⟩,?_,?_⟩ fun c o x=>up _ (up _ (up _ (up _ (up _ x))))⟩
 ·cases b <;> exact⟨_,g1,rfl,rfl⟩
 ·cases c2 <;> exact⟨_,g2,rfl,rfl⟩
end
def ItzM (K:υ) (b c2:Bool) (a1 a2:Addr):It :=
 ⟨fun i H=>∃xs ys x y,Sq2 K b H a1 xs/\Sq2 K c2 H a2 ys/\xs[i]?=some x/\ys[i]?=some y,
   fun i H v H'=>∃x y p,v=.ref p/\H p=none/\H'=upd H p (.tup [x,y])/\(∀xs,Sq2 K b H a1 xs->xs[i]?=some x)/\∀ys,Sq2 K c2 H a2 ys->ys[i]?=some y,
   fun i H=>∃xs ys,Sq2 K b H a1 xs/\Sq2 K c2 H a2 ys/\(xs.length<=i\/ys.length<=i)⟩
theorem aHe{K:υ}(D:ZipApart z ti to j1 j2 a1 a2):
  Turn P w K (.Tuple elts x1 pos) (ItzM K b c2 a1 a2) [z,ti,to,j1,j2] z (fun i h=>ZpM b c2 h z ti to j1 j2 a1 a2 i) where
 mem:=by simp
 obj:=fun i h st c hc=>by
  obtain⟨hz,hi,⟨p,q,ho⟩,h1,h2⟩:=st;have:c=z\/c=ti\/c=to\/c=j1\/c=j2:=by simpa using hc
  rcases this with rfl|rfl|rfl|rfl|rfl
  ·exact⟨_,hz,fun v z=>by cases z⟩
  ·exact⟨_,hi,fun v z=>by cases z⟩
  ·exact⟨_,ho,fun v z=>by cases z⟩
  ·exact h1.obj
  ·exact h2.obj
 keep:=fun i h h' st k=>by
  obtain⟨hz,hi,⟨p,q,ho⟩,h1,h2⟩:=st;exact⟨k z (by simp) _ hz,k ti (by simp) _ hi,⟨p,q,k to (by simp) _ ho⟩,h1.keep fun o e=>k j1 (by simp) o e,h2.keep fun o e=>k j2 (by simp) o e⟩
 item:=by
  intro X hP hw hK hc i pins s σ H E I hf st hg;subst hP hw hK;obtain⟨xs,ys,x,y,hq1,hq2,hx,hy⟩:=hg;obtain⟨is1,r1,p1⟩:=I.seq2 hq1;obtain⟨is2,r2,p2⟩:=I.seq2 hq2;obtain⟨u,hu,ru⟩:=r1.get hx;obtain⟨v,hv,rv⟩:=r2.get hy;refine aOi D st p1 p2 (u:=u) (v:=v) (by simpa using hu) (by simpa using hv) fun g gz go g1 g2 gn gk=>⟨_,rfl,?_⟩;refine wpAny_letOwnedTupleGo_zip gz fun h2 z2 s2=>?_;replace s2:oh z g h2:=s2;have nz:s.heap.objs.size≠z:=wb (io st.z);have t2:IsPair h2 s.heap.objs.size u v:=(s2.2 _ nz).trans gn;have k2:∀c o,c∉[z,to,j1,j2]->s.heap.get? c=some o->h2.get? c=some o:=fun c o hc e=>(s2.2 c (fun q=>hc (by simp[q]))).trans (gk c o hc e);have mem:∀c∈[z,to,j1,j2],c∈[z,ti,to,j1,j2]:=fun c hc=>by
   simp only[Φ,jp,or_false]at hc ⊢;rcases hc with q|q|q|q <;> simp[q]
  refine⟨.ref s.heap.objs.size,upd H s.heap.objs.size (.tup [x,y]),I.turnedL (t':=s.toks) k2 (fun c hc=>hf c (mem c hc)) (ν _) ⟨(by show 2<=ρ;decide),[u,v],.cons ru (.cons rv .nil),_,t2,rfl,_,rfl⟩,rfl,
   ⟨x,y,_,rfl,I.hok.fresh (ν _),rfl,fun zs hz=>by rw[I.seq2_inj hz hq1];exact hx,fun zs hz=>by rw[I.seq2_inj hz hq2];exact hy⟩,
   ⟨z2,k2 ti _ (by simp[D.TIz,D.TITO,D.TIi1,D.TIi2]) st.ti,⟨_,_,(s2.2 to D.TOz).trans go⟩,g1.keep fun o e=>(s2.2 j1 D.i1z).trans e,g2.keep fun o e=>(s2.2 j2 D.i2z).trans e⟩,fun c hc=>?_⟩
  obtain⟨oc,ec,_⟩ : ∃o,s.heap.get? c=some o/\∀v,o.data≠.cell v:=by
   obtain⟨hz,hi,⟨p,q,ho⟩,h1,h2⟩:=st;have:c=z\/c=ti\/c=to\/c=j1\/c=j2:=by simpa using hc
   rcases this with rfl|rfl|rfl|rfl|rfl
   ·exact⟨_,hz,fun v z=>by cases z⟩
   ·exact⟨_,hi,fun v z=>by cases z⟩
   ·exact⟨_,ho,fun v z=>by cases z⟩
   ·exact h1.obj
   ·exact h2.obj
  rw[jZ (jb (io ec))];exact(hf c hc).1
 done:=by
  intro X hP hw hK hc i pins s σ H E I hf st hg;subst hP hw hK;obtain⟨xs,ys,hq1,hq2,hl⟩:=hg;obtain⟨is1,r1,p1⟩:=I.seq2 hq1;obtain⟨is2,r2,p2⟩:=I.seq2 hq2;have e1:=r1.length;have e2:=r2.length;have mem:∀c∈[z,to,j1,j2],c∈[z,ti,to,j1,j2]:=fun c hc=>by
   simp only[Φ,jp,or_false]at hc ⊢;rcases hc with q|q|q|q <;> simp[q]
  refine aRh (I.ok.hd hc) D st p1 p2 ?_ fun g gk=>⟨rfl,I.turnedL0 (t':=s.toks) gk fun c hc=>hf c (mem c hc)⟩;rcases hl with q|q
  ·exact .inl (by simp;omega)
  ·exact .inr (by simp;omega)
 self:=fun _ _ _ _ _ st h=>wpAny_pyIter_zip st.z h
def iZipM (K:υ) (b c2:Bool) (ta:TA):TI:=fun σ H R=>ta σ H fun vs H1=>∃a1 a2 xs ys,vs=[.ref a1,.ref a2]/\Sq2 K b H1 a1 xs/\Sq2 K c2 H1 a2 ys/\R (ItzM K b c2 a1 a2) H1
def aRf (K:υ) (ta:TA):TI:=fun σ H R=>∃b c2,iZipM K b c2 ta σ H R
theorem aMq{a c:Expr}(hg:Gl X "zip")(hm:X.mg "zip" = none)(ha:PA X [a,c] ta)(hs:il [a,c] X.env=(false,eval a X.env)::il [c] X.env:=by rfl)(hs2:il [c] X.env=[(false,eval c X.env)]:=by rfl):
  PI X (.Tuple elts x1 tpos) (.Call (.Name "zip" p) [a,c] [] pos) (aRf X.K ta):=by
 intro pins s σ H R I h;obtain⟨b,c2,h⟩:=h;refine Call_ (lR I hg hm (show lm "zip" = some (.type "zip") from by ac_rfl) (rj (thn (ha pos pins s σ H _ I h) fun us s1 zq=>?_) (by rw[hs,hs2]) (by rw[hs2];rfl)));obtain⟨vs,H1,I1,r1,q1⟩:=zq;obtain⟨a1,a2,xs,ys,e,h1,h2,q⟩:=q1;subst e;obtain⟨u,v,rfl,rx,ry⟩:=vals2 r1;cases rx;cases ry;obtain⟨is1,v1,p1⟩:=I1.seq2 h1;obtain⟨is2,v2,p2⟩:=I1.seq2 h2;have l1:=p1.lt;have l2:=p2.lt;refine aNw p1 p2 fun g gz gk=>wpAny_pyIter_zip gz.z ?_;have D:ZipApart (s1.heap.objs.size+4) (s1.heap.objs.size+2) (s1.heap.objs.size+3) s1.heap.objs.size (s1.heap.objs.size+1) a1 a2:=by
  have A1:(s1.heap.objs.size:Nat)+4=s1.heap.objs.size+4:=rfl;constructor <;> simp <;> first|exact jb (ς l1 (Nat.le_add_right _ _))|exact jb (ς l2 (Nat.le_add_right _ _))|exact jb l1|exact jb l2|decide
 refine⟨_,_,_,_,H1,rfl,I1.kept (t':=s1.toks) gk,aHe D,gz,fun c hc=>?_,q⟩;have:c=s1.heap.objs.size+4\/c=s1.heap.objs.size+2\/c=s1.heap.objs.size+3\/c=s1.heap.objs.size\/c=s1.heap.objs.size+1:=by simpa using hc
 have ge:s1.heap.objs.size<=c:=by
  rcases this with rfl|rfl|rfl|rfl|rfl <;> first|exact Nat.le_add_right _ _|exact ν _
 exact I1.fpOk ge (I1.hok.fresh ge)
end L2
namespace L2
open PySem
def yL:Str:=ε "tag"
def iG (fs:List (Str×Kd)) (ds:List ο):List (ο×ο):=jj (fun (f:Str×Kd) (d:ο)=>(px f.1,d)) fs ds
def dA:Kd->List (Str×Kd)->List ο->ο
 |.many _ _,_,ds=>.list ds
 |_,fs,ds=>.dict (iG fs ds)
def aIi:ο->List ο
 |.list ds=>ds
 |.dict kvs=>kvs.map (·.2)
 |_=>[]
def aL (c:Kd->ο->Prop):List (Str×Kd)->List ο->Prop
 |[],[]=>True
 |f::fs,d::ds=>c f.2 d/\aL c fs ds
 |_,_=>False
def Can (S:List Shp):Nat->Kd->ο->Prop
 |_,.num w,d=>∃v:Nat,d=.int v/\v<256 ^ w
 |0,_,_=>False
 |n+1,.pick is,d=>∃(j i:Nat) (e:ο),is[j]?=some i/\d=.tuple [.int j,e]/\Can S n (.nest i) e
 |n+1,.nest i,d=>∃ds,d=dA (.nest i) ((Kd.nest i).parts S) ds/\aL (Can S n) ((Kd.nest i).parts S) ds
 |n+1,.many m k,d=>∃ds,d=dA (.many m k) ((Kd.many m k).parts S) ds/\aL (Can S n) ((Kd.many m k).parts S) ds
def Kd.Pd (k:Kd):Prop:=(∃i,k=.nest i)\/∃n q,k=.many n q
theorem zN{n:Nat}{k:Kd}(hk:k.Pd):Can S (n+1) k d ↔ ∃ds,d=dA k (k.parts S) ds/\aL (Can S n) (k.parts S) ds:=by
 rcases hk with⟨i,rfl⟩|⟨m,q,rfl⟩ <;> exact Iff.rfl
theorem aL.len : ∀{fs:List (Str×Kd)}{ds:List ο},aL c fs ds->fs.length=ds.length
 |[],[],_=>rfl
 |_::_,_::_,h=>congrArg (·+1) (aL.len h.2)
theorem aL.get{c:Kd->ο->Prop}: ∀{fs:List (Str×Kd)}{ds:List ο}{i:Nat}{f:Str×Kd},aL c fs ds->fs[i]?=some f->∃d,ds[i]?=some d/\c f.2 d
 |_::_,d::_,0,_,h,e=>by cases e;exact⟨d,rfl,h.1⟩
 |_::_,_::_,i+1,f,h,e=>aL.get (i:=i) (f:=f) h.2 e
theorem aL.app : ∀{fs gs:List (Str×Kd)}{ds es:List ο},aL c fs ds->aL c gs es->aL c (fs++gs) (ds++es)
 |[],_,[],_,_,h=>h
 |_::_,_,_::_,_,h,g=>⟨h.1,aL.app h.2 g⟩
theorem aGk{k:Kd}(hk:k.Pd){ds:List ο}(h:(k.parts S).length=ds.length):aIi (dA k (k.parts S) ds)=ds:=by
 have z:∀(fs:List (Str×Kd)) (ds:List ο),fs.length=ds.length->(iG fs ds).map (·.2)=ds:=by
  intro fs
  induction fs with
  |nil=>intro ds e;cases ds with|nil=>rfl|cons _ _=>cases e
  |cons f fs ih=>intro ds e;cases ds with
   |nil=>cases e
   |cons d ds=>show d::_=_;exact congrArg (d :: ·) (ih ds (qq e))
 rcases hk with⟨i,rfl⟩|⟨m,q,rfl⟩
 ·exact z _ _ h
 ·rfl
def flL (f:Kd->Str->ο->List (Str×Int)):List (Str×Kd)->Str->List ο->List (Str×Int)
 |q::fs,p,d::ds=>f q.2 (pj p q.1) d++flL f fs p ds
 |_,_,_=>[]
def flv (S:List Shp):Nat->Kd->Str->ο->List (Str×Int)
 |_,.num _,p,.int v=>[(p,v)]
 |0,_,_,_=>[]
 |n+1,.pick is,p,.tuple [.int j,e]=>(pj p yL,j)::flv S n (.nest (is.getD j.toNat 0)) (pj p (kL S (is.getD j.toNat 0))) e
 |n+1,k,p,d=>flL (flv S n) (k.parts S) p (aIi d)
theorem lW{n:Nat}{k:Kd}(hk:k.Pd)(p:Str){ds:List ο}(h:(k.parts S).length=ds.length):flv S (n+1) k p (dA k (k.parts S) ds)=flL (flv S n) (k.parts S) p ds:=by
 have e:flv S (n+1) k p (dA k (k.parts S) ds)=flL (flv S n) (k.parts S) p (aIi (dA k (k.parts S) ds)):=by
  rcases hk with⟨i,rfl⟩|⟨m,q,rfl⟩ <;> rfl
 rw[e,aGk hk h]
theorem nV(p:Str):∀{fs gs:List (Str×Kd)}{ds es:List ο},fs.length=ds.length->flL f (fs++gs) p (ds++es)=flL f fs p ds++flL f gs p es
 |[],_,[],_,_=>rfl
 |q::fs,gs,d::ds,es,h=>by
  show f q.2 (pj p q.1) d++flL f (fs++gs) p (ds++es)=(f q.2 (pj p q.1) d++flL f fs p ds)++flL f gs p es;rw[nV p (qq h),mi]
def xJ (q:Str×Int):ο:=.tuple [.str q.1,.int q.2]
def gP:ο->Bool
 |.tuple [.str _,.int _]=>true
 |_=>false
def nx (p:Str) (b:Int):List ο->Option Int
 |.tuple [.str q,.int v]::_=>if q=p/\0<=v/\v<b then some v else none
 |_=>none
def rdL (f:Kd->Str->List ο->Option (ο×Nat)):List (Str×Kd)->Str->List ο->Option (List ο×Nat)
 |[],_,_=>some ([],0)
 |q::fs,p,l=>(f q.2 (pj p q.1) l).bind fun x=>(rdL f fs p (l.drop x.2)).map fun y=>(x.1::y.1,x.2+y.2)
def rdv (S:List Shp):Nat->Kd->Str->List ο->Option (ο×Nat)
 |_,.num w,p,l=>(nx p (256 ^ w) l).map fun v=>(.int v,1)
 |0,_,_,_=>none
 |n+1,.pick is,p,l=>(nx (pj p yL) is.length l).bind fun j=>(rdv S n (.nest (is.getD j.toNat 0)) (pj p (kL S (is.getD j.toNat 0))) (l.drop 1)).map fun x=>(.tuple [.int j,x.1],1+x.2)
 |n+1,.nest i,p,l=>(rdL (rdv S n) ((Kd.nest i).parts S) p l).map fun x=>(dA (.nest i) ((Kd.nest i).parts S) x.1,x.2)
 |n+1,.many m k,p,l=>(rdL (rdv S n) ((Kd.many m k).parts S) p l).map fun x=>(dA (.many m k) ((Kd.many m k).parts S) x.1,x.2)
theorem iV{n:Nat}{k:Kd}(hk:k.Pd)(p:Str)(l:List ο):rdv S (n+1) k p l=(rdL (rdv S n) (k.parts S) p l).map fun x=>(dA k (k.parts S) x.1,x.2):=by
 rcases hk with⟨i,rfl⟩|⟨m,q,rfl⟩ <;> rfl
theorem tX(p:Str):∀(a b:List (Str×Kd)) (l:List ο),rdL f (a++b) p l=(rdL f a p l).bind fun x=>(rdL f b p (l.drop x.2)).map fun y=>(x.1++y.1,x.2+y.2)
 |[],b,l=>by
  show rdL f b p l=(rdL f b p (l.drop 0)).map fun y=>([]++y.1,0+y.2);rw[yh];cases rdL f b p l with
  |none=>rfl
  |some y=>show some y=some ([]++y.1,0+y.2);rw[List.nil_append,Nat.zero_add]
 |q::a,b,l=>by
  show(f q.2 (pj p q.1) l).bind _=((f q.2 (pj p q.1) l).bind _).bind _;cases f q.2 (pj p q.1) l with
  |none=>rfl
  |some x =>
   show(rdL f (a++b) p (l.drop x.2)).map _=((rdL f a p (l.drop x.2)).map _).bind _;rw[tX p a b];cases rdL f a p (l.drop x.2) with
   |none=>rfl
   |some y =>
    show((rdL f b p ((l.drop x.2).drop y.2)).map _).map _=(rdL f b p (l.drop (x.2+y.2))).map _;rw[vz];cases rdL f b p (l.drop (x.2+y.2)) with
    |none=>rfl
    |some z=>show some (x.1::(y.1++z.1),x.2+(y.2+z.2))=some (x.1::y.1++z.1,x.2+y.2+z.2);rw[Nat.add_assoc];rfl
theorem rA{f:Kd->Str->List ο->Option (ο×Nat)}{fs:List (Str×Kd)}{j:Nat}{ds:List ο}{m:Nat}(hq:fs[j]?=some q)(h:rdL f (fs.take j) p l=some (ds,m)):
  (f q.2 (pj p q.1) (l.drop m)=none->rdL f fs p l=none)/\∀d m',f q.2 (pj p q.1) (l.drop m)=some (d,m')->rdL f (fs.take (j+1)) p l=some (ds++[d],m+m'):=by
 have e:=(oC hq).1;refine⟨fun z=>?_,fun d m' z=>?_⟩
 ·rw[e,tX,h];show(rdL f (q::fs.drop (j+1)) p (l.drop m)).map _=none;show((f q.2 (pj p q.1) (l.drop m)).bind _).map _=none;rw[z];rfl
 ·rw[jt,hq];show rdL f (fs.take j++[q]) p l=_;rw[tX,h];show((f q.2 (pj p q.1) (l.drop m)).bind _).map _=_;rw[z];rfl
theorem eR{p:Str}{b:Int}{l:List ο}(h:nx p b l=some v): 0<=v/\v<b/\∃r,l=xJ (p,v)::r:=by
 unfold nx at h
 split at h
 ·split at h
  ·rename_i q u r c;cases h;exact⟨c.2.1,c.2.2,r,by rw[c.1];rfl⟩
  ·cases h
 ·cases h
theorem uV{p:Str}{b v:Int}{r:List ο}(h0 : 0<=v)(h1:v<b):nx p b (xJ (p,v)::r)=some v:=if_pos ⟨rfl,h0,h1⟩
theorem aCo : ∀{n:Nat}{k:Kd}{p:Str}{l:List ο}{d:ο}{m:Nat},rdv S n k p l=some (d,m)->m<=l.length/\∀x∈l.take m,gP x=true:=by
 have num:∀{w:Nat}{p:Str}{l:List ο}{d:ο}{m:Nat},((nx p (256 ^ w) l).map fun v=>(ο.int v,1))=some (d,m)->m<=l.length/\∀x∈l.take m,gP x=true:=by
  intro w p l d m h;cases e:nx p (256 ^ w) l with
  |none=>rw[e]at h;cases h
  |some v =>
   rw[e]at h;cases h;obtain⟨_,_,r,rfl⟩:=eR e;exact⟨ug (iy _),fun x hx=>by rw[Ψ.mp (show x∈[xJ (p,v)] from hx)];rfl⟩
 intro n
 induction n with
 |zero=>intro k p l d m h;cases k with
  |num w=>exact num h
  |_=>cases h
 |succ n ih =>
  have ls:∀(fs:List (Str×Kd)) (p:Str) (l:List ο) (ds:List ο) (m:Nat),rdL (rdv S n) fs p l=some (ds,m)->m<=l.length/\∀x∈l.take m,gP x=true:=by
   intro fs
   induction fs with
   |nil=>intro p l ds m h;cases h;exact⟨iy _,fun x hx=>by cases hx⟩
   |cons q fs ihl =>
    intro p l ds m h;have h':(rdv S n q.2 (pj p q.1) l).bind (fun x=>(rdL (rdv S n) fs p (l.drop x.2)).map fun y=>(x.1::y.1,x.2+y.2))=some (ds,m):=h;cases e:rdv S n q.2 (pj p q.1) l with
    |none=>rw[e]at h';cases h'
    |some x =>
     rw[e]at h';have h2:(rdL (rdv S n) fs p (l.drop x.2)).map (fun y=>(x.1::y.1,x.2+y.2))=some (ds,m):=h';cases e2:rdL (rdv S n) fs p (l.drop x.2) with
     |none=>rw[e2]at h2;cases h2
     |some y =>
      rw[e2]at h2;cases h2;obtain⟨a1,a2⟩:=ih e;obtain⟨b1,b2⟩:=ihl p _ _ _ e2;rw[zb]at b1;refine⟨by omega,fun z hz=>?_⟩;rw[List.take_add]at hz;rcases km.mp hz with hz|hz
      ·exact a2 z hz
      ·exact b2 z hz
  have pd:∀{k:Kd}(hk:k.Pd) {p:Str}{l:List ο}{d:ο}{m:Nat},rdv S (n+1) k p l=some (d,m)->m<=l.length/\∀x∈l.take m,gP x=true:=by
   intro k hk p l d m h;rw[iV hk]at h;cases e:rdL (rdv S n) (k.parts S) p l with
   |none=>rw[e]at h;cases h
   |some y=>rw[e]at h;cases h;exact ls _ _ _ _ _ e
  intro k p l d m h;cases k with
  |num w=>exact num h
  |nest i=>exact pd (.inl ⟨i,rfl⟩) h
  |many c q=>exact pd (.inr ⟨c,q,rfl⟩) h
  |pick is =>
   have h':(nx (pj p yL) is.length l).bind (fun j=>(rdv S n (.nest (is.getD j.toNat 0)) (pj p (kL S (is.getD j.toNat 0))) (l.drop 1)).map fun x=>(yj [.int j,x.1],1+x.2))=some (d,m):=h;cases e:nx (pj p yL) is.length l with
   |none=>rw[e]at h';cases h'
   |some j =>
    rw[e]at h';have h2:(rdv S n (.nest (is.getD j.toNat 0)) (pj p (kL S (is.getD j.toNat 0))) (l.drop 1)).map (fun x=>(yj [.int j,x.1],1+x.2))=some (d,m):=h';cases e2:rdv S n (.nest (is.getD j.toNat 0)) (pj p (kL S (is.getD j.toNat 0))) (l.drop 1) with
    |none=>rw[e2]at h2;cases h2
    |some x =>
     rw[e2]at h2;cases h2;obtain⟨b1,b2⟩:=ih e2;obtain⟨_,_,r,rfl⟩:=eR e;have b1':x.2<=r.length:=b1;refine⟨by show 1+x.2<=r.length+1;omega,fun z hz=>?_⟩;rw[Nat.add_comm]at hz;rcases Φ.mp (show z∈xJ (pj p yL,j)::r.take x.2 from hz) with rfl|hz
     ·rfl
     ·exact b2 z hz
theorem aMc(hG:Good S):∀{n:Nat}{k:Kd}{d:ο},k.Fit S.length->Can S n k d->∀(p:Str) (tl:List ο),rdv S n k p ((flv S n k p d).map xJ++tl)=some (d,(flv S n k p d).length):=by
 have num:∀{n w:Nat}{d:ο},Can S n (.num w) d->∀(p:Str) (tl:List ο),rdv S n (.num w) p ((flv S n (.num w) p d).map xJ++tl)=some (d,(flv S n (.num w) p d).length):=by
  intro n w d h p tl;have h':∃v:Nat,d=.int v/\v<256 ^ w:=by cases n <;> exact h
  obtain⟨v,rfl,hv⟩:=h';have e:flv S n (.num w) p (.int v)=[(p,(v:Int))]:=by cases n <;> rfl
  have e2:∀l,rdv S n (.num w) p l=(nx p (256 ^ w) l).map fun v=>(.int v,1):=by intro l;cases n <;> rfl
  rw[e,e2];show(nx p (256 ^ w) (xJ (p,(v:Int))::tl)).map _=_;rw[uV (xm _) (by exact_mod_cast hv)];rfl
 intro n
 induction n with
 |zero=>intro k d _ h;cases k with
  |num w=>exact num h
  |_=>exact h.elim
 |succ n ih =>
  have ls:∀(fs:List (Str×Kd)) (ds:List ο),(∀f∈fs,f.2.Fit S.length)->aL (Can S n) fs ds->∀(p:Str) (tl:List ο),rdL (rdv S n) fs p ((flL (flv S n) fs p ds).map xJ++tl)=some (ds,(flL (flv S n) fs p ds).length):=by
   intro fs
   induction fs with
   |nil=>intro ds _ h p tl;cases ds with
    |nil=>rfl
    |cons _ _=>exact h.elim
   |cons q fs ihl=>intro ds hf h p tl;cases ds with
    |nil=>exact h.elim
    |cons d ds =>
     obtain⟨h1,h2⟩:=h;have e:(flL (flv S n) (q::fs) p (d::ds)).map xJ++tl=(flv S n q.2 (pj p q.1) d).map xJ++((flL (flv S n) fs p ds).map xJ++tl):=by
      show(flv S n q.2 (pj p q.1) d++flL (flv S n) fs p ds).map xJ++tl=_;rw[χ,mi]
     rw[e];show(rdv S n q.2 (pj p q.1) ((flv S n q.2 (pj p q.1) d).map xJ++((flL (flv S n) fs p ds).map xJ++tl))).bind _=some (d::ds,((flv S n q.2 (pj p q.1) d)++flL (flv S n) fs p ds).length);rw[ih (hf q (Ω ..)) h1];show(rdL (rdv S n) fs p (((flv S n q.2 (pj p q.1) d).map xJ++((flL (flv S n) fs p ds).map xJ++tl)).drop (flv S n q.2 (pj p q.1) d).length)).map _=_;rw[List.drop_left' (by rw[δ]),ihl ds (fun f hf'=>hf f (Ξ _ hf')) h2,ι];rfl
  have pd:∀{k:Kd}(hk:k.Pd) (hf:k.Fit S.length) {d:ο},Can S (n+1) k d->(∀f∈k.parts S,f.2.Fit S.length)->∀(p:Str) (tl:List ο),rdv S (n+1) k p ((flv S (n+1) k p d).map xJ++tl)=some (d,(flv S (n+1) k p d).length):=by
   intro k hk hf d h hfs p tl;obtain⟨ds,rfl,hc⟩:=(zN hk).mp h;rw[lW hk p hc.len,iV hk,ls _ _ hfs hc];rfl
  intro k d hf h;cases k with
  |num w=>exact num h
  |nest i =>
   refine pd (.inl ⟨i,rfl⟩) hf h fun f hf'=>?_;exact(Kd.parts_ok hG hf (hf.rk.mono (qv _)) hf').2.1
  |many c q =>
   refine pd (.inr ⟨c,q,rfl⟩) hf h fun f hf'=>?_;exact(Kd.parts_ok hG hf (hf.rk.mono (qv _)) hf').2.1
  |pick is =>
   intro p tl;obtain⟨j,i,e,hi,rfl,hc⟩ : ∃(j i:Nat) (e:ο),is[j]?=some i/\d=.tuple [.int j,e]/\Can S n (.nest i) e:=h;have eg:is.getD ((j:Int).toNat) 0=i:=by rw[nq,ω,hi];rfl
   have ef:flv S (n+1) (.pick is) p (.tuple [.int j,e])=(pj p yL,(j:Int))::flv S n (.nest i) (pj p (kL S i)) e:=by
    show _::flv S n (.nest (is.getD ((j:Int).toNat) 0)) (pj p (kL S (is.getD ((j:Int).toNat) 0))) e=_;rw[eg]
   have hj:j<is.length:=(η.mp hi).1;rw[ef];show(nx (pj p yL) is.length (xJ (pj p yL,(j:Int))::((flv S n (.nest i) (pj p (kL S i)) e).map xJ++tl))).bind _=_;rw[uV (xm _) (by exact_mod_cast hj)];show(rdv S n (.nest (is.getD ((j:Int).toNat) 0)) (pj p (kL S (is.getD ((j:Int).toNat) 0))) ((flv S n (.nest i) (pj p (kL S i)) e).map xJ++tl)).map _=_;rw[eg,ih (k:=.nest i) (hf.2.2.2 i (μ hi)) hc];show some (yj [.int j,e],1+_)=some (_,_+1);rw[Nat.add_comm]
def Sml (x:Str):Prop:=x.cps.toList.all (fun c=>decide (c<128))=true
theorem Sml.short(h:Sml x):(px x).leavesShort 200=true:=ji.mpr fun c hc=>decide_eq_true (ς (of_decide_eq_true (ji.mp h c hc)) (by decide))
theorem Sml.ok(h:Sml x):ke (.str x)=true:=by
 have e:ο.canLay0 (.str x)=true:=by
  show x.cps.all (fun c=>decide (c<0x110000))=true;rw[←Array.all_toList];exact ji.mpr fun c hc=>decide_eq_true (ς (of_decide_eq_true (ji.mp h c hc)) (by decide))
 unfold ke;rw[e];rfl
structure NmS (S:List Shp):Prop where
 nm:∀i,i<S.length->(kL S i).length<=6/\Sml (kL S i)
 fd:∀s∈S,∀f∈s.2,Sml f.1
theorem Sml.app(h:Sml x)(g:Sml y):Sml (x++y):=by
 unfold Sml at *;rw[sq,qd,List.all_append,h,g];rfl
theorem Sml.pj(h:Sml p)(g:Sml x):Sml (pj p x):=by
 unfold L2.pj
 split
 ·exact g
 ·exact(h.app (by unfold Sml;ac_rfl)).app g
theorem xO{p x:Str}(h:x.length<=6):(pj p x).length<=p.length+7:=by
 unfold pj
 split
 ·omega
 ·rw[kc,kc];have:(ε ".").length=1:=rfl;omega
theorem aLz:∀j:Nat,j<6->Sml (ε (toString j)):=by
 have:∀j:Fin 6,Sml (ε (toString j.val)):=by unfold Sml;ac_rfl
 exact fun j hj=>this ⟨j,hj⟩
theorem qS{S:List Shp}{i:Nat}(h:S[i]?=some s):(Kd.nest i).parts S=s.2:=by
 show(S.getD i _).2=_;rw[ω,h];rfl
theorem yU(hN:NmS S){k:Kd}(hk:k.Fit S.length){f:Str×Kd}(hf:f∈k.parts S):Sml f.1:=by
 cases k with
 |num w=>cases hf
 |nest i =>
  have hs:S[i]?=some S[i]:=θ (show i<S.length from hk);rw[qS hs]at hf;exact hN.fd _ (md _) f hf
 |many n q =>
  obtain⟨j,hj,rfl⟩:=jf.mp hf;exact aLz j (ς (vk.mp hj) hk.2.1)
 |pick is=>cases hf
theorem pV(hG:Good S){k:Kd}(hp:k.Pd)(hk:k.Fit S.length):((k.parts S).map fun f=>f.2.size (tabs S).sz).sum=k.size (tabs S).sz:=by
 rcases hp with⟨i,rfl⟩|⟨n,q,rfl⟩
 ·have hs:S[i]?=some S[i]:=θ (show i<S.length from hk);rw[qS hs];exact(gR hs fun f hf=>((hG.fit i _ hs) f hf).1.below).1.symm
 ·show(((jg n).map _).map _).sum=n*q.size (tabs S).sz;rw[jw];have:∀n:Nat,((jg n).map fun _=>q.size (tabs S).sz).sum=n*q.size (tabs S).sz:=by
   intro n;rw[List.map_const',List.sum_replicate_nat,jm]
  exact this n
def aDx (p n:Nat) (q:Str×Int):Prop:=q.1.length<=p+8*n/\Sml q.1/\0<=q.2/\q.2<4294967296
theorem aLq{w v:Nat}(hw:w<=4)(h:v<256 ^ w):v<4294967296:=ς h (Θ (Nat.pow_le_pow_right (by decide) hw) (by decide))
theorem aDt(hG:Good S)(hN:NmS S):∀{n:Nat}{k:Kd}{d:ο},k.Fit S.length->k.Rk n->Can S n k d->∀p:Str,Sml p->(flv S n k p d).length<=k.size (tabs S).sz/\∀q∈flv S n k p d,aDx p.length n q:=by
 have num:∀{n w:Nat}{d:ο},(Kd.num w).Fit S.length->Can S n (.num w) d->∀p:Str,Sml p->(flv S n (.num w) p d).length<=(Kd.num w).size (tabs S).sz/\∀q∈flv S n (.num w) p d,aDx p.length n q:=by
  intro n w d hf h p hp;obtain⟨v,rfl,hv⟩ : ∃v:Nat,d=.int v/\v<256 ^ w:=by cases n <;> exact h
  have e:flv S n (.num w) p (.int v)=[(p,(v:Int))]:=by cases n <;> rfl
  rw[e];refine⟨hf.1,fun q hq=>?_⟩;rw[Ψ.mp hq];have:=aLq hf.2 hv;exact⟨by show p.length<=_;omega,hp,xm _,by show(v:Int)<_;omega⟩
 intro n
 induction n with
 |zero=>intro k d hf _ h;cases k with
  |num w=>exact num hf h
  |_=>exact h.elim
 |succ n ih =>
  have ls:∀(fs:List (Str×Kd)) (ds:List ο),(∀f∈fs,f.2.Rk n/\f.2.Fit S.length/\f.1.length<=6/\Sml f.1)->aL (Can S n) fs ds->∀p:Str,Sml p->(flL (flv S n) fs p ds).length<=(fs.map fun f=>f.2.size (tabs S).sz).sum/\∀q∈flL (flv S n) fs p ds,aDx p.length (n+1) q:=by
   intro fs
   induction fs with
   |nil=>intro ds _ h p hp;cases ds with
    |nil=>exact⟨ν _,fun q hq=>by cases hq⟩
    |cons _ _=>exact h.elim
   |cons f fs ihl=>intro ds hf h p hp;cases ds with
    |nil=>exact h.elim
    |cons d ds =>
     obtain⟨a1,a2,a3,a4⟩:=hf f (Ω ..);obtain⟨b1,b2⟩:=ih a2 a1 h.1 (pj p f.1) (hp.pj a4);obtain⟨c1,c2⟩:=ihl ds (fun g hg=>hf g (Ξ _ hg)) h.2 p hp;refine⟨?_,fun q hq=>?_⟩
     ·show(flv S n f.2 (pj p f.1) d++flL (flv S n) fs p ds).length<=_;rw[ι,ju,ud];omega
     ·rcases km.mp (show q∈flv S n f.2 (pj p f.1) d++flL (flv S n) fs p ds from hq) with hq|hq
      ·obtain⟨z1,z2⟩:=b2 q hq;have:=xO (p:=p) a3;exact⟨by omega,z2⟩
      ·exact c2 q hq
  have pd:∀{k:Kd}{d:ο},k.Pd->k.Fit S.length->k.Rk (n+1)->Can S (n+1) k d->∀p:Str,Sml p->(flv S (n+1) k p d).length<=k.size (tabs S).sz/\∀q∈flv S (n+1) k p d,aDx p.length (n+1) q:=by
   intro k d hk hf hr h p hp;obtain⟨ds,rfl,hc⟩:=(zN hk).mp h;rw[lW hk p hc.len,←pV hG hk hf];exact ls _ _ (fun f hf'=>by
    obtain⟨z1,z2,_,z3⟩:=Kd.parts_ok hG hf hr hf';exact⟨z1,z2,z3,yU hN hf hf'⟩) hc p hp
  intro k d hf hr h;cases k with
  |num w=>exact num hf h
  |nest i=>exact pd (.inl ⟨i,rfl⟩) hf hr h
  |many c q=>exact pd (.inr ⟨c,q,rfl⟩) hf hr h
  |pick is =>
   intro p hp;obtain⟨j,i,e,hi,rfl,hc⟩ : ∃(j i:Nat) (e:ο),is[j]?=some i/\d=.tuple [.int j,e]/\Can S n (.nest i) e:=h;have hm:=μ hi;have hl:=hf.2.2.2 i hm;have eg:is.getD ((j:Int).toNat) 0=i:=by rw[nq,ω,hi];rfl
   have ef:flv S (n+1) (.pick is) p (.tuple [.int j,e])=(pj p yL,(j:Int))::flv S n (.nest i) (pj p (kL S i)) e:=by
    show _::flv S n (.nest (is.getD ((j:Int).toNat) 0)) (pj p (kL S (is.getD ((j:Int).toNat) 0))) e=_;rw[eg]
   have hj:j<is.length:=(η.mp hi).1;obtain⟨n6,ns⟩:=hN.nm i hl;obtain⟨b1,b2⟩:=ih (k:=.nest i) hl (show 2*i+2<=n by have:=hr i hm;omega) hc (pj p (kL S i)) (hp.pj ns);rw[ef];have hs:(Kd.nest i).size (tabs S).sz<=xE (is.map fun i=>(tabs S).sz.getD i 0):=eQ (jf.mpr ⟨i,hm,rfl⟩);refine⟨by show _+1<=1+xE _;omega,fun q hq=>?_⟩;rcases Φ.mp hq with rfl|hq
   ·have:=xO (p:=p) (x:=yL) (by decide);have:=hf.2.1;exact⟨by show(pj p yL).length<=_;omega,hp.pj (by unfold Sml;ac_rfl),xm _,by show(j:Int)<_;omega⟩
   ·obtain⟨z1,z2⟩:=b2 q hq;have:=xO (p:=p) n6;exact⟨by omega,z2⟩
structure Sn (d:ο) (w m:Nat):Prop where
 sh:d.showable=true
 ls:d.leavesShort 200=true
 wt:d.weight<=w
 dp:d.depth<=m
structure SnA (ds:List ο) (w m:Nat):Prop where
 sh:ο.showableAll ds=true
 ls:ο.leavesShortAll 200 ds=true
 wt:ο.weightAll ds<=w
 dp:lj ds<=m
structure SnK (ps:List (ο×ο)) (w m:Nat):Prop where
 sh:ο.showableKv ps=true
 ls:ο.leavesShortKv 200 ps=true
 wt:ο.weightKv ps<=w
 dp:uk ps<=m
theorem Sm.sn(h:Sm d w m):Sn d w m:=⟨h.sh,h.ls,h.wt,h.dp⟩
theorem Sn.le{n' m':Nat}(h:Sn d n m)(hn:n<=n')(hm:m<=m'):Sn d n' m':=⟨h.sh,h.ls,Θ h.wt hn,Θ h.dp hm⟩
theorem SnA.nil(m:Nat):SnA [] 0 m:=⟨rfl,rfl,ν _,iy _⟩
theorem SnA.cons{d:ο}{ds:List ο}{n m n':Nat}(h:Sn d n m)(t:SnA ds n' m):SnA (d::ds) (n+1+n') m:=by
 refine⟨?_,?_,?_,?_⟩
 ·show(d.showable&&ο.showableAll ds)=true;rw[h.sh,t.sh];rfl
 ·show(d.leavesShort 200&&ο.leavesShortAll 200 ds)=true;rw[h.ls,t.ls];rfl
 ·show d.weight+1+ο.weightAll ds<=_;have:=h.wt;have:=t.wt;omega
 ·exact Nat.max_le.mpr ⟨h.dp,t.dp⟩
theorem SnA.tup{ds:List ο}{n m:Nat}(t:SnA ds n m):Sn (.tuple ds) n (m+1):=⟨t.sh,t.ls,t.wt,ug t.dp⟩
theorem SnA.lst{ds:List ο}{n m:Nat}(t:SnA ds n m):Sn (.list ds) n (m+1):=⟨t.sh,t.ls,t.wt,ug t.dp⟩
theorem SnK.nil(m:Nat):SnK [] 0 m:=⟨rfl,rfl,ν _,iy _⟩
theorem Sn.str(h:Sml x):Sn (.str x) x.length 0:=⟨rfl,h.short,ν _,ν _⟩
theorem Sn.int32{i:Int}(h0 : -1<=i)(h:i<2 ^ 99):Sn (.int i) 101 0:=(Sm.int (by omega)).sn
theorem SnK.cons{x:Str}{d:ο}{ps:List (ο×ο)}{n m n':Nat}(hx:Sml x)(h:Sn d n m)(t:SnK ps n' m):SnK ((.str x,d)::ps) (x.length+n+2+n') m:=by
 refine⟨?_,?_,?_,?_⟩
 ·show(true&&d.showable&&ο.showableKv ps)=true;rw[h.sh,t.sh];rfl
 ·show((px x).leavesShort 200&&d.leavesShort 200&&ο.leavesShortKv 200 ps)=true;rw[(Sn.str hx).ls,h.ls,t.ls];rfl
 ·show x.cps.size+d.weight+2+ο.weightKv ps<=_;have:=h.wt;have:=t.wt;have e:x.length=x.cps.size:=rfl;omega
 ·exact Nat.max_le.mpr ⟨Nat.max_le.mpr ⟨iy _,h.dp⟩,t.dp⟩
theorem SnK.dct{ps:List (ο×ο)}{n m:Nat}(t:SnK ps n m):Sn (.dict ps) n (m+1):=⟨t.sh,t.ls,t.wt,ug t.dp⟩
theorem Sn.len(h:Sn d n m)(hn:n<=80000):d.shown.length<=ρ:=by
 have h1:=ο.shown_le 200 (by decide) d h.ls;have h2:=h.wt;rw[jk];omega
theorem tW{c t n e:Nat}(hc : 1<=c)(he:e<=100): 120*c*(n+1)+e+120*t*(n+2)<=120*(c+t)*(n+2):=by
 have h1 : 120*c*(n+2)=120*c*(n+1)+120*c:=Nat.mul_succ _ _;have h2 : 120*(c+t)*(n+2)=120*c*(n+2)+120*t*(n+2):=by rw[Nat.mul_add 120 c t,Nat.add_mul]
 rw[h2,h1];omega
theorem aLh(hG:Good S)(hN:NmS S):∀{n:Nat}{k:Kd}{d:ο},k.Fit S.length->k.Rk n->Can S n k d->Sn d (120*k.size (tabs S).sz*(n+1)) (n+1):=by
 have num:∀{n w:Nat}{d:ο},(Kd.num w).Fit S.length->Can S n (.num w) d->Sn d (120*(Kd.num w).size (tabs S).sz*(n+1)) (n+1):=by
  intro n w d hf h;obtain⟨v,rfl,hv⟩ : ∃v:Nat,d=.int v/\v<256 ^ w:=by cases n <;> exact h
  have:=aLq hf.2 hv;refine(Sn.int32 (by omega) (by omega)).le ?_ (iy _);have h1 : 1<=w:=hf.1;have : 120*1*1<=120*(Kd.num w).size (tabs S).sz*(n+1):=Nat.mul_le_mul (Nat.mul_le_mul_left _ h1) (by omega);omega
 intro n
 induction n with
 |zero=>intro k d hf _ h;cases k with
  |num w=>exact num hf h
  |_=>exact h.elim
 |succ n ih =>
  have one:∀{f:Str×Kd}{d:ο},f.2.Rk n->f.2.Fit S.length->Can S n f.2 d->Sn d (120*f.2.size (tabs S).sz*(n+1)) (n+1)/\1<=f.2.size (tabs S).sz:=fun hr hf h=>⟨ih hf hr h,(hG.kd hf).1⟩;have la:∀(fs:List (Str×Kd)) (ds:List ο),(∀f∈fs,f.2.Rk n/\f.2.Fit S.length/\f.1.length<=6/\Sml f.1)->aL (Can S n) fs ds->SnA ds (120*(fs.map fun f=>f.2.size (tabs S).sz).sum*(n+2)) (n+1)/\SnK (iG fs ds) (120*(fs.map fun f=>f.2.size (tabs S).sz).sum*(n+2)) (n+1):=by
   intro fs
   induction fs with
   |nil=>intro ds _ h;cases ds with
    |nil=>exact⟨by simpa using SnA.nil _,by simpa [iG] using SnK.nil _⟩
    |cons _ _=>exact h.elim
   |cons f fs ihl=>intro ds hf h;cases ds with
    |nil=>exact h.elim
    |cons d ds =>
     obtain⟨a1,a2,a3,a4⟩:=hf f (Ω ..);obtain⟨o1,o2⟩:=one a1 a2 h.1;obtain⟨c1,c2⟩:=ihl ds (fun g hg=>hf g (Ξ _ hg)) h.2;rw[ju,ud];have w1:=tW (n:=n) (e:=1) (t:=(fs.map fun f=>f.2.size (tabs S).sz).sum) o2 (by decide);have w2:=tW (n:=n) (e:=f.1.length+2) (t:=(fs.map fun f=>f.2.size (tabs S).sz).sum) o2 (by omega);have k1:=SnA.cons o1 c1;have k2:=SnK.cons a4 o1 c2;exact⟨⟨k1.sh,k1.ls,Θ k1.wt w1,k1.dp⟩,⟨k2.sh,k2.ls,Θ k2.wt (by omega),k2.dp⟩⟩
  have pd:∀{k:Kd}{d:ο},k.Pd->k.Fit S.length->k.Rk (n+1)->Can S (n+1) k d->Sn d (120*k.size (tabs S).sz*(n+1+1)) (n+1+1):=by
   intro k d hk hf hr h;obtain⟨ds,rfl,hc⟩:=(zN hk).mp h;obtain⟨z1,z2⟩:=la _ _ (fun f hf'=>by
    obtain⟨z1,z2,_,z3⟩:=Kd.parts_ok hG hf hr hf';exact⟨z1,z2,z3,yU hN hf hf'⟩) hc
   rw[←pV hG hk hf];rcases hk with⟨i,rfl⟩|⟨m,q,rfl⟩
   ·exact z2.dct
   ·exact z1.lst
  intro k d hf hr h;cases k with
  |num w=>exact num hf h
  |nest i=>exact pd (.inl ⟨i,rfl⟩) hf hr h
  |many c q=>exact pd (.inr ⟨c,q,rfl⟩) hf hr h
  |pick is =>
   obtain⟨j,i,e,hi,rfl,hc⟩ : ∃(j i:Nat) (e:ο),is[j]?=some i/\d=.tuple [.int j,e]/\Can S n (.nest i) e:=h;have hm:=μ hi;have hl:=hf.2.2.2 i hm;have hj:j<is.length:=(η.mp hi).1;have h4:=hf.2.1;have k1:=ih (k:=.nest i) hl (show 2*i+2<=n by have:=hr i hm;omega) hc;have hs:(Kd.nest i).size (tabs S).sz<=xE (is.map fun i=>(tabs S).sz.getD i 0):=eQ (jf.mpr ⟨i,hm,rfl⟩);have w1:=tW (n:=n) (c:=1) (e:=1) (t:=xE (is.map fun i=>(tabs S).sz.getD i 0)) (ν _) (by decide);have k2:=(SnA.cons ((Sn.int32 (i:=(j:Int)) (by omega) (by omega)).le (ν _) (iy _)) (SnA.cons k1 (SnA.nil _))).tup;refine k2.le ?_ (ν _);show 101+1+(120*(Kd.nest i).size (tabs S).sz*(n+1)+1+0)<=120*(1+xE (is.map fun i=>(tabs S).sz.getD i 0))*(n+2);generalize 120*(1+xE (is.map fun i=>(tabs S).sz.getD i 0))*(n+2)=z at *;have w2 : 120*(Kd.nest i).size (tabs S).sz*(n+1)<=120*xE (is.map fun i=>(tabs S).sz.getD i 0)*(n+2):=Nat.mul_le_mul (Nat.mul_le_mul_left _ hs) (by omega);have w3 : 120<=120*1*(n+1):=Nat.le_mul_of_pos_right _ (by omega);omega
end L2
namespace L2
open PySem PySem.Spec PyProof.Rows
mutual
inductive Dt (z:Bool) (K:υ) (H:Hp):V->ο->Prop
 |non:Dt z K H .non .none
 |bl (b:Bool):Dt z K H (.bl b) (.bool b)
 |int (i:Int):Dt z K H (.int i) (.int i)
 |str (x:Str):Dt z K H (.str x) (.str x)
 |lst {a:Addr}{xs:List V}{ds:List ο} : SqL K H a xs->(z=true->a≠ly)->Dts z K H xs ds->Dt z K H (.ref a) (.list ds)
 |tup {a:Addr}{xs:List V}{ds:List ο} : SqT K H a xs->Dts z K H xs ds->Dt z K H (.ref a) (.tuple ds)
 |dct {a:Addr}{ks:List Str}{xs:List V}{ds:List ο} : H a=some (.dK (jj (fun k v=>((.inr k:Key),v)) ks xs))->ks.length=xs.length->Dts z K H xs ds->Dt z K H (.ref a) (.dict (jj (fun k d=>(px k,d)) ks ds))
inductive Dts (z:Bool) (K:υ) (H:Hp):List V->List ο->Prop
 |nil:Dts z K H [] []
 |cons {x:V}{xs:List V}{d:ο}{ds:List ο} : Dt z K H x d->Dts z K H xs ds->Dts z K H (x::xs) (d::ds)
end
mutual
theorem Dt.same{K:υ}(g:jI H H'):∀{x:V}{d:ο},Dt z K H x d->Dt z K H' x d
 |_,_,.non=>.non
 |_,_,.bl b=>.bl b
 |_,_,.int i=>.int i
 |_,_,.str x=>.str x
 |_,_,.lst h n t=>.lst (g.seq h) n (Dts.same g t)
 |_,_,.tup h t=>.tup (g.tp h) (Dts.same g t)
 |_,_,.dct h l t=>.dct (g _ _ h) l (Dts.same g t)
theorem Dts.same{K:υ}(g:jI H H'):∀{xs:List V}{ds:List ο},Dts z K H xs ds->Dts z K H' xs ds
 |_,_,.nil=>.nil
 |_,_,.cons h t=>.cons (Dt.same g h) (Dts.same g t)
end
mutual
theorem Dt.any{K:υ}: ∀{x:V}{d:ο},Dt z K H x d->Dt false K H x d
 |_,_,.non=>.non
 |_,_,.bl b=>.bl b
 |_,_,.int i=>.int i
 |_,_,.str x=>.str x
 |_,_,.lst h n t=>.lst h (fun z=>nomatch z) (Dts.any t)
 |_,_,.tup h t=>.tup h (Dts.any t)
 |_,_,.dct h l t=>.dct h l (Dts.any t)
theorem Dts.any{K:υ}: ∀{xs:List V}{ds:List ο},Dts z K H xs ds->Dts false K H xs ds
 |_,_,.nil=>.nil
 |_,_,.cons h t=>.cons (Dt.any h) (Dts.any t)
end
mutual
theorem Dat.dt{K:υ}: ∀{x:V}{d:ο},Dat K H x d->Dt false K H x d
 |_,_,.non=>.non
 |_,_,.bl b=>.bl b
 |_,_,.int i=>.int i
 |_,_,.str x=>.str x
 |_,_,.lst h t=>.lst h (fun z=>nomatch z) (DatAll.dt t)
 |_,_,.tup h t=>.tup h (DatAll.dt t)
theorem DatAll.dt{K:υ}: ∀{xs:List V}{ds:List ο},DatAll K H xs ds->Dts false K H xs ds
 |_,_,.nil=>.nil
 |_,_,.cons h t=>.cons (Dat.dt h) (DatAll.dt t)
end
theorem Dts.length{K:υ}: ∀{xs:List V}{ds:List ο},Dts z K H xs ds->xs.length=ds.length
 |_,_,.nil=>rfl
 |_,_,.cons _ t=>congrArg (·+1) (Dts.length t)
theorem Dts.get{K:υ}: ∀{xs:List V}{ds:List ο}{i:Nat}{d:ο},Dts z K H xs ds->ds[i]?=some d->∃x,xs[i]?=some x/\Dt z K H x d
 |_,_,_,_,.nil,e=>by simp at e
 |_,_,0,_,.cons h _,e=>by simp at e;subst e;exact⟨_,rfl,h⟩
 |_,_,i+1,d,.cons _ t,e=>by
  obtain⟨x,h1,h2⟩:=Dts.get (i:=i) (d:=d) t (by simpa using e);exact⟨x,by simpa using h1,h2⟩
theorem Dts.snoc{K:υ}: ∀{xs:List V}{ds:List ο}{x:V}{d:ο},Dts z K H xs ds->Dt z K H x d->Dts z K H (xs++[x]) (ds++[d])
 |_,_,_,_,.nil,h=>.cons h .nil
 |_,_,_,_,.cons h t,g=>.cons h (Dts.snoc t g)
theorem Dt.ty{K:υ}(h:Dt z K H x d):tyM K x H (tyD d):=by
 cases h with
 |lst h _ _=>exact .inl (.inl ⟨rfl,_,h⟩)
 |tup h _=>exact .inl (.inr ⟨rfl,_,h⟩)
 |dct h _ _=>exact .inr ⟨rfl,_,_,rfl,h⟩
 |_=>exact .inl rfl
section
variable {X:Cx}{pins:List (Addr×Obj)}{σ:St}{H:Hp}{s:ξ}
theorem Inv.dkz(I:Inv X pins σ H s)(h:H a=some (.dK (jj (fun k v=>((.inr k:Key),v)) ks xs)))(hl:ks.length=xs.length):(a == ly)=false/\∃us:List Value,kN xs us/\s.heap.DictOf (qX X.prog X.w) a (jj (fun k v=>((.inr k:Key),v)) ks us):=by
 obtain⟨_,hsm,vs,kv,dd⟩:=tG I.hok h;have:∀(ks:List Str) (xs:List V) (vs:List (Key×Value)),ks.length=xs.length->KV (jj (fun k v=>((.inr k:Key),v)) ks xs) vs->∃us,kN xs us/\vs=jj (fun k v=>((.inr k:Key),v)) ks us:=by
  intro ks
  induction ks with
  |nil=>intro xs vs e h;cases xs with
   |nil=>cases h;exact⟨[],.nil,rfl⟩
   |cons _ _=>cases e
  |cons k ks ih=>intro xs vs e h;cases xs with
   |nil=>cases e
   |cons x xs =>
    have h':KV (((.inr k:Key),x)::jj (fun k v=>((.inr k:Key),v)) ks xs) vs:=h;cases h' with
    | @cons p q ps qs h1 h2 =>
     obtain⟨us,r,e2⟩:=ih xs qs (qq e) h2;refine⟨q.2::us,.cons h1.2 r,?_⟩;rw[e2];show q::_=((.inr k:Key),q.2)::_;have:q.1=(.inr k:Key):=h1.1.symm;rw[←this]
 obtain⟨us,r,e⟩:=this ks xs vs hl kv;exact⟨hsm,us,r,e ▸ dd⟩
mutual
theorem Inv.readsT(I:Inv X pins σ H s):∀{x:V}{d:ο}{u:Value},Dt true X.K H x d->RelV x u->∃as,Reads s.heap u d as/\ly∉as
 |_,_,_,.non,r=>by cases r;exact⟨_,.none,by simp⟩
 |_,_,_,.bl b,r=>by cases r;exact⟨_,.bool b,by simp⟩
 |_,_,_,.int i,r=>by obtain⟨t,rfl⟩:=r;exact⟨_,.int i t,by simp⟩
 |_,_,_,.str x,r=>by obtain⟨t,rfl⟩:=r;exact⟨_,.str x t,by simp⟩
 |_,_,_,.lst h n ds,r=>by
  cases r;obtain⟨its,rv,⟨o,m,e,hc,_,hd⟩,_⟩:=I.list h;obtain⟨as,ra,hn⟩:=Inv.readsTs I ds rv;exact⟨_,.list e hc hd ra,by simp only[Φ,not_or];exact⟨lu (n rfl),hn⟩⟩
 |_,_,_,.tup h ds,r=>by
  cases r;obtain⟨its,rv,⟨o,e,hc,n,hd⟩,_⟩:=I.tuple h;obtain⟨as,ra,hn⟩:=Inv.readsTs I ds rv;exact⟨_,.tuple e hc hd ra,hn⟩
 |_,_,_,.dct (a:=a) (ks:=ks) (ds:=ds) h hl hv,r=>by
  cases r;obtain⟨hsm,us,rv,o,es,ep,e1,hx,e2,_,e3,_⟩:=I.dkz h hl;obtain⟨bs,rb,hb⟩:=Inv.readsTs I hv rv;have l1:ks.length=us.length:=hl.trans rv.length;have l2:ks.length=ds.length:=hl.trans hv.length;have keys:∀(el:List DictEntry) (ks:List Str) (us:List Value) (ds:List ο),ks.length=us.length->ks.length=ds.length->Pairs (qX X.prog X.w) el (jj (fun k v=>((.inr k:Key),v)) ks us) →
    ReadsAll s.heap (el.map (·.key)) ((jj (fun k d=>(px k,d)) ks ds).map (·.1)) []/\el.map (·.val)=us/\(jj (fun k d=>(px k,d)) ks ds).map (·.2)=ds:=by
   intro el ks
   induction ks generalizing el with
   |nil=>intro us ds z1 z2 p;cases us with
    |nil=>cases ds with
     |nil=>cases p;exact⟨.nil,rfl,rfl⟩
     |cons _ _=>cases z2
    |cons _ _=>cases z1
   |cons k ks ih=>intro us ds z1 z2 p;cases us with
    |nil=>cases z1
    |cons u us=>cases ds with
     |nil=>cases z2
     |cons d ds =>
      have p':Pairs (qX X.prog X.w) el (((.inr k:Key),u)::jj (fun k v=>((.inr k:Key),v)) ks us):=p;cases p' with
      |cons p1 p2 p3 =>
       obtain⟨q1,q2,q3⟩:=ih _ us ds (qq z1) (qq z2) p3;refine⟨.cons (as:=[]) (bs:=[]) (aGu (h:=s.heap) p1) q1,?_,?_⟩
       ·rw[ju,q2];exact congrArg (· :: us) p2
       ·show d::_=d::ds;rw[q3]
  obtain⟨k1,k2,k3⟩:=keys es.toList ks us ds l1 l2 e3;refine⟨_,.dict e1 hx.1 e2 k1 (by rw[k2,k3];exact rb),?_⟩;have ha:ly≠a:=fun z=>by rw[←z]at hsm;simp at hsm
  simp only[List.nil_append,li,uj,Φ,not_or];exact⟨ha,hb⟩
theorem Inv.readsTs(I:Inv X pins σ H s):∀{xs:List V}{ds:List ο}{us:List Value},Dts true X.K H xs ds->kN xs us->∃as,ReadsAll s.heap us ds as/\ly∉as
 |_,_,_,.nil,r=>by cases r;exact⟨_,.nil,by simp⟩
 |_,_,_,.cons h t,r=>by
  cases r with
  |cons r1 r2 =>
   obtain⟨a1,e1,n1⟩:=Inv.readsT I h r1;obtain⟨a2,e2,n2⟩:=Inv.readsTs I t r2;exact⟨_,.cons e1 e2,by simp only[km,not_or];exact⟨n1,n2⟩⟩
end
def DtR (K:υ) (H:Hp) (x:V) (d:ο):Prop:=Dt true K H x d\/(Dat K H x d/\d.hasDict=false)
def aQd (K:υ):List V->Hp->VK->Prop:=fun xs H Q=>∃x d,xs=[x]/\DtR K H x d/\d.showable=true/\d.depth<=60/\d.shown.length<=ρ/\Q (.str d.shown) H
theorem vV{K:υ}(hK:X.K=K)(hg:X.A.guards=some [])(hu:X.A.units+64<ou):xA X (.builtin "repr") (aQd K):=by
 subst hK;intro pins s σ H xs us Q I r h;obtain⟨x,d,rfl,hd,hs,hdep,hsz,q⟩:=h;obtain⟨u,rfl,rx⟩:=r.one;have fin:∀(h':kq) (u:Tok) (tk:Nat),(∀b o,s.heap.get? b=some o->h'.get? b=some o)->EP X pins σ Q (.str d.shown u) { s with heap:=h',toks:=tk }:=fun h' u tk hk=>⟨.str d.shown,H,I.kept hk,⟨u,rfl⟩,q⟩;have rd:∃as,Reads s.heap u d as/\(d.hasDict=true->ly∉as):=by
  rcases hd with hd|⟨hd,n⟩
  ·obtain⟨as,ra,hn⟩:=I.readsT hd rx;exact⟨as,ra,fun _=>hn⟩
  ·obtain⟨as,ra⟩:=I.reads hd rx;exact⟨as,ra,ο.noDict_hsm n⟩
 obtain⟨as,ra,hn⟩:=rd;cases ra with
 |none=>exact P.repr_of_none (fin s.heap _ _ (fun _ _ e=>e))
 |bool b=>cases b <;> exact P.repr_of_bool (fin s.heap _ _ (fun _ _ e=>e))
 |int i t=>exact P.repr_of_int (by simpa [ο.showable] using hs) (fin s.heap _ _ (fun _ _ e=>e))
 |str x t=>exact P.repr_of_str (fin s.heap _ _ (fun _ _ e=>e)) hsz
 |list h1 h2 h3 h4=>exact repr_of_reads' (.list h1 h2 h3 h4) hs hn hg (by omega) (fun _ _ e=>e) fin hsz
 |tuple h1 h2 h3 h4=>exact repr_of_reads' (.tuple h1 h2 h3 h4) hs hn hg (by omega) (fun _ _ e=>e) fin hsz
 |dict h1 h2 h3 h4 h5=>exact repr_of_reads' (.dict h1 h2 h3 h4 h5) hs hn hg (by omega) (fun _ _ e=>e) fin hsz
end
end L2
namespace L2
open PySem PySem.Spec PyProof.Rows PySem.SeqAt
open AutoSeq1 (wpAny_loadPart')
open MeetsSeq MeetsSeq2 MeetsSeq3 SeqRoads2
def EqP (P:jy) (w:mf) (A:kg) (s:ξ) (y x:Value):Prop:=∀(E:Value->ξ->Prop) (Q:Bool->ξ->Prop),Q true s->ik (ir P w) A (eqBool y x) Q E s
def RcP (P:jy) (w:mf) (A:kg) (s:ξ) (y x:Value):Prop:=∀(E:Value->ξ->Prop) (Q:Value->ξ->Prop),Q (.bool true) s->ik (ir P w) A (richCompare .Eq y x) Q E s
section
variable {P:jy}{w:mf}{A:kg}{s:ξ}
theorem EqP.of(h:EqAt A s y x true):EqP P w A s y x:=fun E Q q=>h P w E Q q
theorem EqP.refs{l b:Addr}(h:l≠b->RcP P w A s (.ref l) (.ref b)):EqP P w A s (.ref l) (.ref b):=by
 by_cases e:l=b
 ·subst e;exact .of (EqAt.same _)
 ·intro E Q q;unfold eqBool;refine my (wpAny_ite_split (fun hab=>absurd (by have:=eq_of_beq hab;injection this) e) fun _=>?_);exact ζ (h e E _ (mh q))
theorem loopP(l b:Addr)(xs ys:Array Value)(n m:Nat)(d1 d2:Option Addr)(s1 s2:Array (Option Value))(hz:xs.size=ys.size)(k:Nat):
  ∀i:Nat,xs.size-i=k->MeetsIn P w (su.«list.__eq__.loop» ⟨[.ref l,.ref b,uc i,uc 2],[]⟩)
   (fun A R s=>s.heap.get? l=some ⟨.type "list",d1,.seq xs n,s1⟩/\s.heap.get? b=some ⟨.type "list",d2,.seq ys m,s2⟩/\(∀j (h1:j<xs.size) (h2:j<ys.size),EqP P w A.in1 s xs[j] ys[j])/\R (.ok (.ret (.bool true))) s):=by
 induction k with
 |zero =>
  intro i hk A R s ⟨hl,hb,he,h⟩;obtain⟨hp,g,d,tk,os⟩:=s
  wp_walk using mx hl,mx hb
  rw[show xs[((i:Nat):Int).toNat]?=none by simp;omega,show ys[((i:Nat):Int).toNat]?=none by simp;omega]
  wp_walk using mx hl,mx hb
  show R (.ok (.ret (.bool (xs.size == ys.size)))) _;rw[hz];simpa using h
 |succ k ih =>
  intro i hk A R s ⟨hl,hb,he,h⟩;obtain⟨hp,g,d,tk,os⟩:=s
  wp_walk using mx hl,mx hb
  have q1:i<xs.size:=by omega
  have q2:i<ys.size:=by omega
  have hc:((i:Int)+1)=((i+1:Nat):Int):=by push_cast;rfl
  rw[show xs[((i:Nat):Int).toNat]?=some xs[i] by simp[q1],show ys[((i:Nat):Int).toNat]?=some ys[i] by simp[q2]];refine ζ (he i q1 q2 _ _ ?_)
  wp_walk
  rw[hc];exact⟨plainId_quiet plain_eq_loop _,codeAny_builtin entry_eq_loop (by
   rw[kg.under_plainId plain_eq_loop _];exact ih (i+1) (by omega) A R _ ⟨hl,hb,he,h⟩)⟩
theorem RcP.lists(hl:s.heap.IsList l xs)(hb:s.heap.IsList b ys)(hz:xs.size=ys.size)(hu:A.units<ou)(he:∀j (h1:j<xs.size) (h2:j<ys.size),EqP P w A.in1 s xs[j] ys[j]):RcP P w A s (.ref l) (.ref b):=fun E Q q=>by
 obtain⟨⟨c1,d1,t1,s1⟩,ho,hc,n,hd⟩:=hl;obtain⟨⟨c2,d2,t2,s2⟩,ho2,hc2,m,hd2⟩:=hb;simp only at hc hd hc2 hd2;subst hc hd hc2 hd2;refine rq (op:=.Eq) ⟨_,ho,rfl⟩ ⟨_,ho2,rfl⟩ F.slot_list_eq (call_meetsIn F.slot_list_eq ⟨_,ho,rfl⟩ F.entry_list_eq (F.args_list_eq_2 _ _) (S:=fun A R s=>s.heap.get? l=some ⟨.type "list",d1,.seq xs n,s1⟩/\s.heap.get? b=some ⟨.type "list",d2,.seq ys m,s2⟩/\(∀j (h1:j<xs.size) (h2:j<ys.size),EqP P w A.in1 s xs[j] ys[j])/\R (.ok (.ret (.bool true))) s) ?_ ⟨ho,ho2,he,(fun x=>nomatch x),q⟩) hu;intro A R s ⟨hl,hb,he,h⟩;obtain⟨hp,g,d,tk,os⟩:=s;have f3:=AutoSeq1.sub_list_list;have hne:¬ (xs.size != ys.size)=true:=by simp[hz]
 wp_walk using mx hl,mx hb
 exact⟨plainId_quiet plain_eq_loop _,codeAny_builtin entry_eq_loop (by
  rw[kg.under_plainId plain_eq_loop _];exact loopP l b xs ys n m d1 d2 s1 s2 hz _ 0 rfl A R _ ⟨hl,hb,he,h⟩)⟩
theorem RcP.tups(hl:s.heap.IsTuple l xs)(hb:s.heap.IsTuple b ys)(hz:xs.size=ys.size)(hu:A.units<ou)(he:∀j (h1:j<xs.size) (h2:j<ys.size),EqP P w A.in1 s xs[j] ys[j]):RcP P w A s (.ref l) (.ref b):=fun E Q q=>by
 obtain⟨⟨c1,d1,t1,s1⟩,ho,hc,n,hd⟩:=hl;obtain⟨⟨c2,d2,t2,s2⟩,ho2,hc2,m,hd2⟩:=hb;simp only at hc hd hc2 hd2;subst hc hd hc2 hd2;refine rq (op:=.Eq) ⟨_,ho,rfl⟩ ⟨_,ho2,rfl⟩ F.slot_tuple_eq (call_meetsIn F.slot_tuple_eq ⟨_,ho,rfl⟩ F.entry_tuple_eq (F.args_tuple_eq_2 _ _) (S:=fun A R s=>s.heap.get? l=some ⟨.type "tuple",d1,.seq xs n,s1⟩/\s.heap.get? b=some ⟨.type "tuple",d2,.seq ys m,s2⟩/\(∀j (h1:j<xs.size) (h2:j<ys.size),EqP P w A.in1 s xs[j] ys[j])/\R (.ok (.ret (.bool true))) s) ?_ ⟨ho,ho2,he,(fun x=>nomatch x),q⟩) hu;refine .of_wp fun A R s zq=>?_;obtain⟨hl,hb,he,h⟩:=zq;obtain⟨hp,g,d,tk,os⟩:=s;have f2:=AutoSeq1.sub_tuple_tuple
 wp_walk using mx hl,mx hb,wpAny_forIn_list _ (fun rest b s'=>b.1=none/\s'=⟨hp,g,d,tk,os⟩/\∃i,rest=(xs.toList.zip ys.toList).drop i) _
 case turn =>
  rintro ⟨y,x⟩ rest b s' ⟨hb',rfl,i,hz'⟩;have hlt:i<(xs.toList.zip ys.toList).length:=by
   rcases Nat.lt_or_ge i (xs.toList.zip ys.toList).length with h'|h'
   ·exact h'
   ·rw[List.drop_of_length_le h']at hz';cases hz'
  have hm:i<min xs.size ys.size:=by simpa using hlt
  rw[wk hlt]at hz';injection hz' with hyx hrest;have e1:y=xs[i]'(ς hm (jz _ _)):=by have:=congrArg Prod.fst hyx;simpa using this
  have e2:x=ys[i]'(ς hm (Nat.min_le_right _ _)):=by have:=congrArg Prod.snd hyx;simpa using this
  subst e1 e2;refine ζ (he i _ _ _ _ ?_)
  wp_walk
  exact⟨rfl,rfl,i+1,hrest⟩
 case fin =>
  rintro ⟨b1,b2⟩ s' ⟨hb',rfl,i,_⟩;simp only at hb';subst hb'
  wp_walk
  exact⟨_,rfl,by simpa [su.Tuple.tupleCompareSizes,hz] using h⟩
 case h=>exact⟨rfl,rfl,0,rfl⟩
theorem aIz{κ : Type}[DecidableEq κ]{knd:KeyKind P w κ}{nm:String}{a b:Addr}{ka kb:List (κ×Value)}{E:Value->ξ->Prop}{Q:Bool->ξ->Prop}(ha:(a == ly)=false)(hb:(b == ly)=false)
  (da:s.heap.DictOf knd a ka)(db:s.heap.DictOf knd b kb)(hl:ka.length=kb.length)(hits:∀(i:Nat) (k : κ) (v:Value),ka[i]?=some (k,v)->∃y,xi kb k=some y/\EqP P w A s v y)(h:Q true s):
  ik (ir P w) A (su.Dict.samePairs nm a b) Q E s:=by
 obtain⟨oa,es,ep,hoa,_,hda,hka,hpa,_⟩:=da;obtain⟨ob,fs,fp,hob,_,hdb,hkb,hpb,_⟩:=db;have la:ka.length=es.size:=by rw[←hpa.length];exact nh
 have lb:kb.length=fs.size:=by rw[←hpb.length];exact nh
 have hz:es.size=fs.size:=by omega
 have hfind:∀k,findBy knd.is fs k=xi kb k:=fun k=>by
  rw[←hpb.find k];clear lb hpb hkb hdb hob hz;obtain⟨l⟩:=fs;simp[findBy]
 unfold su.Dict.samePairs su.Dict.showsAll;rw[if_neg (by rw[ha];exact ψ),if_neg (by rw[hb];exact ψ)];refine ζ (Γ (ζ (Γ (ζ (yk hoa hda ?_)))));dsimp only;refine ζ (yk hob hdb ?_);rw[if_neg (by rw[hz];simp)];refine ζ (wpAny_dictEpoch hoa hda (ζ ?_));rw[Std.Legacy.Range.forIn_eq_forIn_range'];simp only[Std.Legacy.Range.size,Nat.sub_zero,Nat.add_sub_cancel,Nat.div_one];refine wpAny_forIn_list _ (fun rest q s'=>s'=s/\q=(none,())/\∃i,rest=List.range' i (es.size-i)/\i<=es.size) _ ?_ ?_ _ _ ⟨rfl,rfl,0,by simp,iy _⟩
 ·rintro x rest q s' ⟨rfl,rfl,i,hr,hi⟩;have hlt:i<es.size:=by
   rcases Nat.lt_or_ge i es.size with z|z
   ·exact z
   ·rw[Nat.sub_eq_zero_of_le z]at hr;simp at hr
  obtain⟨rfl,hrest⟩ : x=i/\rest=List.range' (i+1) (es.size-(i+1)):=by
   rw[show es.size-i=(es.size-(i+1))+1 by omega,List.range'_succ]at hr;injection hr with h1 h2;exact⟨h1,h2⟩
  refine ζ (yk hoa hda ?_);rw[ol hlt];have hlt':x<ka.length:=by rw[la];exact hlt
  obtain⟨k,v,hkv⟩ : ∃k v,ka[x]=(k,v):=⟨_,_,rfl⟩;have hg:ka[x]?=some (k,v):=by rw[θ hlt',hkv]
  obtain⟨hkey,hval⟩:=hpa.get? (i:=x) (e:=es[x]) (k:=k) (v:=v) (by rw[vf];exact ol hlt) hg;obtain⟨k',hk',hh⟩:=hka es[x] (Array.getElem_mem hlt);rw[knd.inj _ _ _ hk' hkey]at hh;obtain⟨y,hy,he⟩:=hits x k v hg;show ik _ _ (xb [es[x].key,es[x].val] _ >>= _) _ _ _;rw[hh];refine ζ (my (ζ (wpAny_dictFind_of hkey hob hdb hkb ?_)));cases hj:fs.findIdx? fun e=>knd.is k e.key with
  |none=>exact absurd hy (by rw[←hfind k,findBy_of_findIdx?,hj];exact fun z=>nomatch z)
  |some j =>
   obtain⟨hjlt,_,_⟩:=Array.findIdx?_eq_some_iff_getElem.mp hj;have hv':xi kb k=some fs[j].val:=by
    rw[←hfind k,findBy_of_findIdx?,hj];simp[ol hjlt]
   refine ζ (yk hob hdb ?_);rw[ol hjlt];have ey:fs[j].val=y:=lr (hv'.symm.trans hy);rw[←ey,←hval]at he;refine my (he _ _ ?_);show ik _ _ (if (!true)=true then _ else _) _ _ _;rw[if_neg (by decide)];refine ζ (wpAny_dictEpoch hoa hda ?_);rw[if_neg (by simp)];exact Γ ⟨rfl,rfl,x+1,hrest,hlt⟩
 ·rintro q s' ⟨rfl,rfl,_⟩;exact Γ h
theorem cmpP{κ : Type}[DecidableEq κ]{knd:KeyKind P w κ}{a b:Addr}{ka kb:List (κ×Value)}(ng:Bool){E:Value->ξ->Prop}{Q:Value->ξ->Prop}(ha:(a == ly)=false)(hb:(b == ly)=false)
  (da:s.heap.DictOf knd a ka)(db:s.heap.DictOf knd b kb)(hl:ka.length=kb.length)(hu:A.units<ou)(hits:∀(i:Nat) (k : κ) (v:Value),ka[i]?=some (k,v)->∃y,xi kb k=some y/\EqP P w A.in1 s v y)(h:Q (.bool (!ng)) s):
  ik (ir P w) A (ky (if ng then .NotEq else .Eq) (.ref a) (.ref b)) Q E s:=by
 cases ng
 ·refine rq (op:=.Eq) da.typeIs db.typeIs PySem.F.slot_dict_eq (uh PySem.F.slot_dict_eq da.typeIs PySem.F.entry_dict_eq ?_ (PySem.F.args_dict_eq_2 _ _)) hu;show ik _ _ (sy "__eq__" ⟨[.ref a,.ref b],[]⟩ >>= _) _ _ s;unfold sy;refine ζ (ζ (wpAny_notOrdered_dict da.typeIs ?_));refine Γ (ζ (ze (T:="dict") db.typeIs PySem.F.sub_dict_dict ?_));simp only[Bool.not_true,ow,if_false];refine ζ (Γ (ζ (Γ (ζ (aIz ha hb da db hl hits (Γ ⟨_,rfl,(fun x=>nomatch x),h⟩))))))
 ·refine rq (op:=.NotEq) da.typeIs db.typeIs PySem.F.slot_dict_ne (uh PySem.F.slot_dict_ne da.typeIs PySem.F.entry_dict_ne ?_ (PySem.F.args_dict_ne_2 _ _)) hu;show ik _ _ (sy "__ne__" ⟨[.ref a,.ref b],[]⟩ >>= _) _ _ s;unfold sy;refine ζ (ζ (wpAny_notOrdered_dict da.typeIs ?_));refine Γ (ζ (ze (T:="dict") db.typeIs PySem.F.sub_dict_dict ?_));simp only[Bool.not_true,ow,if_false];refine ζ (Γ (ζ (Γ (ζ (aIz ha hb da db hl hits (Γ ⟨_,rfl,(fun x=>nomatch x),h⟩))))))
end
theorem zip_get{κ : Type}: ∀{ks:List Str}{us:List κ}{i:Nat}{k:Key}{v : κ},(jj (fun k v=>((.inr k:Key),v)) ks us)[i]?=some (k,v)->us[i]?=some v/\∃x,ks[i]?=some x/\k=.inr x
 |[],_,_,_,_,e=>by simp at e
 |_::_,[],_,_,_,e=>by simp at e
 |x::_,_::_,0,_,_,e=>by simp at e;obtain⟨rfl,rfl⟩:=e;exact⟨rfl,x,rfl,rfl⟩
 |_::ks,_::us,i+1,k,v,e=>zip_get (ks:=ks) (us:=us) (i:=i) (k:=k) (v:=v) (by simpa using e)
theorem aDk{κ : Type}: ∀{ks:List Str}{us:List κ}{i:Nat}{x:Str}{v : κ},((jj (fun k v=>((.inr k:Key),v)) ks us).map (·.1)).Nodup->ks[i]?=some x->us[i]?=some v->(jj (fun k v=>((.inr k:Key),v)) ks us).find? (fun kv=>decide (kv.1=(.inr x:Key)))=some (.inr x,v)
 |[],_,_,_,_,_,e,_=>by simp at e
 |_::_,[],_,_,_,_,_,e=>by simp at e
 |y::_,_::_,0,_,_,_,e,e2=>by simp at e e2;subst e e2;show List.find? _ (_::_)=_;rw[List.find?_cons_of_pos (by simp)]
 |y::ks,u::us,i+1,x,v,n,e,e2=>by
  have n':((.inr y:Key)::(jj (fun k v=>((.inr k:Key),v)) ks us).map (·.1)).Nodup:=n;have ih:=aDk (ks:=ks) (us:=us) (i:=i) (x:=x) (v:=v) (tf.mp n').2 (by simpa using e) (by simpa using e2);show List.find? _ (((.inr y:Key),u)::_)=_;rw[uw]
  ·exact ih
  ·simp only[decide_eq_true_eq];intro z;refine(tf.mp n').1 ?_;rw[z];exact jf.mpr ⟨_,List.mem_of_find?_eq_some ih,rfl⟩
section
variable {X:Cx}{pins:List (Addr×Obj)}{σ:St}{H:Hp}{s:ξ}
theorem Inv.hits{us:List Value}(hd:((jj (fun k v=>((.inr k:Key),v)) ks vs).map (·.1)).Nodup)(e:us.length=vs.length)(h:∀j (h1:j<us.length) (h2:j<vs.length),EqP X.prog X.w A s us[j] vs[j]):
  ∀(i:Nat) (k:Key) (v:Value),(jj (fun k v=>((.inr k:Key),v)) ks us)[i]?=some (k,v)->∃y,xi (jj (fun k v=>((.inr k:Key),v)) ks vs) k=some y/\EqP X.prog X.w A s v y:=by
 intro i k v hi;obtain⟨hu,x,hx,rfl⟩:=zip_get hi;obtain⟨h1,rfl⟩:=η.mp hu;have h2:i<vs.length:=by omega
 exact⟨vs[i],by unfold xi;rw[aDk hd hx (θ h2)];rfl,h i h1 h2⟩
theorem aFe(A:kg){d:ο}{ds:List ο}(h:A.units+lj (d::ds)<ou):A.units+d.depth<ou/\A.units+lj ds<ou:=by
 have e:lj (d::ds)=max d.depth (lj ds):=rfl;rw[e]at h;omega
theorem aAl:∀{ks:List Str}{ds:List ο},ks.length=ds.length->uk (jj (fun k d=>(px k,d)) ks ds)=lj ds
 |[],[],_=>rfl
 |_::ks,d::ds,e=>by
  show max (max 0 d.depth) (uk (jj (fun k d=>(px k,d)) ks ds))=max d.depth (lj ds);rw[aAl (qq e),Nat.zero_max]
theorem uQ{ks ks':List Str}{ds ds':List ο}(l:ks.length=ds.length)(l':ks'.length=ds'.length)(e:jj (fun k d=>(px k,d)) ks ds=jj (fun k d=>(px k,d)) ks' ds'):ks=ks'/\ds=ds':=by
 induction ks generalizing ds ks' ds' with
 |nil=>cases ds with
  |nil=>cases ks' with
   |nil=>cases ds' with
    |nil=>exact⟨rfl,rfl⟩
    |cons _ _=>cases l'
   |cons _ _=>cases ds' with
    |nil=>cases l'
    |cons _ _=>cases e
  |cons _ _=>cases l
 |cons k ks ih=>cases ds with
  |nil=>cases l
  |cons d ds=>cases ks' with
   |nil=>cases e
   |cons k' ks'=>cases ds' with
    |nil=>cases e
    |cons d' ds' =>
     injection e with e1 e2;injection e1 with e3 e4;injection e3 with e5;obtain⟨z1,z2⟩:=ih (qq l) (qq l') e2;exact⟨by rw[e5,z1],by rw[e4,z2]⟩
mutual
theorem Inv.eqT(I:Inv X pins σ H s):∀{A:kg}{x y:V}{d d':ο}{u v:Value},Dt false X.K H x d->d=d'->Dt false X.K H y d'->RelV x u->RelV y v->A.units+d.depth<ou->EqP X.prog X.w A s u v
 |_,_,_,_,_,_,_,.non,e,h2,r1,r2,hu=>by subst e;cases h2;cases r1;cases r2;exact .of (EqAt.same _)
 |_,_,_,_,_,_,_,.bl b,e,h2,r1,r2,hu=>by subst e;cases h2;cases r1;cases r2;exact .of (EqAt.same _)
 |_,_,_,_,_,_,_,.int i,e,h2,r1,r2,hu=>by
  subst e;cases h2;obtain⟨t,rfl⟩:=r1;obtain⟨t',rfl⟩:=r2;exact .of (by simpa using EqAt.int_int i t i t')
 |_,_,_,_,_,_,_,.str x,e,h2,r1,r2,hu=>by
  subst e;cases h2;obtain⟨t,rfl⟩:=r1;obtain⟨t',rfl⟩:=r2;exact .of (by simpa using EqAt.str_str x t x t')
 |A,_,_,_,_,_,_,.lst h _ ds,e,h2,r1,r2,hu=>by
  subst e;cases h2 with
  |lst h' _ ds' =>
   cases r1;cases r2;obtain⟨its,rv,⟨o,m,g1,g2,_,g3⟩,_⟩:=I.list h;obtain⟨its',rv',⟨o',m',g1',g2',_,g3'⟩,_⟩:=I.list h';have hz:its.toArray.size=its'.toArray.size:=by rw[τ,τ,←rv.length,←rv'.length,ds.length,ds'.length]
   have hu':A.units+lj _+1<ou:=hu;exact .refs fun _=>.lists ⟨_,g1,g2,_,g3⟩ ⟨_,g1',g2',_,g3'⟩ hz (by omega) fun j h1 h2=>by
    have:=Inv.eqTs I (A:=A.in1) ds rfl ds' rv rv' (by show A.units+1+_<ou;omega) j (by simpa using h1) (by simpa using h2);simpa using this
 |A,_,_,_,_,_,_,.tup h ds,e,h2,r1,r2,hu=>by
  subst e;cases h2 with
  |tup h' ds' =>
   cases r1;cases r2;obtain⟨its,rv,⟨o,g1,g2,m,g3⟩,_⟩:=I.tuple h;obtain⟨its',rv',⟨o',g1',g2',m',g3'⟩,_⟩:=I.tuple h';have hz:its.toArray.size=its'.toArray.size:=by rw[τ,τ,←rv.length,←rv'.length,ds.length,ds'.length]
   have hu':A.units+lj _+1<ou:=hu;exact .refs fun _=>.tups ⟨_,g1,g2,_,g3⟩ ⟨_,g1',g2',_,g3'⟩ hz (by omega) fun j h1 h2=>by
    have:=Inv.eqTs I (A:=A.in1) ds rfl ds' rv rv' (by show A.units+1+_<ou;omega) j (by simpa using h1) (by simpa using h2);simpa using this
 |A,_,_,_,_,_,_,.dct h l ds,e,h2,r1,r2,hu=>by
  cases h2 with
  |non=>cases e
  |bl=>cases e
  |int=>cases e
  |str=>cases e
  |lst=>cases e
  |tup=>cases e
  |dct h' l' ds' =>
   injection e with hd;obtain⟨rfl,e2⟩:=uQ (l.trans ds.length) (l'.trans ds'.length) hd;cases r1;cases r2;obtain⟨n1,us,rv,dd1⟩:=I.dkz h l;obtain⟨n2,us',rv',dd2⟩:=I.dkz h' l';have e3:us.length=us'.length:=by rw[←rv.length,←rv'.length,←l,←l']
   obtain⟨_,_,_,_,_,_,_,_,nd⟩:=id dd2;have hu':A.units+(uk _+1)<ou:=hu;rw[aAl (l.trans ds.length)]at hu';refine .refs fun _ E Q q=>cmpP false n1 n2 dd1 dd2 (by simp[e3]) (by omega) (Inv.hits nd e3 ?_) q;exact Inv.eqTs I (A:=A.in1) ds e2 ds' rv rv' (by show A.units+1+_<ou;omega)
theorem Inv.eqTs(I:Inv X pins σ H s):∀{A:kg}{xs ys:List V}{ds ds':List ο}{us vs:List Value},Dts false X.K H xs ds->ds=ds'->Dts false X.K H ys ds'->kN xs us->kN ys vs->A.units+lj ds<ou->∀j (h1:j<us.length) (h2:j<vs.length),EqP X.prog X.w A s us[j] vs[j]
 |_,_,_,_,_,_,_,.nil,e,_,r1,_,_=>by cases r1;exact fun j h1=>absurd h1 (xk _)
 |A,_,_,_,_,_,_,.cons h t,e,h2,r1,r2,hu=>by
  subst e;cases h2 with
  |cons h' t' =>
   cases r1 with
   |cons q1 q2 =>
    cases r2 with
    |cons q1' q2' =>
     intro j h1 h2;cases j with
     |zero=>exact Inv.eqT I h rfl h' q1 q1' (aFe A hu).1
     |succ j=>exact Inv.eqTs I t rfl t' q2 q2' (aFe A hu).2 j (yl h1) (yl h2)
end
def rEqT (K:υ):R2:=fun x y H Q=>∃d:ο,Dt false K H x d/\Dt false K H y d/\d.depth<=60/\Q (.bl true) H
theorem aFh(hu:X.A.units+64<ou):OpR X (ky .Eq) (rEqT X.K):=by
 intro pins s σ H x y v u Q I rx ry h;obtain⟨d,hx,hy,hd,q⟩:=h;have fin:EP X pins σ Q (.bool true) s:=⟨.bl true,H,I,rfl,q⟩;cases hx with
 |lst h _ ds =>
  cases hy with
  |lst h' _ ds' =>
   cases rx;cases ry;obtain⟨its,rv,⟨o,m,g1,g2,_,g3⟩,_⟩:=I.list h;obtain⟨its',rv',⟨o',m',g1',g2',_,g3'⟩,_⟩:=I.list h';have hd':lj _+1<=60:=hd;refine RcP.lists ⟨_,g1,g2,_,g3⟩ ⟨_,g1',g2',_,g3'⟩ (by rw[τ,τ,←rv.length,←rv'.length,ds.length,ds'.length]) (by omega) (fun j h1 h2=>?_) _ _ fin;have:=Inv.eqTs I (A:=X.A.in1) ds rfl ds' rv rv' (by show X.A.units+1+_<ou;omega) j (by simpa using h1) (by simpa using h2);simpa using this
 |tup h ds =>
  cases hy with
  |tup h' ds' =>
   cases rx;cases ry;obtain⟨its,rv,⟨o,g1,g2,m,g3⟩,_⟩:=I.tuple h;obtain⟨its',rv',⟨o',g1',g2',m',g3'⟩,_⟩:=I.tuple h';have hd':lj _+1<=60:=hd;refine RcP.tups ⟨_,g1,g2,_,g3⟩ ⟨_,g1',g2',_,g3'⟩ (by rw[τ,τ,←rv.length,←rv'.length,ds.length,ds'.length]) (by omega) (fun j h1 h2=>?_) _ _ fin;have:=Inv.eqTs I (A:=X.A.in1) ds rfl ds' rv rv' (by show X.A.units+1+_<ou;omega) j (by simpa using h1) (by simpa using h2);simpa using this
 |dct h l ds =>
  generalize e:ο.dict _=dd at hy;cases hy with
  |non=>cases e
  |bl=>cases e
  |int=>cases e
  |str=>cases e
  |lst=>cases e
  |tup=>cases e
  |dct h' l' ds' =>
   injection e with e;obtain⟨rfl,e2⟩:=uQ (l.trans ds.length) (l'.trans ds'.length) e;cases rx;cases ry;obtain⟨n1,us,rv,dd1⟩:=I.dkz h l;obtain⟨n2,us',rv',dd2⟩:=I.dkz h' l';have e3:us.length=us'.length:=by rw[←rv.length,←rv'.length,←l,←l']
   obtain⟨_,_,_,_,_,_,_,_,nd⟩:=id dd2;have hd':uk _+1<=60:=hd;rw[aAl (l.trans ds.length)]at hd';exact cmpP false n1 n2 dd1 dd2 (by simp[e3]) (by omega) (Inv.hits nd e3 (Inv.eqTs I (A:=X.A.in1) ds e2 ds' rv rv' (by show X.A.units+1+_<ou;omega))) fin
 |non=>cases hy;cases rx;cases ry;exact RcAt.none_none _ _ _ _ fin
 |bl b=>cases hy;cases rx;cases ry;exact RcAt.bool_bool b b _ _ _ _ (by rw[beq_self_eq_true];exact fin)
 |int i=>cases hy;obtain⟨t,rfl⟩:=rx;obtain⟨t',rfl⟩:=ry;exact RcAt.int_int i t i t' _ _ _ _ (by rw[beq_self_eq_true];exact fin)
 |str z=>cases hy;obtain⟨t,rfl⟩:=rx;obtain⟨t',rfl⟩:=ry;exact RcAt.str_str z t z t' _ _ _ _ (by rw[beq_self_eq_true];exact fin)
def rNeT (K:υ):R2:=fun x y H Q=>(∃(a b:Addr) (ks:List Str) (xs ys:List V) (ds:List ο),x=.ref a/\y=.ref b/\H a=some (.dK (jj (fun k v=>((.inr k:Key),v)) ks xs))/\H b=some (.dK (jj (fun k v=>((.inr k:Key),v)) ks ys))/\ks.length=xs.length/\ks.length=ys.length/\Dts false K H xs ds/\Dts false K H ys ds/\lj ds<=60/\Q (.bl false) H)\/∃d:ο,Dat K H x d/\Dat K H y d/\ke d=true/\Q (.bl false) H
theorem aNe(hu:X.A.units+64<ou):OpR X (ky .NotEq) (rNeT X.K):=by
 intro pins s σ H x y v u Q I rx ry h;rcases h with⟨a,b,ks,xs,ys,ds,rfl,rfl,h,h',l,l',d1,d2,hd,q⟩|⟨d,hx,hy,sh,q⟩
 ·cases rx;cases ry;obtain⟨n1,us,rv,dd1⟩:=I.dkz h l;obtain⟨n2,us',rv',dd2⟩:=I.dkz h' l';have e3:us.length=us'.length:=by rw[←rv.length,←rv'.length,←l,←l']
  obtain⟨_,_,_,_,_,_,_,_,nd⟩:=id dd2;exact cmpP true n1 n2 dd1 dd2 (by simp[e3]) (by omega) (Inv.hits nd e3 (Inv.eqTs I (A:=X.A.in1) d1 rfl d2 rv rv' (by show X.A.units+1+_<ou;omega))) ⟨.bl false,H,I,rfl,q⟩
 ·exact aDn hu pins s σ H x y v u Q I rx ry ⟨d,d,hx,hy,sh,sh,by rw[eqv_refl d (canLay_of_shaped sh)];exact q⟩
theorem aGq:xA X (.builtin "len") (fun xs H Q=>∃p kvs,xs=[.ref p]/\H p=some (.dK kvs)/\Q (.int kvs.length) H):=by
 intro pins s σ H xs us Q I r h;obtain⟨p,kvs,rfl,hp,q⟩:=h;obtain⟨u,rfl,rx⟩:=r.one;cases rx;obtain⟨z,hd,vs,rel,dd⟩:=tG I.hok hp;refine call_len_dict hd dd ?_ ⟨.int kvs.length,H,I.tok _,⟨_,by rw[rel.length]⟩,q⟩;rw[←rel.length];have:ρ=16777216:=jk;omega
theorem aHc:MtR X "dict.clear" (fun x vs H Q=>∃(a:Addr) (kvs:List (Key×V)),x=.ref a/\vs=[]/\H a=some (.dK kvs)/\Q .non (upd H a (.dK []))):=by
 intro pins s σ H x vs v us Q I rx rv h;obtain⟨a,kvs,rfl,rfl,ha,q⟩:=h;cases rx;have hus:=rv.zero;subst hus;obtain⟨z,hd,vs,rel,dd⟩:=tG I.hok ha;refine call_meetsIn PySem.F.slot_dict_clear dd.typeIs PySem.F.entry_dict_clear (PySem.F.args_dict_clear_1 _) (meets_dict_clear (qX X.prog X.w) a) ⟨vs,dd,(by rw[←rel.length];exact z),fun h' dd' hs=>⟨.non,_,?_,rfl,q⟩⟩;have he:∃q,h'.get? a=some q:=let ⟨q,_,_,hq,_⟩:=dd'; ⟨q,hq⟩;exact gW (t':=s.toks) I (by rw[ha];exact je) hs he (uG (iy _) hd .nil dd')
end
def aDp (P:Nat->List (Key×V)->Hp->Prop) (i k:Nat) (js:List Nat) (σ:St) (σ3:St) (ys:List (Key×V)) (H:Hp):Prop:=P (i+1) ys H/\∃os:St,os.length=k/\σ3=os++vX js σ
theorem aEi{K:υ}{b:Bool}{xs ys:List V}{k:Nat}{g:TG}{tc:TT}{tk tv:TE}{Q:VK}{H1:Hp}(P:Addr->Nat->List (Key×V)->Hp->Prop)(he:ys.length=xs.length)(h0:∀D,H1 D=none->P D 0 [] (upd H1 D (.dK [])))
  (hl:∀D i zs H,i<=xs.length->P D i zs H->Sq2 K b H a1 xs/\Sq2 K c2 H a2 ys)
  (hs:∀D i x y zs H p (os:St),os.length=k->xs[i]?=some x->ys[i]?=some y->P D i zs H->H p=none->g (.ref p) (os++vX js σ) (upd H p (.tup [x,y])) fun σ3 H3=>tc σ3 H3 fun b H4=>if b=true then tk σ3 H4 fun y H5=>tv σ3 H5 fun v H6=>∃key,y=kV key/\H6 D=some (.dK zs)/\zs.length<ρ/\aDp (P D) i k js σ σ3 (putK zs key v) (upd H6 D (.dK (putK zs key v))) else aDp (P D) i k js σ σ3 zs H4)
  (hd:∀D zs H,P D xs.length zs H->Q (.ref D) H):aEa (ItzM K b c2 a1 a2) k js g tc tk tv σ Q H1:=by
 intro D hD;refine⟨fun i m σ' zs H=>m=xs.length-i/\i<=xs.length/\P D i zs H/\∃os:St,os.length=k/\σ'=os++vX js σ,⟨xs.length,by simp,iy _,h0 D hD,vo k none,oo,rfl⟩,?_⟩;rintro i m σ' zs H ⟨rfl,hi,p,os,ho,rfl⟩;obtain⟨q1,q2⟩:=hl D i zs H hi p
 by_cases hlt:i<xs.length
 ·have hl2:i<ys.length:=by omega
  refine .inr ⟨⟨xs,ys,xs[i],ys[i],q1,q2,by simp[hlt],by simp[hl2]⟩,aDp (P D) i k js σ,fun σ3 zs H3 z=>⟨xs.length-(i+1),by omega,rfl,hlt,z.1,z.2⟩,fun v H' y=>?_⟩;obtain⟨x,y,pa,rfl,hn,rfl,hx,hy⟩:=y;exact hs D i x y zs H pa os ho (hx xs q1) (hy ys q2) p hn
 ·have e:i=xs.length:=by omega
  subst e;exact .inl ⟨⟨xs,ys,q1,q2,.inl (ν _)⟩,hd D zs H p⟩
theorem aCp{lo:Int}{n k:Nat}{tc:TT}{te:TE}{Q:VK}(P:Nat->List V->Hp->Prop)(h0:P 0 [] H1)(hl:∀i ys H,i<=n->P i ys H->ys.length<=i)(hz:n<ρ)
  (hs:∀i ys H,i<n->P i ys H->tc (some (.int (lo+i))::vX js σ) H fun b H2=>if b=true then te (some (.int (lo+i))::vX js σ) H2 fun v H3=>zW P i js σ (some (.int (lo+i))::vX js σ) (ys++[v]) H3 else zW P i js σ (some (.int (lo+i))::vX js σ) ys H2)
  (hd:∀ys H,P n ys H->∀p,H p=none->p≠ly->Q (.ref p) (upd H p (.lst ys)))(hk:k=1:=by rfl):mC (Itr lo n) k js (aQ 0) tc te σ Q H1:=by
 subst hk;refine⟨fun i m σ' ys H=>m=n-i/\i<=n/\P i ys H/\∃o,σ'=o::vX js σ,⟨n,by simp,iy _,h0,none,rfl⟩,?_⟩;rintro i m σ' ys H ⟨rfl,hi,p,o,rfl⟩;have hy:=hl i ys H hi p
 by_cases hlt:i<n
 ·refine .inr ⟨hlt,by omega,zW P i js σ,fun σ3 zs H3 z=>⟨n-(i+1),by omega,rfl,hlt,z.1,z.2⟩,fun x H' y=>?_⟩;obtain⟨e,y⟩:=y;subst e y;exact hs i ys _ hlt p
 ·have e:i=n:=by omega
  subst e;exact .inl ⟨ν _,hd ys H p⟩
end L2
namespace K18
open PySem L2
theorem bH : 0<=ρ:=by decide
theorem aV : 1<=ρ:=by decide
theorem xD : 2<=ρ:=by decide
theorem sJ : 3<=ρ:=by decide
theorem szL4 : 4<=ρ:=by decide
theorem szL5 : 5<=ρ:=by decide
def top (i : Nat) : Stmt := PySem.Challenge.pw_roomslaid_k18_flat_there_and_back.main.body.getD i (.Pass ⟨0,0,0,0⟩)
def inClass:Stmt->Nat->Stmt
 |.ClassDef _ _ _ body _ _ _ _ _ _ _,j=>body.getD j (.Pass ⟨0,0,0,0⟩)
 |s,_=>s
theorem qU{c A B:Prop}[Decidable c](hc:c)(h:A):if c then A else B:=by rw[if_pos hc];exact h
theorem qZ{c A B:Prop}[Decidable c](hc:¬ c)(h:B):if c then A else B:=by rw[if_neg hc];exact h
structure Blt (mg:Str->Option Value):Prop where
 range:mg "range" = none
 len:mg "len" = none
 isinstance:mg "isinstance" = none
 int:mg "int" = none
 bool:mg "bool" = none
 list:mg "list" = none
 all:mg "all" = none
 max:mg "max" = none
 min:mg "min" = none
 reversed:mg "reversed" = none
 tuple:mg "tuple" = none
 divmod:mg "divmod" = none
 str:mg "str" = none
 sum:mg "sum" = none
 zip:mg "zip" = none
 enumerate:mg "enumerate" = none
 dict:mg "dict" = none
 ValueError:mg "ValueError" = none
 repr:mg "repr" = none
structure Df (K:υ) (mg:Str->Option Value) (x:Str) (f:Addr) (fd:oz) (ps:List Str):Prop where
 m:mg x=some (.ref f)
 k:keepIn K (.ref f)=true
 b:Binds K fd ps []
def St3 (H:Hp) (p:Addr):Prop:=∃a b c:Int,H p=some (.lst [.int a,.int b,.int c])
def Drawn (p:Addr) (H H':Hp):Prop:=St3 H' p/\∀b o,b≠p->H b=some o->H' b=some o
theorem Drawn.trans(a:Drawn p H H1)(b:Drawn p H1 H2):Drawn p H H2:=⟨b.1,fun c o n h=>b.2 c o n (a.2 c o n h)⟩
theorem Drawn.refl(h:St3 H p):Drawn p H H:=⟨h,fun _ _ _ q=>q⟩
theorem Drawn.new{H1:Hp}(a:Drawn p H H1)(hl:H1 l=none):Drawn p H (upd H1 l o):=by
 obtain⟨⟨x,y,z,e⟩,h⟩:=a;refine⟨⟨x,y,z,by rw[jZ (jL e hl)];exact e⟩,fun b u n q=>?_⟩;have:=h b u n q;rw[jZ (jL this hl)];exact this
theorem Drawn.same{H:Hp}(a:Drawn p H H')(hp:H p=none):jI H H':=fun b o h=>a.2 b o (jL h hp) h
theorem vY{H:Hp}(h:H p=none)(o:HO):jI H (upd H p o):=fun b u q=>by rw[jZ (jL q h)];exact q
theorem aJa(ns:List Int){i:Int}(h0 : 0<=i)(h1:i<ns.length):∃v:Int,atI (ns.map V.int) i=some (.int v):=by
 have hk:i.toNat<ns.length:=by omega
 have e:i=((i.toNat:Nat):Int):=by omega
 have q:atI (ns.map V.int) ((i.toNat:Nat):Int)=some (.int ns[i.toNat]):=xB (by rw[iq,θ hk] <;> rfl);rw[←e]at q;exact⟨_,q⟩
theorem small{n:Nat}(h:n<=1000):n<=ρ:=pk (kQ h)
def aLr (K:υ):Sp:=fun vs H Q _=>∃(a:Addr) (ns:List Int) (k:Int),vs=[.ref a,.int k]/\SqL K H a (ns.map V.int)/\0<=k/\k<64/\∀v:Int,Q (.int v) H
def aFo (K:υ):Sp:=fun vs H Q _=>∃(a:Addr) (ns:List Int),vs=[.ref a]/\SqL K H a (ns.map V.int)/\ns.length<=63/\∀H',Q (.bl true) H'
theorem jI.tup{K:υ}{H H':Hp}{a:Addr}{xs:List V}(e:jI H H')(h:SqT K H a xs):SqT K H' a xs:=by
 rcases h with (h|⟨o,h⟩)|h
 ·exact .inl (.inl (e _ _ h))
 ·exact .inl (.inr ⟨o,e _ _ h⟩)
 ·exact .inr h
theorem Drawn.tup{K:υ}{p:Addr}{H H':Hp}{a:Addr}{xs:List V}(hs:St3 H p)(e:Drawn p H H')(h:SqT K H a xs):SqT K H' a xs:=by
 obtain⟨x,y,z,hp⟩:=hs;rcases h with (h|⟨o,h⟩)|h
 ·exact .inl (.inl (e.2 _ _ (iJ h hp (by intro z;cases z)) h))
 ·exact .inl (.inr ⟨o,e.2 _ _ (iJ h hp (by intro z;cases z)) h⟩)
 ·exact .inr h
structure sF (K:υ) (mg:Str->Option Value) (x:Str) (C fI:Addr) (as:List Str):Prop where
 m:mg x=some (.ref C)
 cl:Cls K C
 ma:Mk K C fI
 na:∀a∈as,zD K C a
structure DfM (K:υ) (C:Addr) (m:Str) (f:Addr) (fd:oz) (ps:List Str):Prop where
 me:Meth K C m f
 b:Binds K fd ps []
structure DfI (K:υ) (fd:oz) (ps:List Str):Prop where
 b:Binds K fd ps []
structure TX (K:υ) (mg:Str->Option Value) (x:Str) (C R fI:Addr) (as:List Str):Prop where
 m:mg x=some (.ref C)
 c:bC K C R fI
 x:XCls K C (.ref R::VB)
 n:∀a∈as,nu K (.ref C) a=some none
structure TXB (K:υ) (mg:Str->Option Value) (C fI:Addr):Prop where
 m:mg "RoomError" = some (.ref C)
 i:aPe K C fI
 x:XCls K C VB
def Cal (P:jy) (w:mf) (K:υ) (mg:Str->Option Value) (base:kq) (CX:CXT) (k:Nat) (x:Str) (sp:Sp):Prop:=∃f fd ps,Df K mg x f fd ps/\kJ P w K mg base CX k f fd ps sp
def zR (P:jy) (w:mf) (K:υ) (mg:Str->Option Value) (base:kq) (CX:CXT) (k:Nat) (C:Addr) (x:Str) (sp:Sp):Prop:=∃f fd ps,DfM K C x f fd ps/\kJ P w K mg base CX k f fd ps sp
def yF (P:jy) (w:mf) (K:υ) (mg:Str->Option Value) (base:kq) (CX:CXT) (k:Nat) (f:Addr) (sp:Sp):Prop:=∃fd ps,DfI K fd ps/\kJ P w K mg base CX k f fd ps sp
section
variable {P:jy}{w:mf}{K:υ}{mg:Str->Option Value}{base:kq}{CX:CXT}{j k:Nat}{x:Str}{sp:Sp}{f C:Addr}{fd:oz}{ps:List Str}
variable {f:Addr}{fd:oz}
theorem Cal.of(D:Df K mg x f fd ps)(F:kJ P w K mg base CX k f fd ps sp):Cal P w K mg base CX k x sp:=⟨_,_,_,D,F⟩
theorem zR.of(D:DfM K C x f fd ps)(F:kJ P w K mg base CX k f fd ps sp):zR P w K mg base CX k C x sp:=⟨_,_,_,D,F⟩
theorem yF.of(D:DfI K fd ps)(F:kJ P w K mg base CX k f fd ps sp):yF P w K mg base CX k f sp:=⟨_,_,D,F⟩
theorem Cal.o(F:Cal P w K mg base CX j x sp)(h:j<=k:=by omega):Cal P w K mg base CX k x sp:=let ⟨_,_,_,D,G⟩:=F; ⟨_,_,_,D,G.mono h⟩
theorem zR.o(F:zR P w K mg base CX j C x sp)(h:j<=k:=by omega):zR P w K mg base CX k C x sp:=let ⟨_,_,_,D,G⟩:=F; ⟨_,_,_,D,G.mono h⟩
theorem yF.o(F:yF P w K mg base CX j f sp)(h:j<=k:=by omega):yF P w K mg base CX k f sp:=let ⟨_,_,D,G⟩:=F; ⟨_,_,D,G.mono h⟩
end
section
variable {X:Cx}{CX:CXT}{E:XK}{k:Nat}{x:Str}{sp:Sp}{C fI R:Addr}{as:List Str}{S:St->Prop}{e o:Expr}{es:List Expr}{t:TA}{ta:TE}{p pos:Pos}
theorem aI(F:Cal X.prog X.w X.K X.mg X.base CX k x sp)(hr:vQ k X.A)(hg:Gl X x)(hx:xS CX X E)(ha:PA X (e::es) t)(hdb:(x == ("__debug__" : Str))=false:=by decide)(he:il (e::es) X.env=(false,eval e X.env)::il es X.env:=by rfl)(hpl:(rf pos (il es X.env)).any (·.1)=false:=by rfl):
  PE X (.Call (.Name x p) (e::es) [] pos) (tM sp [] E t):=let ⟨_,_,_,D,G⟩:=F;aNj G hr hg D.m D.k D.b .nil hx ha hdb he hpl
theorem aEz(F:Cal X.prog X.w X.K X.mg X.base CX k x sp)(hr:vQ k X.A)(hg:Gl X x)(hx:nN CX X S E)(ha:PA X (e::es) t)(hdb:(x == ("__debug__" : Str))=false:=by decide)(he:il (e::es) X.env=(false,eval e X.env)::il es X.env:=by rfl)(hpl:(rf pos (il es X.env)).any (·.1)=false:=by rfl):
  PE X (.Call (.Name x p) (e::es) [] pos) (aIw S sp [] E t):=let ⟨_,_,_,D,G⟩:=F;aIn G hr hg D.m D.k D.b .nil hx ha hdb he hpl
theorem yA(he:PE X o ta)(c:Cls X.K C)(F:zR X.prog X.w X.K X.mg X.base CX k C m sp)(hr:vQ k X.A)(hx:xS CX X E)
  (ht:eval (.Call (.Attribute o m apos) [] [] pos) X.env=(do
   let ov ←eval o X.env
   standAt apos.atName
   let (f,first) ←xb [ov] (wc ov m pl)
   callWith pos f first (rf pos (il [] X.env)) (backToKw pos (xo [] X.env))):=by rfl):
  PE X (.Call (.Attribute o m apos) [] [] pos) (aOq C m sp [] E ta aKc):=let ⟨_,_,_,D,G⟩:=F;aIk he c D.me G hr D.b .nil hx ht
theorem yQ(T:sF X.K X.mg x C fI as)(F:yF X.prog X.w X.K X.mg X.base CX k fI sp)(hr:vQ (k+1) X.A)(hg:Gl X x)(hx:xS CX X E)
  (ha:PA X (e::es) t)(hdb:(x == ("__debug__" : Str))=false:=by decide)(he:il (e::es) X.env=(false,eval e X.env)::il es X.env:=by rfl)(hpl:(rf pos (il es X.env)).any (·.1)=false:=by rfl):
  PE X (.Call (.Name x p) (e::es) [] pos) (aPk C sp [] E t):=let ⟨_,_,D,G⟩:=F;aNl T.ma G hr hg T.m D.b .nil hx ha hdb he hpl
theorem nK(T:TX X.K X.mg x C R fI as)(F:yF X.prog X.w X.K X.mg X.base (CXE X.prog X.w) k fI sp)(hr:vQ (k+1) X.A)(hg:Gl X x)(hra:aDz X S E)(ha:PA X (e::es) t)
  (hdb:(x == ("__debug__" : Str))=false:=by decide)(he:il (e::es) X.env=(false,eval e X.env)::il es X.env:=by rfl)(hpl:(rf pos (il es X.env)).any (·.1)=false:=by rfl):
  PS X (.Raise (some (.Call (.Name x p) (e::es) [] pos)) none rpos) (aLa S C sp [] E t):=let ⟨_,_,D,G⟩:=F;aJp T.c G hr hg T.m D.b .nil hra ha hdb he hpl
end
section
variable {X:Cx}{k:Nat}{x:Str}{sp:Sp}{C fI:Addr}{as:List Str}{e o a b:Expr}{es:List Expr}{t:TA}{te ta tb:TE}{p p' pos:Pos}{r:R2}{op:CmpOp}{i:Nat}
theorem jF(F:Cal X.prog X.w X.K X.mg X.base CX0 k x sp)(hr:vQ k X.A)(ha:PA X (e::es) t)(hg:Gl X x:=by rfl)(hdb:(x == ("__debug__" : Str))=false:=by decide)(he:il (e::es) X.env=(false,eval e X.env)::il es X.env:=by rfl)(hpl:(rf pos (il es X.env)).any (·.1)=false:=by rfl):
  PE X (.Call (.Name x p) (e::es) [] pos) (tM sp [] E0 t):=aI F hr hg qR ha hdb he hpl
theorem jH(hr:IxR X r)(ha:PE X a ta)(hb:PE X b tb)(hs:uE b:=by exact fun _ _=>rfl):PE X (.Subscript a b pos) (tOp r ta tb):=aOv hr ha hb hs
theorem jS(ho:OpR X (ky op) r)(ha:PE X a ta)(hb:PE X b tb)(h:op≠.In:=by decide)(h2:op≠.NotIn:=by decide):PT X (.Compare a [op] [b] pos) (aIr (tOp r ta tb)):=nZ ho ha hb (vG _ h h2)
theorem jT(i:Nat)(hN:X.N.Nodup)(he:PE X e te)(hi:X.N[i]?=some x:=by rfl)(hx:Loc X.env.scope x:=by first|exact Or.inl rfl|exact Or.inr rfl)(hs:swapsWith e (some (.Name x p')) pos.line X.env=pure false:=by rfl)(hf:X.fn x=true\/X.env.scope.names.lookup x=some .local:=by first|exact .inl rfl|exact .inr rfl|assumption):
  PS X (.Assign [.Name x p'] e pos) (aKi te (aQ i)):=aLw hN hi hx he hs hf
theorem kS(i:Nat)(hN:X.N.Nodup)(hi:X.N[i]?=some x:=by rfl)(hx:Loc X.env.scope x:=by exact Or.inl rfl)(hf:X.fn x=true\/X.env.scope.names.lookup x=some .local:=by first|exact .inl rfl|exact .inr rfl|assumption):PG X (.Name x pos) (aQ i):=nX hN hi hx hf
theorem qN{ys:List Str}(hN:X.N=x::ys)(hx:Loc X.env.scope x:=by exact Or.inl rfl)(hd:(x::ys).Nodup:=by ac_rfl)(hf:X.fn x=true\/X.env.scope.names.lookup x=some .local:=by first|exact .inl rfl|exact .inr rfl|assumption):PG X (.Name x pos) (aQ 0):=nX (i:=0) (hN ▸ hd) (by rw[hN];rfl) hx hf
theorem cP{y:Str}{ys:List Str}(hN:X.N=y::x::ys)(hx:Loc X.env.scope x:=by exact Or.inl rfl)(hd:(y::x::ys).Nodup:=by ac_rfl)(hf:X.fn x=true\/X.env.scope.names.lookup x=some .local:=by first|exact .inl rfl|exact .inr rfl|assumption):PG X (.Name x pos) (aQ 1):=nX (i:=1) (hN ▸ hd) (by rw[hN];rfl) hx hf
theorem jU{c A B:Prop}[Decidable c](h:B)(hc:¬ c:=by decide):if c then A else B:=qZ hc h
theorem kR{c A B:Prop}[Decidable c](h:A)(hc:c:=by decide):if c then A else B:=qU hc h
theorem sF.nd{K:υ}{m:Str}(T:sF K mg x C fI as)(h:m∈as:=by decide):zD K C m:=T.na _ h
end
def aId:List Str:=["shape","num","row","pick","tag","room","things","part","tags","put","take","many","look","which","store","choose","copy","each","span","if","else","end","out"]
abbrev zY:Str:="abcdefghijklmnopqrstuvwxyz"
abbrev bL:Str:="0123456789"
structure Cst (K:υ) (mg:Str->Option Value) (t1 t2 t3 t4 t5 t6 t7 t8 t9 t10 t11 t12 t13:Tok) (ts:Addr):Prop where
 SMALL_LETTERS:mg "SMALL_LETTERS" = some (.str "abcdefghijklmnopqrstuvwxyz" t1)
 FIGURES:mg "FIGURES" = some (.str "0123456789" t2)
 MOST_LETTERS:mg "MOST_LETTERS" = some (.int 6 t3)
 MOST_FIGURES:mg "MOST_FIGURES" = some (.int 10 t4)
 MOST_SHAPES:mg "MOST_SHAPES" = some (.int 8 t5)
 MOST_FIELDS:mg "MOST_FIELDS" = some (.int 6 t6)
 MOST_CELLS:mg "MOST_CELLS" = some (.int 64 t7)
 MOST_UNITS:mg "MOST_UNITS" = some (.int 40 t8)
 MOST_DEPTH:mg "MOST_DEPTH" = some (.int 4 t9)
 MOST_WIDTH:mg "MOST_WIDTH" = some (.int 4 t10)
 MOST_COUNT:mg "MOST_COUNT" = some (.int 6 t11)
 LEAST_PICKED:mg "LEAST_PICKED" = some (.int 2 t12)
 MOST_PICKED:mg "MOST_PICKED" = some (.int 4 t13)
 OWN_WORDS:mg "OWN_WORDS" = some (.ref ts)
 words:∀H,SqT K H ts (aId.map V.str)
def tyA (K:υ) (x:V) (H:Hp) (t:String):Prop:=tyN K x H t\/(t = "dict"/\∃p kvs,x=.ref p/\H p=some (.dK kvs))
theorem jI.tyA{K:υ}(g:jI H H')(h:tyA K x H t):tyA K x H' t:=by
 rcases h with h|⟨e,p,kvs,ex,h⟩
 ·left;cases x with
  |ref p =>
   rcases h with⟨e,xs,h⟩|⟨e,xs,h⟩
   ·exact .inl ⟨e,xs,g.seq h⟩
   ·exact .inr ⟨e,xs,jI.tup g h⟩
  |_=>exact h
 ·exact .inr ⟨e,p,kvs,ex,g _ _ h⟩
def within (x:Str) (most:Int):Bool:=decide (1<=(x.length:Int))&&decide ((x.length:Int)<=most)
def aBi (x signs:Str):Bool:=x.cps.toList.all fun c=>decide (c∈signs.cps.toList)
def kY (x:Str):Bool:=within x 6&&aBi x zY&&!decide (x∈aId)
def aCj (x:Str):Bool:=decide (x.cps.toList[0]?=some 48)&&decide (1<(x.length:Int))
def wI (x:Str):Option Int:=if (within x 10&&aBi x bL&&!aCj x)=true then some ((PySem.NumText.digitsVal x.cps.toList:Nat):Int) else none
def optV:Option Int->V
 |none=>.non
 |some n=>.int n
def cS (o:Option Int) (lo hi:Int):Option Int:=match o with
 |none=>none
 |some n=>if lo<=n/\n<=hi then some n else none
def pR (K:υ):Sp:=fun vs H Q _=>∃(x:V) (signs:Str) (most:Int),vs=[x,.str signs,.int most] ∧
 ((∃z:Str,x=.str z/\z.length<=1000/\∀H',jI H H'->Q (.bl (within z most&&aBi z signs)) H')\/(∃t,tyA K x H t/\t ≠ "str"/\Q (.bl false) H))
inductive rG (K:υ) (vs:List V) (H:Hp) (Q:VK):Prop|mk:∀x:V,vs=[x]->(((∃z:Str,x=.str z/\z.length<=1000/\∀H',jI H H'->Q (.bl (kY z)) H')\/(∃t,tyA K x H t/\t ≠ "str"/\∀H',jI H H'->Q (.bl false) H')))->rG K vs H Q
def bK (K:υ):Sp:=fun vs H Q _=>rG K vs H Q
inductive iM (K:υ) (vs:List V) (H:Hp) (Q:VK):Prop|mk:∀(x:V) (lo hi:Int),vs=[x,.int lo,.int hi]->(((∃z:Str,x=.str z/\z.length<=1000/\∀H',jI H H'->Q (optV (cS (wI z) lo hi)) H')\/(∃t,tyA K x H t/\t ≠ "str"/\∀H',jI H H'->Q .non H')))->iM K vs H Q
def gQ (K:υ):Sp:=fun vs H Q _=>iM K vs H Q
theorem gY(x:Str)(ys:List Str):inV (.str x) (ys.map V.str)=decide (x∈ys):=by
 rw[rg];simp only[inV,List.any_map,List.any_eq_true,Function.comp,decide_eq_true_eq,eqV,beq_iff_eq];constructor
 ·rintro ⟨y,hy,rfl⟩;exact hy
 ·intro h;exact⟨x,h,rfl⟩
theorem eO(ys:List Str):(ys.map V.str).all eG=true:=by
 rw[ji];intro x hx;obtain⟨n,_,rfl⟩:=jf.mp hx;rfl
theorem tR:zY.cps.toList=List.range' 97 26:=by ac_rfl
theorem wO:bL.cps.toList=List.range' 48 10:=by ac_rfl
theorem dG(c:Nat):c∈zY.cps.toList ↔ 97<=c/\c<=122:=by
 rw[tR,List.mem_range'_1];omega
theorem aBe(c:Nat):c∈bL.cps.toList ↔ 48<=c/\c<=57:=by
 rw[wO,List.mem_range'_1];omega
theorem aKf(f:Nat->Bool)(l:List Nat)(i:Nat)(h:l[i]?=some c):((l.take (i+1)).map f)=(l.take i).map f++[f c]:=by
 rw[jt,h,χ] <;> rfl
theorem all_map(f:Nat->Bool)(l:List Nat):(l.map f).all id=l.all f:=by
 rw[List.all_map];rfl
theorem isa1(h:isa t "int" = true):(!isa t "bool")=(t == "int"):=by
 unfold isa at *;simp at h;rcases h with rfl|rfl <;> decide
theorem isa2(h:¬ isa t "int" = true):false=(t == "int"):=by
 by_cases e:t = "int"
 ·subst e;exact absurd (by decide) h
 ·simp[e]
theorem isa3{t:String}(h:t ≠ "str"):isa t "str" = false:=by
 unfold isa;simp[h]
theorem is_0{c:Nat}: decide (V.str ⟨#[c]⟩=V.str (ε "0"))=decide (c=48):=by
 have e:(ε "0")=⟨#[48]⟩:=by ac_rfl
 rw[e,rg,decide_eq_true_eq,decide_eq_true_eq];constructor
 ·intro h;injection h with h;injection h with h;simpa using h
 ·rintro rfl;rfl
theorem jI.st3(g:jI H H')(h:St3 H p):St3 H' p:=by
 obtain⟨x,y,z,e⟩:=h;exact⟨x,y,z,g _ _ e⟩
theorem Drawn.keep(d:Drawn p H H1)(g:jI H1 H2):Drawn p H H2:=⟨jI.st3 g d.1,fun b o n e=>g _ _ (d.2 b o n e)⟩
theorem len_list(z:Str):z.cps.toList.length=z.length:=nh
theorem eV(p:Str):Str.empty++p=p:=Str.ext' (by rw[sq];simp[Str.empty])
theorem aKx{a:Nat}(h:a<=5000):a<=ρ:=by rw[jk];omega
def dW:Sp:=fun vs H Q _=>∃(p:Str) (x:V) (y:Str),vs=[.str p,x]/\aAu x=some y/\p.length<=1000/\y.length<=1000/\Q (.str (pj p y)) H
inductive aCa (vs:List V) (H:Hp) (Q:VK):Prop|mk:∀(p:Addr) (m:Int),vs=[.ref p,.int m]->0<m->m<1099511627776->St3 H p->(∀(v:Nat) (H':Hp),(v:Int)<m->Drawn p H H'->Q (.int v) H')->aCa vs H Q
def fL:Sp:=fun vs H Q _=>aCa vs H Q
def aPi:Sp:=fun vs H Q _=>∃c:Int,vs=[.int c]/\∀(p:Addr) (H':Hp),H p=none->Drawn p H H'->Q (.ref p) H'
structure Wds (K:υ) (H:Hp) (a:Addr) (ws:List Str):Prop where
 l:SqL K H a (ws.map V.str)
 s:∀w∈ws,w.length<=1000
 n:ws.length<=1000
theorem Wds.same{K:υ}(h:Wds K H a ws)(g:jI H H'):Wds K H' a ws:=⟨g.seq h.l,h.s,h.n⟩
def aAp:List Str->Bool
 |[x,y]=>decide (x=ε "shape")&&kY y
 |_=>false
def aOy (K:υ):Sp:=fun vs H Q _=>∃(a:Addr) (ws:List Str),vs=[.ref a]/\Wds K H a ws/\∀H',jI H H'->Q (.bl (aAp ws)) H'
inductive aIl (C:Addr) (n:Str) (vs:List V) (H:Hp) (Q:VK):Prop|mk:∀(a dx:Addr) (v:V) (H1:Hp),vs=[.ref a,v]->H a=some (.ins C dx [])->jI H1 H->H1 a=none->(∀H',jI H1 H'->H' a=some (.ins C dx [(n,v)])->Q .non H')->aIl C n vs H Q
def rW (C:Addr) (n:Str):Sp:=fun vs H Q _=>aIl C n vs H Q
def spI2 (C:Addr) (n m:Str):Sp:=fun vs H Q _=>∃(a dx:Addr) (v u:V) (H1:Hp),vs=[.ref a,v,u]/\H a=some (.ins C dx [])/\jI H1 H/\H1 a=none/\∀H',jI H1 H'->H' a=some (.ins C dx [(n,v),(m,u)])->Q .non H'
def spIT (K:υ) (C:Addr) (n:Str):Sp:=fun vs H Q _=>∃(a dx l:Addr) (ys:List V) (H1:Hp),vs=[.ref a,.ref l]/\H a=some (.ins C dx [])/\jI H1 H/\H1 a=none/\SqL K H1 l ys/\∀t H',jI H1 H'->H' a=some (.ins C dx [(n,.ref t)])->SqT K H' t ys->Q .non H'
def aJw (c:Cl5) (K:υ):Sp:=fun vs H Q _=>∃(a dx fl:Addr) (nm:Str) (ps:List Addr) (fs:List (Str×Kd)) (sa:List Addr) (H1:Hp),vs=[.ref a,.str nm,.ref fl]/\H a=some (.ins c.shape dx [])/\jI H1 H/\H1 a=none/\(SqL K H1 fl (ps.map V.ref)\/SqT K H1 fl (ps.map V.ref))/\FO c K H1 sa ps fs/\fs.length<=100 ∧
 ∀t ps' H',jI H1 H'->H' a=some (.ins c.shape dx [("name",.str nm),("fields",.ref t)])->SqT K H' t (ps'.map V.ref)->FO c K H' sa ps' fs->Q .non H'
def spGr (c:Cl5) (K:υ) (r:Nat):Sp:=fun vs H Q _=>∃(a:Addr) (is:List Nat) (sa:List Addr) (S:List Shp),vs=[.ref a]/\(Kd.pick is).Rk r/\(Kd.pick is).Fit S.length/\KO c K H sa a (.pick is)/\SW c K H sa S/\Good S/\∀H',jI H H'->Q (.int ((xE (is.map fun i=>(tabs S).sz.getD i 0):Nat):Int)) H'
def aPl (c:Cl5) (K:υ) (r:Nat):Sp:=fun vs H Q _=>∃(a:Addr) (i:Nat) (sa:List Addr) (S:List Shp),vs=[.ref a]/\sa[i]?=some a/\2*i+2<=r/\8*r<=200/\SW c K H sa S/\Good S/\∀l H',jI H H'->H l=none->UL K H' l (un (.nest i) S Str.empty)->Q (.ref l) H'
theorem FO.insD{K:υ}{H:Hp}{x:V}(h:FO c K H sa ps fs)(ha:H a=some (.ins C dx [("name",x)])):FO c K (upd H a o) sa ps fs:=by
 have n:∀{b C' dx' fs'},H b=some (.ins C' dx' fs')->fs'.head?.map (·.1)≠some ("name" : Str)->upd H a o b=some (.ins C' dx' fs'):=fun hb z=>by
  rw[jZ (fun e=>z (by rw[e,ha]at hb;cases hb;rfl))];exact hb
 have t:∀{b xs},SqT K H b xs->SqT K (upd H a o) b xs:=fun h=>by
  rcases h with (h|⟨o',h⟩)|h
  ·exact .inl (.inl (by rw[jZ (iJ h ha (by intro z;cases z))];exact h))
  ·exact .inl (.inr ⟨o',by rw[jZ (iJ h ha (by intro z;cases z))];exact h⟩)
  ·exact .inr h
 have kk:∀{b kd},KO c K H sa b kd->KO c K (upd H a o) sa b kd:=fun h=>by
  induction h with
  |num h=>exact .num (n h (by show some (ε "width")≠some (ε "name");decide))
  |nest e h=>exact .nest e (n h (by show some (ε "shape")≠some (ε "name");decide))
  |many h _ ih=>exact .many (n h (by show some (ε "count")≠some (ε "name");decide)) ih
  |pick h h2 l e=>exact .pick (n h (by show some (ε "shapes")≠some (ε "name");decide)) (t h2) l e
 induction h with
 |nil=>exact .nil
 |cons h1 h2 _ ih=>exact .cons (t h1) (kk h2) ih
def NOk (nm:Nat->Str) (n:Nat):Prop:=∀i,i<n->kY (nm i)=true
theorem vK(h:kY x=true): 1<=x.length/\x.length<=6:=by
 unfold kY within at h;simp only[jv,decide_eq_true_eq]at h;omega
theorem cL{y:Str}(h:kY x=true)(hy:y∈aId):x≠y:=by
 rintro rfl;unfold kY at h;simp only[jv,Bool.not_eq_true',decide_eq_false_iff_not]at h;exact h.2 hy
theorem dig{w:Nat}(h:w<=9):wI (ε (toString (w:Int)))=some (w:Int)/\(ε (toString (w:Int))).length=1/\kY (ε (toString (w:Int)))=false/\PySem.intText? (ε (toString (w:Int)))=some (w:Int):=by
 have:∀m:Fin 10,wI (ε (toString ((m.val:Nat):Int)))=some ((m.val:Nat):Int)/\(ε (toString ((m.val:Nat):Int))).length=1/\kY (ε (toString ((m.val:Nat):Int)))=false/\PySem.intText? (ε (toString ((m.val:Nat):Int)))=some ((m.val:Nat):Int):=by ac_rfl
 exact this ⟨w,by omega⟩
theorem pF:kY (ε "num")=false/\kY (ε "row")=false/\kY (ε "pick")=false:=by ac_rfl
def Kd.named (nm:Nat->Str):Kd->List Str
 |.num _=>[]
 |.nest i=>[nm i]
 |.many _ k=>Kd.named nm k
 |.pick is=>is.map nm
theorem wM(hn:NOk nm n):∀{k:Kd},k.Fit n->(k.words nm).filter kY=Kd.named nm k:=by
 have hnum:∀w,w<=9->((Kd.num w).words nm).filter kY=[]:=fun w hw=>by
  show[ε "num",ε (toString (w:Int))].filter kY=[];rw[ph (by rw[pF.1];decide),ph (by rw[(dig hw).2.2.1];decide)];rfl
 have hnest:∀i,i<n->((Kd.nest i).words nm).filter kY=[nm i]:=fun i hi=>by
  show[nm i].filter kY=_;rw[List.filter_cons_of_pos (hn i hi)];rfl
 intro k hk;cases k with
 |num w=>exact hnum w (by have:=hk.2;omega)
 |nest i=>exact hnest i hk
 |many m k =>
  show(ε "row" :: ε (toString (m:Int))::k.words nm).filter kY=Kd.named nm k;rw[ph (by rw[pF.2.1];decide),ph (by rw[(dig (by have:=hk.2.1;omega)).2.2.1];decide)];rcases hk.2.2 with⟨w,rfl,hw⟩|⟨i,rfl,hi⟩
  ·exact hnum w (by omega)
  ·exact hnest i hi
 |pick is =>
  show(ε "pick" :: is.map nm).filter kY=is.map nm;rw[ph (by rw[pF.2.2];decide),List.filter_eq_self.mpr];intro x hx;obtain⟨i,hi,rfl⟩:=jf.mp hx;exact hn i (hk.2.2.2 i hi)
theorem eW{nm:Nat->Str}{n:Nat}(hn:NOk nm n):∀{k:Kd},k.Fit n->(∀w∈k.words nm,w.length<=6)/\(k.words nm).length<=5:=by
 have hnum:∀w,w<=9->∀x∈(Kd.num w).words nm,x.length<=6:=fun w hw x hx=>by
  simp only[Kd.words,Φ,jp,or_false]at hx;rcases hx with rfl|rfl
  ·decide
  ·rw[(dig hw).2.1];decide
 have hnest:∀i,i<n->∀x∈(Kd.nest i).words nm,x.length<=6:=fun i hi x hx=>by
  rw[Ψ.mp (show x∈[nm i] from hx)];exact(vK (hn i hi)).2
 intro k hk;cases k with
 |num w=>exact⟨hnum w (by have:=hk.2;omega),by show 2<=5;decide⟩
 |nest i=>exact⟨hnest i hk,by show 1<=5;decide⟩
 |many m k =>
  have:(∀x∈k.words nm,x.length<=6)/\(k.words nm).length<=2:=by
   rcases hk.2.2 with⟨w,rfl,hw⟩|⟨i,rfl,hi⟩
   ·exact⟨hnum w (by omega),by show 2<=2;decide⟩
   ·exact⟨hnest i hi,by show 1<=2;decide⟩
  refine⟨fun x hx=>?_,by show(k.words nm).length+1+1<=5;omega⟩;simp only[Kd.words,Φ]at hx;rcases hx with rfl|rfl|hx
  ·decide
  ·rw[(dig (by have:=hk.2.1;omega)).2.1];decide
  ·exact this.1 x hx
 |pick is =>
  refine⟨fun x hx=>?_,by show(is.map nm).length+1<=5;rw[δ];have:=hk.2.1;omega⟩;simp only[Kd.words,Φ,jf]at hx;rcases hx with rfl|⟨i,hi,rfl⟩
  ·decide
  ·exact(vK (hn i (hk.2.2.2 i hi))).2
def spSg (K:υ):Sp:=fun vs H Q _=>∃(a:Addr) (ws:List Str),vs=[.ref a]/\SqL K H a (ws.map V.str)/\((∃w:Nat,1<=w/\w<=4/\ws=[ε "num",ε (toString (w:Int))])\/∃x,kY x=true/\ws=[x])/\∀H',jI H H'->Q (.bl true) H'
def spKd (K:υ):Sp:=fun vs H Q _=>∃(a:Addr) (nm:Nat->Str) (n:Nat) (kd:Kd),vs=[.ref a]/\SqL K H a ((kd.words nm).map V.str)/\kd.Fit n/\NOk nm n/\∀H',jI H H'->Q (.bl true) H'
def spFl (K:υ):Sp:=fun vs H Q _=>∃(a:Addr) (nm:Nat->Str) (n:Nat) (kd:Kd) (f:Str),vs=[.ref a]/\SqL K H a ((f::kd.words nm).map V.str)/\kY f=true/\kd.Fit n/\NOk nm n/\∀H',jI H H'->Q (.bl true) H'
def aEy (K:υ):Sp:=fun vs H Q _=>∃(a:Addr) (nm:Nat->Str) (n:Nat) (kd:Kd) (f:Str),vs=[.ref a]/\SqL K H a ((f::kd.words nm).map V.str)/\kd.Fit n/\NOk nm n/\∀l H',jI H H'->H l=none->H' l=some (.lst ((Kd.named nm kd).map V.str))->Q (.ref l) H'
theorem tF{f:Str->Bool}{l:List Str}{i:Nat}(h:l[i]?=some a):(l.take (i+1)).filter f=(l.take i).filter f++(if f a=true then [a] else []):=by
 rw[jt,h,List.filter_append]
 congr 1
 show[a].filter f=_
 by_cases z:f a=true
 ·rw[if_pos z,List.filter_cons_of_pos z];rfl
 ·rw[if_neg z,ph z];rfl
theorem bS{ns:List Str}{i:Nat}(h:(ns.map V.str)[i]?=some x):∃c,ns[i]?=some c/\x=.str c:=by
 rw[iq]at h;cases e:ns[i]? with
 |none=>rw[e]at h;cases h
 |some c=>rw[e]at h;cases h;exact⟨c,rfl,rfl⟩
def spLJ:Sp:=fun vs H Q _=>∃(p y:Str),vs=[.str p,.str y]/\p.length<=1000/\y.length<=1000/\1<=y.length/\Q (.str (pj p y)) H
structure Wel (S:List Shp):Prop where
 good:Good S
 nm:∀s∈S,kY s.1=true
 fnm:∀s∈S,∀f∈s.2,kY f.1=true
 nd:(S.map (·.1)).Nodup
 fnd:∀s∈S,(s.2.map (·.1)).Nodup
 len:S.length<=4
 bd:∀(i:Nat) (s:Shp),S[i]?=some s->(tabs S).sz.getD i 0<=64/\(un (.nest i) S Str.empty).length<=40/\(tabs S).dp.getD i 0<=4/\s.2.length<=6
theorem bT{α : Type}{S:List α}{x y : α}{i:Nat}(h:(S++[x])[i]?=some y):S[i]?=some y\/(i=S.length/\y=x):=by
 by_cases hi:i<S.length
 ·rw[iz hi]at h;exact .inl h
 ·rw[ij (by omega)]at h;have:i-S.length<1:=(η.mp h).1;have e:i=S.length:=by omega
  subst e;rw[nr]at h;cases h;exact .inr ⟨rfl,rfl⟩
theorem Good.snoc{s:Shp}(h:Good S1)(h1:s.2≠[])(h2:s.2.length<=6)(h3:∀f∈s.2,f.2.Fit S1.length/\1<=f.1.length/\f.1.length<=6)(h4:(s.2.map fun f=>f.2.size (tabs S1).sz).sum<=1000):Good (S1++[s]):=by
 refine⟨fun i t e=>?_,fun i t e=>?_,fun i t e=>?_,fun i=>?_⟩
 ·rcases bT e with e|⟨_,rfl⟩
  ·exact h.ne i t e
  ·exact h1
 ·rcases bT e with e|⟨_,rfl⟩
  ·exact h.few i t e
  ·exact h2
 ·rcases bT e with e|⟨rfl,rfl⟩
  ·exact h.fit i t e
  ·exact h3
 ·by_cases hi:i<S1.length
  ·rw[(nM hi).1];exact h.sz i
  ·by_cases e:i=S1.length
   ·subst e;rw[(cA S1 s []).1];exact h4
   ·have hl:=(bM (S1++[s])).1;rw[ι,ki]at hl;rw[ω,yr (by omega)];exact iy _
theorem Good.pre{S1 S2:List Shp}(h:Good (S1++S2)):Good S1:=by
 refine⟨fun i t e=>h.ne i t ?_,fun i t e=>h.few i t ?_,fun i t e=>h.fit i t ?_,fun i=>?_⟩
 ·rw[iz (η.mp e).1];exact e
 ·rw[iz (η.mp e).1];exact e
 ·rw[iz (η.mp e).1];exact e
 ·by_cases hi:i<S1.length
  ·rw[←(nM (R:=S2) hi).1];exact h.sz i
  ·have hl:=(bM S1).1;rw[ω,yr (by omega)];exact iy _
def aBd (S:List Shp) (i:Nat):Prop:=(tabs S).sz.getD i 0<=64/\(un (.nest i) S Str.empty).length<=40/\(tabs S).dp.getD i 0<=4
theorem Wel.pre{S S1 S2:List Shp}{s:Shp}{f1 f2:List (Str×Kd)}(h:Wel S)(e:S=S1++s::S2)(ef:s.2=f1++f2)(hne:f1≠[]):Good (S1++[(s.1,f1)])/\aBd (S1++[(s.1,f1)]) S1.length/\f1.length<=6:=by
 subst e;have hi:(S1++s::S2)[S1.length]?=some s:=by rw[ij (ν _),nr];rfl
 obtain⟨b1,b2,b3,b4⟩:=h.bd _ _ hi;obtain⟨t1,t2,t3⟩:=cA S1 s S2;obtain⟨u1,u2,u3⟩:=cA S1 (s.1,f1) [];rw[ef,ι]at b4;have z1:(f1.map fun f=>f.2.size (tabs S1).sz).sum<=64:=by
  rw[t1,ef,χ,List.sum_append]at b1;omega
 have hfit:=h.good.fit _ _ hi;refine⟨Good.snoc (Good.pre h.good) hne (by show f1.length<=6;omega) (fun f hf=>hfit f (by rw[ef];exact nv _ hf)) (by show(f1.map _).sum<=1000;omega),⟨by rw[u1];exact z1,?_,?_⟩,by omega⟩
 ·have e1:un (.nest S1.length) (S1++[(s.1,f1)]) Str.empty=_:=u3 Str.empty;have e2:un (.nest S1.length) (S1++s::S2) Str.empty=_:=t3 Str.empty;rw[e2,ef,qe,ι]at b2;rw[e1];show(f1.flatMap _).length<=40;omega
 ·rw[u2];rw[t2,ef,χ]at b3;have:xE (f1.map fun f=>f.2.depth (tabs S1).dp)<=xE ((f1.map fun f=>f.2.depth (tabs S1).dp)++(f2.map fun f=>f.2.depth (tabs S1).dp)):=wB fun x hx=>eQ (nv _ hx);show 1+xE (f1.map fun f=>f.2.depth (tabs S1).dp)<=4;omega
theorem vF{S:List Shp}{i:Nat}(h:S[i]?=some s):kL S i=s.1:=by
 unfold kL;rw[ω,h];rfl
theorem aJf{S1 S2:List Shp}{i:Nat}(h:i<S1.length):kL (S1++S2) i=kL S1 i:=by
 have e:S1[i]?=some S1[i]:=θ h;rw[vF e,vF (by rw[iz h];exact e)]
theorem mI{nm nm':Nat->Str}{n:Nat}(h:∀i,i<n->nm i=nm' i):∀{k:Kd},k.Below n->k.words nm=k.words nm'
 |.num _,_=>rfl
 |.nest i,hk=>by show[nm i]=[nm' i];rw[h i hk]
 |.many m k,hk=>by show _::_::k.words nm=_::_::k.words nm';rw[mI h (k:=k) hk]
 |.pick is,hk=>by
  show _::is.map nm=_::is.map nm';rw[wo fun i hi=>h i (hk i hi)]
theorem aCy{S:List Shp}(h:∀s∈S,kY s.1=true):NOk (kL S) S.length:=fun i hi=>by
 have e:S[i]?=some S[i]:=θ hi;rw[vF e];exact h _ (md hi)
theorem aJs{S:List Shp}(h:(S.map (·.1)).Nodup){i j:Nat}(hi:i<S.length)(hj:j<S.length)(e:kL S i=kL S j):i=j:=by
 have ei:S[i]?=some S[i]:=θ hi;have ej:S[j]?=some S[j]:=θ hj;rw[vF ei,vF ej]at e;have hp:=qf.mp h;rcases Nat.lt_trichotomy i j with hl|hl|hl
 ·exact absurd (by rw[zf,zf];exact e) (hp i j (by rw[δ];exact hi) (by rw[δ];exact hj) hl)
 ·exact hl
 ·exact absurd (by rw[zf,zf];exact e.symm) (hp j i (by rw[δ];exact hj) (by rw[δ];exact hi) hl)
theorem aAa{S:List Shp}(h:(S.map (·.1)).Nodup):∀{k:Kd},k.Fit S.length->(Kd.named (kL S) k).Nodup/\(Kd.named (kL S) k).length<=4/\∀x∈Kd.named (kL S) k,∃i,i<S.length/\x=kL S i:=by
 have hs:∀{k:Kd},(∃w,k=.num w/\1<=w/\w<=4)\/(∃i,k=.nest i/\i<S.length)->(Kd.named (kL S) k).Nodup/\(Kd.named (kL S) k).length<=4/\∀x∈Kd.named (kL S) k,∃i,i<S.length/\x=kL S i:=by
  rintro k (⟨w,rfl,_⟩|⟨i,rfl,hi⟩)
  ·exact⟨yd,iy _,fun x hx=>by cases hx⟩
  ·exact⟨ul _ _,(by show 1<=4;decide),fun x hx=>⟨i,hi,Ψ.mp hx⟩⟩
 intro k hk;cases k with
 |num w=>exact hs (.inl ⟨w,rfl,hk⟩)
 |nest i=>exact hs (.inr ⟨i,rfl,hk⟩)
 |many m k=>exact hs (k:=k) hk.2.2
 |pick is =>
  refine⟨?_,by show(is.map _).length<=4;rw[δ];exact hk.2.1,fun x hx=>?_⟩
  ·show(is.map (kL S)).Pairwise (·≠·);rw[vj];exact hk.2.2.1.imp_of_mem fun ha hb ne e=>ne (aJs h (hk.2.2.2 _ ha) (hk.2.2.2 _ hb) e)
  ·obtain⟨i,hi,rfl⟩:=jf.mp hx;exact⟨i,hk.2.2.2 i hi,rfl⟩
theorem aNf{ws:List Str}(h:kY n=true):aAp (n::ws)=false:=by
 match ws with
 |[]=>rfl
 |[y] =>
  show(decide (n=ε "shape")&&kY y)=false;rw[decide_eq_false (cL h (by decide)),qt]
 |_::_::_=>rfl
def aOp (c:Cl5) (K:υ):Sp:=fun vs H Q _=>∃(tl:Addr) (x:V) (nm:Str) (sa:List Addr) (T:List Shp),vs=[.ref tl,x,.str nm]/\H tl=some (.lst (sa.map V.ref))/\SW c K H sa T/\(∀s∈T,s.2≠[])/\nm∉T.map (·.1)/\T.length<8/\∀H',jI H H'->Q .non H'
def spWh (c:Cl5) (K:υ):Sp:=fun vs H Q _=>∃(tl z:Addr) (sa:List Addr) (T:List Shp) (s:Shp),vs=[.ref tl]/\H tl=some (.lst ((sa++[z]).map V.ref))/\SW c K H (sa++[z]) (T++[s])/\(T.map (·.1)).Nodup/\T.length<=100/\∀d H',jI H H'->H d=none->H' d=some (.dK (dk T sa))->Q (.ref d) H'
def spNF (c:Cl5) (K:υ):Sp:=fun vs H Q _=>∃(tl a z:Addr) (x:V) (sa:List Addr) (T:List Shp) (s:Shp) (fn:Str) (kd:Kd),vs=[.ref tl,x,.ref a]/\H tl=some (.lst ((sa++[z]).map V.ref))/\SW c K H (sa++[z]) (T++[s])/\SqL K H a ((fn::kd.words (kL T)).map V.str)/\kY fn=true/\fn∉s.2.map (·.1)/\s.2.length<=100/\kd.Fit T.length/\NOk (kL T) T.length/\(T.map (·.1)).Nodup/\T.length<=100/\∀H',jI H H'->Q .non H'
inductive aGc (c:Cl5) (K:υ) (n:Nat) (vs:List V) (H:Hp) (Q:VK):Prop|mk:∀(a d:Addr) (kd:Kd) (sa:List Addr) (T:List Shp),vs=[.ref a,.ref d]->kd.lv<n->SqL K H a ((kd.words (kL T)).map V.str)->H d=some (.dK (dk T sa))->kd.Fit T.length->NOk (kL T) T.length->(T.map (·.1)).Nodup->sa.length=T.length->(∀k H',jI H H'->KO c K H' sa k kd->Q (.ref k) H')->aGc c K n vs H Q
def aFc (c:Cl5) (K:υ) (n:Nat):Sp:=fun vs H Q _=>aGc c K n vs H Q
def spTM (c:Cl5) (K:υ) (r:Nat):Sp:=fun vs H Q _=>∃(a:Addr) (i:Nat) (sa:List Addr) (S:List Shp),vs=[.ref a]/\sa[i]?=some a/\2*i+2<=r/\8*r<=200/\SW c K H sa S/\Good S/\aBd S i/\∀H',jI H H'->Q (.bl false) H'
def spWF (c:Cl5) (K:υ) (r:Nat):Sp:=fun vs H Q _=>∃(tl a z:Addr) (x:V) (sa:List Addr) (T:List Shp) (s:Shp) (fn:Str) (kd:Kd),vs=[.ref tl,x,.ref a]/\H tl=some (.lst ((sa++[z]).map V.ref))/\SW c K H (sa++[z]) (T++[s])/\SqL K H a ((fn::kd.words (kL T)).map V.str)/\kd.Fit T.length/\NOk (kL T) T.length/\(T.map (·.1)).Nodup/\T.length<=100/\2*T.length+2<=r/\8*r<=200/\s.2.length<=50/\Good (T++[(s.1,s.2++[(fn,kd)])])/\aBd (T++[(s.1,s.2++[(fn,kd)])]) T.length ∧
 ∀y H',jI H H'->SO c K H' sa y (s.1,s.2++[(fn,kd)])->Q (.ref y) H'
def txt (S:List Shp):Str:=jo nlS ((nL S).map (jo spS))
def spRd (c:Cl5) (CS:Addr) (K:υ) (r:Nat):Sp:=fun vs H Q _=>∃S:List Shp,vs=[.str (txt S)]/\Wel S/\S≠[]/\12<=r/\8*r<=200/\∀(a dx t:Addr) (sa:List Addr) H',jI H H'->H' a=some (.ins CS dx [("shapes",.ref t)])->SqT K H' t (sa.map V.ref)->SW c K H' sa S->Q (.ref a) H'
theorem pZ(h:kY x=true):Pln x:=by
 unfold kY at h;simp only[jv]at h;have ha:x.cps.toList.all (fun c=>decide (c∈zY.cps.toList))=true:=h.1.2;have hc:∀c∈x.cps.toList,97<=c/\c<=122:=fun c hc=>(dG c).mp (of_decide_eq_true (ji.mp ha c hc));exact⟨fun z=>by have:=hc _ z;omega,fun z=>by have:=hc _ z;omega⟩
theorem aFz(hW:Wel S):∀it∈vH S,(∀w∈it.line (kL S),Pln w/\w.length<=6)/\(it.line (kL S)).length<=6/\it.line (kL S)≠[]:=by
 intro it hit;obtain⟨s,hs,hit⟩:=List.mem_flatMap.mp hit;have hn:=aCy hW.nm;unfold iN at hit;rcases Φ.mp hit with rfl|hit
 ·refine⟨fun w hw=>?_,(by show 2<=6;decide),(by simp[Itm.line])⟩;simp only[Itm.line,Φ,jp,or_false]at hw;rcases hw with rfl|rfl
  ·exact⟨by unfold Pln;ac_rfl,by decide⟩
  ·exact⟨pZ (hW.nm s hs),(vK (hW.nm s hs)).2⟩
 ·obtain⟨f,hf,rfl⟩:=jf.mp hit;obtain⟨i,hi⟩:=lc.mp hs;have hfit:f.2.Fit S.length:=(hW.good.fit i s hi f hf).1.mono (pk (η.mp hi).1);have hnm:=hW.fnm s hs f hf;obtain⟨w6,w5⟩:=eW hn hfit;refine⟨fun w hw=>?_,(by show(f.2.words (kL S)).length+1<=6;omega),(by simp[Itm.line])⟩;rcases Φ.mp (show w∈f.1::f.2.words (kL S) from hw) with rfl|hw
  ·exact⟨pZ hnm,(vK hnm).2⟩
  ·exact⟨hfit.plain (fun j hj=>pZ (hn j hj)) w hw,w6 w hw⟩
theorem aLi{S:List Shp}(hW:Wel S)(hne:S≠[]):(vH S).length<=40/\(∀it∈vH S,(jo spS (it.line (kL S))).length<=100/\qk (jo spS (it.line (kL S))) spS=it.line (kL S))/\(txt S).length<=5000/\qk (txt S) nlS=(vH S).map fun it=>jo spS (it.line (kL S)):=by
 have hl:=aFz hW;have h30:(vH S).length<=40:=by
  unfold vH;rw[List.length_flatMap];have h1:(S.map fun s=>(iN s).length).sum<=S.length*7:=lD fun s hs=>by
   obtain⟨i,hi⟩:=lc.mp hs;have:=(hW.bd i s hi).2.2.2;unfold iN;rw[ii,δ];omega
  have:=hW.len;omega
 have hrow:∀it∈vH S,(jo spS (it.line (kL S))).length<=100:=fun it hit=>by
  obtain⟨h1,h2,_⟩:=hl it hit;have h3:(jo spS (it.line (kL S))).length<=_:=pE (c:=32) (m:=6) fun w hw=>(h1 w hw).2;omega
 have e:(nL S).map (jo spS)=(vH S).map fun it=>jo spS (it.line (kL S)):=by rw[cK,jw];rfl
 refine⟨h30,fun it hit=>⟨hrow it hit,aDw (hl it hit).2.2 fun w hw=>((hl it hit).1 w hw).1⟩,?_,?_⟩
 ·unfold txt;rw[e];have h3:(jo nlS ((vH S).map fun it=>jo spS (it.line (kL S)))).length<=_:=pE (c:=10) (m:=100) (ws:=(vH S).map fun it=>jo spS (it.line (kL S))) fun w hw=>by
   obtain⟨it,hit,rfl⟩:=jf.mp hw;exact hrow it hit
  rw[δ]at h3;omega
 ·unfold txt;rw[aBt,e]
  ·rw[cK];intro z;have h0:=uY hne;rw[List.map_eq_nil_iff]at z;rw[z]at h0;exact absurd h0 (by decide)
  ·intro l hl' w hw;rw[cK]at hl';obtain⟨it,hit,rfl⟩:=jf.mp hl';exact((hl it hit).1 w hw).1
theorem aFb{sa:List Addr}{T:List Shp}{s:Shp}(h:sa.length=(T++[s]).length):∃sa0 z,sa=sa0++[z]:=by
 rcases yt sa with rfl|⟨sa0,z,rfl⟩
 ·rw[ι]at h;exact absurd h (by simp)
 ·exact⟨sa0,z,yu ..⟩
def aKl (K:υ) (r:Nat):Sp:=fun vs H Q _=>∃(sl:Addr) (S:List Shp) (n:Nat),vs=[.ref sl]/\S.length=n+1/\LX K H sl S/\Good S/\2*n+2<=r/\8*r<=200/\∀(b:Bool) H',jI H H'->(b=true->aBd S n)->Q (.bl b) H'
def aPg (K:υ):Sp:=fun vs H Q _=>∃(p:Addr) (n:Nat) (xs:List Addr),vs=[.ref p,.int n]/\n<=8/\St3 H p/\p∈xs/\Al xs H/\∀a kd H',Drawn p H H'->kd.Fit n->LK K (offs xs H') a kd->Q (.ref a) H'
theorem Al.drawn(h:Al xs H)(d:Drawn p H H'):Al xs H':=fun b hb=>by
 by_cases e:b=p
 ·obtain⟨x,y,z,q⟩:=d.1;exact⟨_,by rw[e];exact q⟩
 ·obtain⟨o,ho⟩:=h b hb;exact⟨o,d.2 b o e ho⟩
theorem Drawn.offs{xs:List Addr}(d:Drawn p H H')(hp:p∈xs):jI (offs xs H) (offs xs H'):=vL fun b o n q=>d.2 b o (fun z=>n (by rw[z];exact hp)) q
theorem aGl{a n m:Nat}(h:m<=n):((jg m).map fun k=>(a+k) % n).Nodup:=by
 show zi (·≠·) _;rw[vj];refine List.pairwise_lt_range.imp_of_mem fun {i j} hi hj hlt e=>?_;have hj':=vk.mp hj;have h1:=Nat.sub_mod_eq_zero_of_mod_eq e.symm;rw[show a+j-(a+i)=j-i by omega,Nat.mod_eq_of_lt (by omega)]at h1;omega
def spKT (K:υ) (n:Nat):Sp:=fun vs H Q _=>∃(a sl:Addr) (kd:Kd) (S:List Shp),vs=[.ref a,.ref sl]/\kd.lv<n/\kd.Fit S.length/\NOk (kL S) S.length/\LK K H a kd/\LX K H sl S/\∀H',jI H H'->Q (.str (jo spS (kd.words (kL S)))) H'
def spTx (K:υ):Sp:=fun vs H Q _=>∃(sl:Addr) (S:List Shp),vs=[.ref sl]/\LX K H sl S/\Wel S/\S≠[]/\∀H',jI H H'->Q (.str (txt S)) H'
def rX (S:List Shp) (it:Itm):Str:=jo spS (it.line (kL S))
theorem aKw(S:List Shp):txt S=jo nlS ((vH S).map (rX S)):=by
 unfold txt;rw[cK,jw];rfl
def w0L:List Str:=["num","row","pick","tag","room","part","tags","put","look","shape","end","out"]
def nm0 (a:Nat):List Str:=(jg 12).map fun k=>(w0L.getD ((a+k) % 12) Str.empty)++ε "q"
def NmOk (ns:List Str):Prop:=ns.length=12/\ns.Nodup/\∀x∈ns,kY x=true
theorem aPy{a:Nat}(h:a<12):NmOk (nm0 a):=by
 have:∀a:Fin 12,(nm0 a.val).length=12/\(nm0 a.val).Nodup/\∀x∈nm0 a.val,kY x=true:=by ac_rfl
 exact this ⟨a,h⟩
def c1L:Str:=ε "bfgjkqvxyzwh"
def c1 (a k:Nat):Nat:=c1L.cps.toList.getD ((a+k) % 12) 0
def nm1 (tl:Str) (a:Nat):List Str:=(jg 12).map fun k=>(⟨#[c1 a k]⟩ : Str)++tl++ε "x"
theorem nG(tl:Str)(c:Nat):((⟨#[c]⟩ : Str)++tl++ε "x").cps.toList=c::tl.cps.toList++[120]:=by
 rw[sq,sq,qd,qd];rfl
theorem aPw{tl:Str}{a:Nat}(h:a<12)(h4:tl.length<=4)(hl:∀c∈tl.cps.toList,97<=c/\c<=122):NmOk (nm1 tl a):=by
 have hc:∀a:Fin 12,((jg 12).map fun k=>c1 a.val k).Nodup/\∀k,k<12->97<=c1 a.val k/\c1 a.val k<=122:=by ac_rfl
 obtain⟨h1,h2⟩:=hc ⟨a,h⟩;have ho:∀w∈aId,w.cps.toList.getLast?≠some 120:=by ac_rfl
 refine⟨by unfold nm1;rw[δ,jm],?_,fun x hx=>?_⟩
 ·unfold nm1;show zi (·≠·) _;rw[vj];have h1':zi (·≠·) ((jg 12).map fun k=>c1 a k):=h1;rw[vj]at h1';refine h1'.imp fun ne e=>ne ?_;have:=congrArg (fun s:Str=>s.cps.toList) e;simp only[nG]at this;exact(xa this).1
 ·obtain⟨k,hk,rfl⟩:=jf.mp hx;have hk':=vk.mp hk;have hlen:((⟨#[c1 a k]⟩ : Str)++tl++ε "x").length=tl.length+2:=by
   rw[kc,kc];show 1+tl.length+1=_;omega
  unfold kY within aBi;simp only[jv,decide_eq_true_eq,Bool.not_eq_true',decide_eq_false_iff_not,ji];refine⟨⟨⟨by rw[hlen];omega,by rw[hlen];omega⟩,fun c hc=>?_⟩,fun z=>?_⟩
  ·rw[nG]at hc;rw[dG];simp only[km,Φ,jp,or_false]at hc;rcases hc with (rfl|hc)|rfl
   ·exact h2 k hk'
   ·exact hl c hc
   ·exact⟨by decide,by decide⟩
  ·refine ho _ z ?_;rw[nG,List.getLast?_append];rfl
def nm2 (a:Nat):List Str:=((jg 6).map fun k=>Txt.slice (ε "zyxwvu") none (some (1+(((a+k) % 6:Nat):Int))))++(["yz","yyyyyy","y","yx","numz","tagszz"]:List Str)
theorem aRc{a:Nat}(h:a<12):NmOk (nm2 a):=by
 have:∀a:Fin 12,(nm2 a.val).length=12/\(nm2 a.val).Nodup/\∀x∈nm2 a.val,kY x=true:=by ac_rfl
 exact this ⟨a,h⟩
theorem wY:∀cs:List Nat,(jo (ε "") (cs.map fun c=>(⟨#[c]⟩ : Str))).cps.toList=cs
 |[]=>rfl
 |[c]=>rfl
 |c::d::cs=>by
  have ih:=wY (d::cs);rw[ju,lE (by simp),sq,sq,qd,qd,ih];rfl
theorem Drawn.free{H H1:Hp}(d:Drawn p H H1)(h:H1 l=none):H l=none:=by
 cases e:H l with
 |none=>rfl
 |some o =>
  by_cases z:l=p
  ·obtain⟨x,y,w,q⟩:=d.1;rw[z,q]at h;cases h
  ·rw[d.2 l o z e]at h;cases h
def bdN:List Str:=[ε "a",ε "more"]
def NmC (ns:List Str):Prop:=∀x∈ns,x∉bdN
def Cln (S:List Shp):Prop:=∀s∈S,s.1∉bdN/\∀f∈s.2,f.1∉bdN
theorem Cln.snoc{s:Shp}(h:Cln S)(h1:s.1∉bdN)(h2:∀f∈s.2,f.1∉bdN):Cln (S++[s]):=fun t ht=>by
 rcases km.mp ht with ht|ht
 ·exact h t ht
 ·rw[Ψ.mp ht];exact⟨h1,h2⟩
theorem nm0_c{a:Nat}(h:a<12):NmC (nm0 a):=by
 have:∀a:Fin 12,∀x∈nm0 a.val,x∉bdN:=by ac_rfl
 exact this ⟨a,h⟩
theorem nm2_c{a:Nat}(h:a<12):NmC (nm2 a):=by
 have:∀a:Fin 12,∀x∈nm2 a.val,x∉bdN:=by ac_rfl
 exact this ⟨a,h⟩
theorem nm1_c : NmC (nm1 tl a):=fun x hx hb=>by
 have ho:∀w∈bdN,w.cps.toList.getLast?≠some 120:=by ac_rfl
 obtain⟨k,_,rfl⟩:=jf.mp hx;refine ho _ hb ?_;rw[nG];exact List.getLast?_concat ..
def aPa (K:υ):Sp:=fun vs H Q _=>∃p:Addr,vs=[.ref p]/\St3 H p/\∀l ns H',Drawn p H H'->H l=none->H' l=some (.lst (ns.map V.str))->NmOk ns->NmC ns->Q (.ref l) H'
theorem modc{a j n:Nat}: (((a:Nat):Int)+((0:Int)+(j:Nat))) % ((n:Nat):Int)=(((a+j) % n:Nat):Int):=by
 rw[mw,←vb]
 first|exact(Int.natCast_emod _ _).symm|exact(Int.ofNat_emod _ _).symm|rfl
theorem Wel.nil:Wel []:=⟨⟨fun i s h=>by simp at h,fun i s h=>by simp at h,fun i s h=>by simp at h,fun i=>by show(([]:List Nat).getD i 0)<=1000;simp⟩,fun s h=>by simp at h,fun s h=>by simp at h,yd,fun s h=>by simp at h,iy _,fun i s h=>by simp at h⟩
theorem Wel.sz64(h:Wel S)(i:Nat):(tabs S).sz.getD i 0<=64:=by
 by_cases hi:i<S.length
 ·exact(h.bd i _ (θ hi)).1
 ·rw[ω,yr (by rw[(bM S).1];omega)];exact iy _
theorem Wel.snoc{S:List Shp}{nm:Str}{fs:List (Str×Kd)}(h:Wel S)(h1:kY nm=true)(h2:nm∉S.map (·.1))(h3:S.length<=3)(h4:fs≠[])(h5:fs.length<=6)(h6:∀f∈fs,f.2.Fit S.length/\kY f.1=true)(h7:(fs.map (·.1)).Nodup)(h8:aBd (S++[(nm,fs)]) S.length):Wel (S++[(nm,fs)]):=by
 have hz:=h8.1;rw[(cA S (nm,fs) []).1]at hz;refine⟨Good.snoc h.good h4 (by show fs.length<=6;omega) (fun f hf=>⟨(h6 f hf).1,vK (h6 f hf).2⟩) (by show(fs.map _).sum<=1000;exact Θ hz (by decide)),fun s hs=>?_,fun s hs=>?_,?_,fun s hs=>?_,by rw[ι,ki];omega,fun i s e=>?_⟩
 ·rcases km.mp hs with hs|hs
  ·exact h.nm s hs
  ·rw[Ψ.mp hs];exact h1
 ·rcases km.mp hs with hs|hs
  ·exact h.fnm s hs
  ·rw[Ψ.mp hs];exact fun f hf=>(h6 f hf).2
 ·rw[χ,ym];refine⟨h.nd,ul _ _,fun a ha b hb e=>h2 ?_⟩;rw[←show b=nm from Ψ.mp hb,←e];exact ha
 ·rcases km.mp hs with hs|hs
  ·exact h.fnd s hs
  ·rw[Ψ.mp hs];exact h7
 ·rcases bT e with e|⟨rfl,rfl⟩
  ·have hi:i<S.length:=(η.mp e).1;obtain⟨t1,t2,t3⟩:=nM (R:=[(nm,fs)]) hi;obtain⟨b1,b2,b3,b4⟩:=h.bd i s e;refine⟨by rw[t1];exact b1,?_,by rw[t2];exact b3,b4⟩;have e1:un (.nest i) (S++[(nm,fs)]) Str.empty=un (.nest i) S Str.empty:=by
    show((tabs (S++[(nm,fs)])).ut.getD i fun _=>[]) Str.empty=((tabs S).ut.getD i fun _=>[]) Str.empty;rw[t3]
   rw[e1];exact b2
  ·exact⟨h8.1,h8.2.1,h8.2.2,h5⟩
theorem aHq{nm:Str}{fs:List (Str×Kd)}{f:Str×Kd}(h:Wel S)(hs:fs≠[]->aBd (S++[(nm,fs)]) S.length)(h5:fs.length<=5)(h6:∀f∈fs,f.2.Fit S.length/\kY f.1=true)(hf:f.2.Fit S.length)(hn:kY f.1=true):Good (S++[(nm,fs++[f])]):=by
 refine Good.snoc h.good (by simp) (by show(fs++[f]).length<=6;rw[ι,ki];omega) (fun g hg=>?_) ?_
 ·rcases km.mp hg with hg|hg
  ·exact⟨(h6 g hg).1,vK (h6 g hg).2⟩
  ·rw[Ψ.mp hg];exact⟨hf,vK hn⟩
 ·show((fs++[f]).map fun f=>f.2.size (tabs S).sz).sum<=1000;rw[χ,List.sum_append];have h1:(fs.map fun f=>f.2.size (tabs S).sz).sum<=64:=by
   by_cases e:fs=[]
   ·rw[e];exact iy _
   ·have hz:=(hs e).1;rw[(cA S (nm,fs) []).1]at hz;exact hz
  have h2:=Kd.size_bd (h.sz64) (by decide) hf;show _+(f.2.size (tabs S).sz+0)<=1000;omega
theorem aIg{S:List Shp}{nm x:Str}{w:Nat}(hw:w<=4):aBd (S++[(nm,[(x,Kd.num w)])]) S.length:=by
 obtain⟨t1,t2,t3⟩:=cA S (nm,[(x,Kd.num w)]) [];refine⟨?_,?_,?_⟩
 ·rw[t1];show w+0<=64;omega
 ·have e1:un (.nest S.length) (S++[(nm,[(x,Kd.num w)])]) Str.empty=_:=t3 Str.empty;rw[e1];show 1<=40;decide
 ·rw[t2];show 1+max 0 0<=4;decide
def spSh (K:υ) (r:Nat):Sp:=fun vs H Q _=>∃p:Addr,vs=[.ref p,.int 4]/\St3 H p/\12<=r/\8*r<=200/\∀l S H',Drawn p H H'->H l=none->LX K (offs [p] H') l S->Wel S->S≠[]->Cln S->Q (.ref l) H'
theorem bU{H:Hp}(h:St3 H p)(ha:H a=none):a≠p:=fun z=>by
 obtain⟨x,y,w,q⟩:=h;rw[z,q]at ha;cases ha
theorem pN{H:Hp}(h:St3 H p):∃o,H p=some o:=by
 obtain⟨x,y,w,q⟩:=h;exact⟨_,q⟩
theorem hU{X:Cx}{K:υ}(hK:X.K=K)(he:PE X o ta)(hb:vd o f X.env (eval o X.env)=eval o X.env):PE X (.Attribute o f pos) (aPt K ta f):=hK ▸ aMz he hb
def spRE (K:υ):Sp:=fun vs H Q _=>∃(e:Addr) (v:V) (C R fI:Addr) (dx:Option Addr),vs=[.ref e,v]/\H e=some (Ex0 e C dx)/\bC K C R fI/\Q .non H
structure Fl (CN e dx:Addr) (H H':Hp) (fs:List (Str×V)):Prop where
 ne:dx≠e
 fr:H dx=none
 kp:∀b o,b≠e->H b=some o->H' b=some o
 ae:H' e=some (Ex0 e CN (some dx))
 ad:H' dx=some (XD dx fs)
theorem Fl.first{H:Hp}{f:Str}{y:V}(he:H e=some (Ex0 e CN none))(hd:H dx=none):Fl CN e dx H (upd (upd H dx (XD dx [(f,y)])) e (Ex0 e CN (some dx))) [(f,y)]:=by
 have ne:dx≠e:=fun z=>by rw[z,he]at hd;cases hd
 refine⟨ne,hd,fun b o n q=>?_,jQ,?_⟩
 ·rw[jZ n,jZ (jL q hd)];exact q
 ·rw[jZ ne,jQ]
theorem Fl.next(h:Fl CN e dx H H' fs):Fl CN e dx H (upd H' dx (XD dx fs')) fs' :=
 ⟨h.ne,h.fr,fun b o n q=>by rw[jZ (jL q h.fr)];exact h.kp b o n q,by rw[jZ (lu h.ne)];exact h.ae,jQ⟩
def spXn (CN:Addr) (ns:List Str):Sp:=fun vs H Q _=>∃(e:Addr) (xs:List V),vs=.ref e::xs/\xs.length=ns.length/\H e=some (Ex0 e CN none)/\∀dx H',Fl CN e dx H H' (ns.zip xs)->Q .non H'
theorem Fl.from{H:Hp}(he:H e=none)(h:Fl CN e dx (upd H e (Ex0 e CN none)) H' fs):jI H H':=fun b o q=>by
 have n:=jL q he;exact h.kp b o n (by rw[jZ n];exact q)
theorem Fl.fly{H:Hp}(he:H e=none)(h:Fl CN e dx (upd H e (Ex0 e CN none)) H' fs):jI H (upd H' e (ExF e CN (some dx)))/\upd H' e (ExF e CN (some dx)) e=some (ExF e CN (some dx))/\upd H' e (ExF e CN (some dx)) dx=some (XD dx fs):=by
 refine⟨fun b o q=>?_,jQ,?_⟩
 ·rw[jZ (jL q he)];exact h.from he b o q
 ·rw[jZ h.ne];exact h.ad
def XAt (CN:Addr) (H:Hp) (e:Addr) (fs:List (Str×V)):Prop:=∃dx,H e=some (ExF e CN (some dx))/\H dx=some (XD dx fs)
theorem yO{H H1:Hp}(g:jI H H1)(he:H1 e=none)(F:Fl CN e dx (upd H1 e (Ex0 e CN none)) H2 fs):jI H (upd H2 e (ExF e CN (some dx)))/\H e=none/\XAt CN (upd H2 e (ExF e CN (some dx))) e fs:=by
 obtain⟨g2,k1,k2⟩:=F.fly he;exact⟨g.trans g2,g.free he,dx,k1,k2⟩
def Rz (CN:Addr) (H:Hp) (E:XK) (fs:List (Str×V)):Prop:=∀e H',jI H H'->H e=none->XAt CN H' e fs->E (.ref e) none H'
theorem Rz.from(h:Rz CN H E fs)(g:jI H H1):Rz CN H1 E fs:=fun e H' g' he x=>h e H' (g.trans g') (g.free he) x
def isK (c:Cl5):Kd->Addr
 |.num _=>c.num
 |.nest _=>c.nest
 |.many _ _=>c.many
 |.pick _=>c.pick
def samK:Kd->Kd->Bool
 |.num _,.num _=>true
 |.nest _,.nest _=>true
 |.many _ _,.many _ _=>true
 |.pick _,.pick _=>true
 |_,_=>false
structure KdS (K:υ) (c:Cl5):Prop where
 ins:∀k:Kd,InsC K (isK c k)
 kit:∀k k':Kd,kh K (.ref (isK c k)) (.ref (isK c k'))=some (samK k k')
theorem KdS.ty{K:υ}(T:KdS K c)(h:KO c K H sa a k):gM K H (.ref a) (.ref (isK c k)):=by
 cases h with
 |num h=>exact(T.ins (.num 0)).ty h
 |nest _ h=>exact(T.ins (.nest 0)).ty h
 |many h _=>exact(T.ins (.many 0 (.num 0))).ty h
 |pick h _ _ _=>exact(T.ins (.pick [])).ty h
def stV:Kd->Nat->Str->V
 |.many _ _,j,_=>.int j
 |_,_,y=>.str y
def PP (c:Cl5) (K:υ) (H:Hp) (sa:List Addr) (l:Addr) (kd:Kd) (S:List Shp):Prop:=∃ts:List Addr,H l=some (.lst (ts.map V.ref))/\ts.length=(kd.parts S).length/\∀(j:Nat) (t:Addr),ts[j]?=some t->∃(y:Str) (kd':Kd) (k:Addr),(kd.parts S)[j]?=some (y,kd')/\SqT K H t [stV kd j y,.ref k]/\KO c K H sa k kd'
def spP2 (c:Cl5) (K:υ) (F:Kd->Bool):Sp:=fun vs H Q _=>∃(a:Addr) (kd:Kd) (sa:List Addr) (S:List Shp),vs=[.ref a]/\F kd=true/\kd.Fit S.length/\KO c K H sa a kd/\SW c K H sa S/\Good S/\∀l H',jI H H'->H l=none->PP c K H' sa l kd S->Q (.ref l) H'
def aGf (c:Cl5) (K:υ):Addr->Sp->Prop:=fun C sp=>(C=c.nest/\sp=spP2 c K Kd.isNest)\/(C=c.many/\sp=spP2 c K Kd.isMany)
theorem tQ{K:υ}{H:Hp}{kd:Kd}{S:List Shp}{Q:VK}{E:XK}(hm:Nolk m)(hs:kd.Pd)(hf:kd.Fit S.length)(ho:KO c K H sa a kd)(hw:SW c K H sa S)(hg:Good S)
  (q:∀l H',jI H H'->H l=none->PP c K H' sa l kd S->Q (.ref l) H'):∃a' C dx fs sp,V.ref a=.ref a'/\H a'=some (.ins C dx fs)/\fs.lookup m=none/\aGf c K C sp/\sp [.ref a] H Q E:=by
 cases id ho with
 |num h=>rcases hs with⟨_,z⟩|⟨_,_,z⟩ <;> cases z
 |nest e h=>exact⟨_,_,_,_,_,rfl,h,(hm _ .non).2.1,.inl ⟨rfl,rfl⟩,a,_,sa,S,rfl,rfl,hf,ho,hw,hg,q⟩
 |many h _=>exact⟨_,_,_,_,_,rfl,h,(hm _ _).2.2.1,.inr ⟨rfl,rfl⟩,a,_,sa,S,rfl,rfl,hf,ho,hw,hg,q⟩
 |pick h _ _ _=>rcases hs with⟨_,z⟩|⟨_,_,z⟩ <;> cases z
theorem aDc{S:List Shp}{kd kd':Kd}{j:Nat}{y:Str}(hf:kd.Fit S.length)(h:(kd.parts S)[j]?=some (y,kd')):aAu (stV kd j y)=some y:=by
 cases kd with
 |many n k =>
  have h':((jg n).map fun j=>(ε (toString j),k))[j]?=some (y,kd'):=h;rw[iq]at h';cases e:(jg n)[j]? with
  |none=>rw[e]at h';cases h'
  |some i =>
   rw[e]at h';obtain⟨hj,rfl⟩:=η.mp e;rw[List.getElem_range]at h';cases h';have:=hf.2.1;rw[jm]at hj;exact if_pos (by show(j:Nat)<2 ^ 100;exact ς (ς hj this) (by decide))
 |num _=>rfl
 |nest _=>rfl
 |pick _=>rfl
def aKv (K:υ):Sp:=fun vs H Q _=>∃(x:V) (t:String),vs=[x]/\tyM K x H t/\Q (.bl (t == "int")) H
def spIB:Sp:=fun vs H Q _=>∃v lo hi:Int,vs=[.int v,.int lo,.int hi]/\lo<=v/\v<=hi/\Q (.bl true) H
def spBd:Sp:=fun vs H Q _=>∃w:Nat,vs=[.int w]/\w<=4/\Q (.int ((256 ^ w:Nat):Int)) H
def spWd:Sp:=fun vs H Q _=>∃w v:Nat,vs=[.int v,.int w]/\w<=4/\v<256 ^ w/\Q (.bl true) H
def aEp (S:List Shp) (i:Nat) (K:υ) (H:Hp) (x:V):Prop:=(∃t,tyN K x H t)\/∃a kvs,x=.ref a/\H a=some (.dK kvs)/\(kvs.length≠((Kd.nest i).parts S).length ∨ ∀f∈(Kd.nest i).parts S,zX kvs (.inr f.1)=none)
def aGn (S:List Shp) (r:Nat) (kd:Kd) (K:υ) (H:Hp) (x:V) (b:Bool):Prop:=(∃d,Dt false K H x d/\Can S r kd d/\b=true)\/∃i,kd=.nest i/\aEp S i K H x/\b=false
theorem aEp.same{K:υ}(h:aEp S i K H x)(g:jI H H'):aEp S i K H' x:=by
 rcases h with⟨t,h⟩|⟨a,kvs,rfl,h,z⟩
 ·refine .inl ⟨t,?_⟩;unfold tyN at h ⊢;cases x with
  |ref p =>
   rcases h with⟨e,xs,h⟩|⟨e,xs,h⟩
   ·exact .inl ⟨e,xs,g.seq h⟩
   ·exact .inr ⟨e,xs,g.tp h⟩
  |_=>exact h
 ·exact .inr ⟨a,kvs,rfl,g _ _ h,z⟩
theorem aGn.same{K:υ}(h:aGn S r kd K H x b)(g:jI H H'):aGn S r kd K H' x b:=by
 rcases h with⟨d,h,z⟩|⟨i,e,h,z⟩
 ·exact .inl ⟨d,h.same g,z⟩
 ·exact .inr ⟨i,e,h.same g,z⟩
inductive aEt (c:Cl5) (K:υ) (r:Nat) (F:Kd->Bool) (vs:List V) (H:Hp) (Q:VK):Prop|mk:∀(a:Addr) (x:V) (kd:Kd) (sa:List Addr) (S:List Shp) (b:Bool),vs=[.ref a,x]->F kd=true->kd.Rk r->kd.Fit S.length->KO c K H sa a kd->SW c K H sa S->Wel S->aGn S r kd K H x b->(∀H',jI H H'->Q (.bl b) H')->aEt c K r F vs H Q
def dC (c:Cl5) (K:υ) (r:Nat) (F:Kd->Bool):Sp:=fun vs H Q _=>aEt c K r F vs H Q
def aJn (c:Cl5) (K:υ) (r:Nat):Sp:=fun vs H Q _=>∃(s:Addr) (x:V) (i:Nat) (sa:List Addr) (S:List Shp) (b:Bool),vs=[.ref s,x]/\sa[i]?=some s/\2*i+2<=r/\SW c K H sa S/\Wel S/\aGn S r (.nest i) K H x b/\∀H',jI H H'->Q (.bl b) H'
def aPp (c:Cl5) (K:υ):Sp:=fun vs H Q _=>∃(a:Addr) (j:Nat) (is:List Nat) (sa:List Addr),vs=[.ref a,.int j]/\KO c K H sa a (.pick is)/\j<is.length/\Q (.bl true) H
def aLs:Kd->Bool:=fun _=>true
abbrev kz (ks:List Str) (xs:List V):List (Key×V):=jj (fun k v=>((.inr k:Key),v)) ks xs
theorem iH:∀{ks:List Str}{xs:List V},ks.length=xs.length->(kz ks xs).map (·.1)=ks.map uo
 |[],[],_=>rfl
 |k::ks,x::xs,e=>congrArg ((.inr k:Key) :: ·) (iH (ks:=ks) (xs:=xs) (qq e))
theorem uL{ks:List Str}{xs:List V}(e:ks.length=xs.length):(kz ks xs).length=ks.length:=by
 rw[←δ (·.1),iH e,δ]
theorem aIo{ks:List Str}{xs:List V}{j:Nat}(nd:ks.Nodup)(e:ks.length=xs.length)(hk:ks[j]?=some k)(hx:xs[j]?=some v):zX (kz ks xs) (.inr k)=some v:=by
 unfold zX;rw[aDk (by rw[iH e];show zi (·≠·) _;rw[vj];exact zi.imp (fun n z=>n (uo.inj z)) nd) hk hx];rfl
theorem uJ:∀(fs:List (Str×Kd)) (ds:List ο),iG fs ds=jj (fun k d=>(px k,d)) (fs.map (·.1)) ds
 |[],_=>rfl
 |_::_,[]=>rfl
 |f::fs,d::ds=>congrArg (_ :: ·) (uJ fs ds)
theorem lI{K:υ}{H:Hp}(h:Dt z K H x (.dict (iG fs ds)))(e:fs.length=ds.length):∃a xs,x=.ref a/\H a=some (.dK (kz (fs.map (·.1)) xs))/\fs.length=xs.length/\Dts z K H xs ds:=by
 generalize hd:ο.dict (iG fs ds)=d at h;cases h with
 |non=>cases hd
 |bl=>cases hd
 |int=>cases hd
 |str=>cases hd
 |lst=>cases hd
 |tup=>cases hd
 | @dct a ks xs ds' h1 h2 h3 =>
  injection hd with hd;rw[uJ]at hd;obtain⟨e1,e2⟩:=uQ (by rw[δ];exact e) (h2.trans h3.length) hd;subst e1 e2;exact⟨a,xs,rfl,h1,by rw[δ]at h2;exact h2,h3⟩
theorem aDs{K:υ}{H:Hp}{fs:List (Str×Kd)}{xs:List V}(h:H a=some (.dK (kz (fs.map (·.1)) xs)))(e:fs.length=xs.length)(t:Dts z K H xs ds):Dt z K H (.ref a) (.dict (iG fs ds)):=by
 rw[uJ];exact .dct h (by rw[δ];exact e) t
theorem aJr{K:υ}(h:tyN K x H t):isa t "dict" = false:=by
 unfold tyN at h;cases x with
 |ref p=>rcases h with⟨rfl,_⟩|⟨rfl,_⟩ <;> rfl
 |non=>subst h;rfl
 |bl b=>subst h;rfl
 |int i=>subst h;rfl
 |str s=>subst h;rfl
 |_=>exact h.elim
theorem aE{α : Type}{f : α->Bool}{l:List α}(h:∀x∈l,f x=true):((l.map f).all id)=true:=by
 rw[ji];intro b hb;obtain⟨x,hx,rfl⟩:=jf.mp hb;exact h x hx
theorem aGx{α : Type}{f : α->Bool}{l:List α}(hn:l≠[])(h:∀x∈l,f x=false):((l.map f).all id)=false:=by
 cases l with
 |nil=>exact absurd rfl hn
 |cons x l=>rw[ju,List.all_cons,h x (Ω ..)];rfl
inductive RR (K:υ) (H:Hp):List Addr->List (Str×Int)->Prop
 |nil:RR K H [] []
 |cons {t:Addr}{ts:List Addr}{q:Str×Int}{rs:List (Str×Int)} : SqT K H t [.str q.1,.int q.2]->RR K H ts rs->RR K H (t::ts) (q::rs)
theorem RR.same{K:υ}(h:RR K H ts rs)(g:jI H H'):RR K H' ts rs:=by
 induction h with
 |nil=>exact .nil
 |cons t _ ih=>exact .cons (g.tp t) ih
theorem RR.len{K:υ}(h:RR K H ts rs):ts.length=rs.length:=by
 induction h with
 |nil=>rfl
 |cons _ _ ih=>rw[ii,ii,ih]
theorem RR.app{K:υ}(h:RR K H ts rs)(h':RR K H ts' rs'):RR K H (ts++ts') (rs++rs'):=by
 induction h with
 |nil=>exact h'
 |cons t _ ih=>exact .cons t ih
theorem RR.but{K:υ}{H:Hp}(h:RR K H ts rs)(g:But l H H')(hl:H l=some (.lst zs)):RR K H' ts rs:=by
 induction h with
 |nil=>exact .nil
 |cons t _ ih=>exact .cons (g.tup hl t) ih
theorem RR.dat{K:υ}(h:RR K H ts rs):DatAll K H (ts.map V.ref) (rs.map xJ):=by
 induction h with
 |nil=>exact .nil
 |cons t _ ih=>exact .cons (.tup t (.cons (.str _) (.cons (.int _) .nil))) ih
def RL (K:υ) (H:Hp) (l:Addr) (rs:List (Str×Int)):Prop:=∃ts:List Addr,H l=some (.lst (ts.map V.ref))/\RR K H ts rs
def rItm (K:υ):R2:=fun x y H Q=>aGp K x y H Q\/∃a v,x=.ref a/\cF H a y (some v)/\Q v H
theorem aSi{K:υ}(h1:PE X e (tOp (aGp K) (aAg i) (aAg j)))(h2:PE X e (aPq (aAg i) (aAg j))):PE X e (tOp (rItm K) (aAg i) (aAg j)):=by
 intro pins s σ H Q I h;obtain⟨v,e1,u,e2,h⟩:=h;rcases h with h|h
 ·exact h1 pins s σ H Q I ⟨v,e1,u,e2,h⟩
 ·exact h2 pins s σ H Q I ⟨v,e1,u,e2,h⟩
theorem aRz{K:υ}{kd kd':Kd}{j:Nat}{y:Str}{Q:VK}(hp:kd.Pd)(hn:∀i,kd=.nest i->((kd.parts S).map (·.1)).Nodup)(hd:Dt false K H x (dA kd (kd.parts S) ds))(hl:(kd.parts S).length=ds.length)(hy:(kd.parts S)[j]?=some (y,kd'))(q:∀v d,ds[j]?=some d->Dt false K H v d->Q v H):rItm K x (stV kd j y) H Q:=by
 have hj:j<ds.length:=by rw[←hl];exact(η.mp hy).1
 have ej:ds[j]?=some ds[j]:=θ hj;rcases hp with⟨i,rfl⟩|⟨n,k,rfl⟩
 ·obtain⟨a,xs,rfl,h2,l2,dts⟩:=lI hd hl;obtain⟨v,hv,hdv⟩:=dts.get ej;refine .inr ⟨a,v,rfl,?_,q v _ ej hdv⟩;rw[←aIo (hn i rfl) (by rw[δ];exact l2) (by rw[iq,hy];rfl) hv];exact cF.k (k:=.inr y) h2
 ·cases hd with
  |lst hx _ dts =>
   obtain⟨v,hv,hdv⟩:=dts.get ej;exact .inl ⟨_,_,_,v,rfl,rfl,hx,xB hv,q v _ ej hdv⟩
theorem Wel.nms(h:Wel S):NmS S:=by
 have nb:∀{x:Str},kY x=true->x.length<=6/\Sml x:=fun {x} hx=>by
  refine⟨(vK hx).2,?_⟩;unfold kY at hx;simp only[jv]at hx;have ha:x.cps.toList.all (fun c=>decide (c∈zY.cps.toList))=true:=hx.1.2;refine ji.mpr fun c hc=>decide_eq_true ?_;have:=(dG c).mp (of_decide_eq_true (ji.mp ha c hc));have e:(16:Nat) ^ 8=4294967296:=by decide
  omega
 refine⟨fun i hi=>?_,fun s hs f hf=>(nb (h.fnm s hs f hf)).2⟩;have e:S[i]?=some S[i]:=θ hi;rw[vF e];exact nb (h.nm _ (md hi))
theorem Wel.pnd(h:Wel S){k:Kd}(hf:k.Fit S.length):∀i,k=.nest i->((k.parts S).map (·.1)).Nodup:=fun i e=>by
 subst e;have hs:S[i]?=some S[i]:=θ (show i<S.length from hf);rw[qS hs];exact h.fnd _ (md _)
inductive aKb (c:Cl5) (K:υ) (n:Nat) (vs:List V) (H:Hp) (Q:VK):Prop|mk:∀(a:Addr) (p:Str) (x:V) (kd:Kd) (sa:List Addr) (S:List Shp) (d:ο) (r:Nat),n=r+1->vs=[.ref a,.str p,x]->p.length+8*n<=200->Sml p->kd.Rk r->kd.Fit S.length->KO c K H sa a kd->SW c K H sa S->Wel S->Dt false K H x d->Can S r kd d->(∀l H',jI H H'->H l=none->RL K H' l (flv S r kd p d)->Q (.ref l) H')->aKb c K n vs H Q
def spFU (c:Cl5) (K:υ) (n:Nat):Sp:=fun vs H Q _=>aKb c K n vs H Q
theorem bP{f:Kd->Str->ο->List (Str×Int)}{fs:List (Str×Kd)}{ds:List ο}{j:Nat}(hl:fs.length=ds.length)(hq:fs[j]?=some q)(hd:ds[j]?=some d):flL f (fs.take (j+1)) p (ds.take (j+1))=flL f (fs.take j) p (ds.take j)++f q.2 (pj p q.1) d:=by
 rw[jt,jt,hq,hd];show flL f (fs.take j++[q]) p (ds.take j++[d])=_;rw[nV p (by rw[Δ,Δ,hl])];show _++(f q.2 (pj p q.1) d++[])=_;rw[li]
theorem Kd.three(k:Kd):k.Pd\/(∃w,k=.num w)\/∃is,k=.pick is:=by
 cases k with
 |num w=>exact .inr (.inl ⟨w,rfl⟩)
 |nest i=>exact .inl (.inl ⟨i,rfl⟩)
 |many n k=>exact .inl (.inr ⟨n,k,rfl⟩)
 |pick is=>exact .inr (.inr ⟨is,rfl⟩)
theorem Kd.Pd.sam{k:Kd}(h:k.Pd):samK k (.num 0)=false/\samK k (.pick [])=false:=by rcases h with⟨_,rfl⟩|⟨_,_,rfl⟩ <;> exact⟨rfl,rfl⟩
def aLv (c:Cl5) (CR:Addr) (K:υ) (r:Nat):Sp:=fun vs H Q E=>∃(s:Addr) (x:V) (i:Nat) (sa:List Addr) (S:List Shp),vs=[.ref s,x]/\sa[i]?=some s/\2*i+2<=r/\8*(r+1)<=200/\SW c K H sa S/\Wel S/\((∃d,Dt false K H x d/\Can S r (.nest i) d/\∀l H',jI H H'->H l=none->RL K H' l (flv S r (.nest i) Str.empty d)->Q (.ref l) H')\/(aEp S i K H x/\Rz CR H E [("found",x)]))
def aPd (K:υ):Sp:=fun vs H Q _=>∃(x:V) (d:ο),vs=[x]/\Dat K H x d/\Q (.bl (gP d)) H
theorem aKk(a b:ο):gP (.tuple [a,b])=(isa (tyD a) "str" && (tyD b == "int")):=by
 cases a <;> cases b <;> rfl
structure RwA (K:υ) (H:Hp) (rl:Addr) (ds:List ο):Prop where
 at_:∃xs,SqL K H rl xs/\DatAll K H xs ds
 rw_:∀d∈ds,gP d=true
 few:ds.length<=1000
theorem RwA.same{K:υ}(h:RwA K H rl ds)(g:jI H H'):RwA K H' rl ds:=by
 obtain⟨⟨xs,h1,h2⟩,h3,h4⟩:=h;exact⟨⟨xs,g.seq h1,h2.same g⟩,h3,h4⟩
def aPf (CR:Addr) (K:υ):Sp:=fun vs H Q E=>∃(p:Str) (b:Int) (rl:Addr) (i:Nat) (ds:List ο),vs=[.str p,.int b,.ref rl,.int i]/\RwA K H rl ds/\(∀v,nx p b (ds.drop i)=some v->Q (.int v) H)/\(nx p b (ds.drop i)=none->Rz CR H E [("found",.ref rl)])
def Frs (H:Hp) (v:V):Prop:=∀b,v=.ref b->H b=none
inductive aLo (c:Cl5) (CR:Addr) (K:υ) (n:Nat) (vs:List V) (H:Hp) (Q:VK) (E:XK):Prop|mk:∀(a:Addr) (p:Str) (rl:Addr) (i:Nat) (kd:Kd) (sa:List Addr) (S:List Shp) (ds:List ο) (r:Nat) (ys:List Addr),n=r+1->vs=[.ref a,.str p,.ref rl,.int i]->p.length+8*n<=200->kd.Rk r->kd.Fit S.length->KO c K H sa a kd->SW c K H sa S->Wel S->RwA K H rl ds->Al ys H->((∀d m,rdv S r kd p (ds.drop i)=some (d,m)->∀t v H',jI H H'->SqT K H' t [v,.int ((i+m:Nat):Int)]->Dt false K (offs ys H') v d->Frs H v->Q (.ref t) H'))->((rdv S r kd p (ds.drop i)=none->Rz CR H E [("found",.ref rl)]))->aLo c CR K n vs H Q E
def spVF (c:Cl5) (CR:Addr) (K:υ) (n:Nat):Sp:=fun vs H Q E=>aLo c CR K n vs H Q E
def spGa (c:Cl5) (K:υ):Sp:=fun vs H Q _=>∃(a vl:Addr) (kd:Kd) (sa:List Addr) (S:List Shp) (xs:List V) (ds:List ο) (ys:List Addr),vs=[.ref a,.ref vl]/\kd.Pd/\kd.Fit S.length/\KO c K H sa a kd/\SW c K H sa S/\Wel S/\Al ys H/\vl∉ys/\H vl=some (.lst xs)/\Dts false K (offs ys H) xs ds/\(kd.parts S).length=ds.length/\∀v H',jI H H'->Dt false K (offs ys H') v (dA kd (kd.parts S) ds)->(v=.ref vl\/Frs H v)->Q v H'
theorem nW : ∀{fs:List (Str×Kd)}{l:List ο}{es:List ο}{m:Nat},rdL f fs p l=some (es,m)->es.length=fs.length
 |[],_,_,_,h=>by cases h;rfl
 |q::fs,l,es,m,h=>by
  have h':(f q.2 (pj p q.1) l).bind (fun x=>(rdL f fs p (l.drop x.2)).map fun y=>(x.1::y.1,x.2+y.2))=some (es,m):=h;cases e:f q.2 (pj p q.1) l with
  |none=>rw[e]at h';cases h'
  |some x =>
   rw[e]at h';have h2:(rdL f fs p (l.drop x.2)).map (fun y=>(x.1::y.1,x.2+y.2))=some (es,m):=h';cases e2:rdL f fs p (l.drop x.2) with
   |none=>rw[e2]at h2;cases h2
   |some y=>rw[e2]at h2;cases h2;exact congrArg (·+1) (nW e2)
theorem fO{k:Kd}(h:k.Pd)(r:k.Rk 0):False:=by
 rcases h with⟨i,rfl⟩|⟨n,q,rfl⟩
 ·exact tx _ r
 ·rcases r with⟨_,_,z⟩|⟨_,_,z⟩ <;> exact tx _ z
theorem aNo{ks:List Str}{xs:List V}{j:Nat}(e:ks.length=xs.length)(hk:ks[j]?=some k)(hx:xs[j]?=some v):kz (ks.take (j+1)) (xs.take (j+1))=kz (ks.take j) (xs.take j)++[((.inr k:Key),v)]:=by
 rw[jt,jt,hk,hx];exact List.zipWith_append (by rw[Δ,Δ,e])
theorem aQj{ks:List Str}{xs:List V}{j:Nat}(nd:ks.Nodup)(e:ks.length=xs.length)(hk:ks[j]?=some k)(hx:xs[j]?=some v):putK (kz (ks.take j) (xs.take j)) (.inr k) v=kz (ks.take (j+1)) (xs.take (j+1)):=by
 rw[aNo e hk hx];refine lX fun y hy z=>?_;have h1:y.1∈(kz (ks.take j) (xs.take j)).map (·.1):=jf.mpr ⟨y,hy,rfl⟩;rw[iH (by rw[Δ,Δ,e]),z]at h1;obtain⟨w,hw,ew⟩:=jf.mp h1;cases ew;obtain⟨i,hi⟩:=lc.mp hw;have hij:i<j:=by have:=(η.mp hi).1;rw[Δ]at this;omega
 rw[mz hij]at hi;obtain⟨a1,b1⟩:=η.mp hi;obtain⟨a2,b2⟩:=η.mp hk;exact absurd (b1.trans b2.symm) (qf.mp nd i j a1 a2 hij)
theorem aKo(h:gP d=true):∃(p:Str) (v:Int),d=xJ (p,v):=by
 unfold gP at h
 split at h
 ·exact⟨_,_,rfl⟩
 ·cases h
theorem DatAll.at'{K:υ}: ∀{xs:List V}{ds:List ο}{i:Nat}{d:ο},DatAll K H xs ds->ds[i]?=some d->∃x,xs[i]?=some x/\Dat K H x d
 |_,_,_,_,.nil,e=>by simp at e
 |_,_,0,_,.cons h _,e=>by simp at e;subst e;exact⟨_,rfl,h⟩
 |_,_,i+1,d,.cons _ t,e=>by
  obtain⟨x,h1,h2⟩:=DatAll.at' (i:=i) (d:=d) t (by simpa using e);exact⟨x,by simpa using h1,h2⟩
theorem RwA.row{K:υ}(h:RwA K H rl ds){i:Nat}(hi:i<ds.length):∃(xs:List V) (t:Addr) (p:Str) (v:Int),SqL K H rl xs/\xs.length=ds.length/\xs[i]?=some (.ref t)/\SqT K H t [.str p,.int v]/\ds.drop i=xJ (p,v)::ds.drop (i+1):=by
 obtain⟨⟨xs,h1,h2⟩,h3,_⟩:=h;have e:ds[i]?=some ds[i]:=θ hi;obtain⟨p,v,ed⟩:=aKo (h3 _ (μ e));obtain⟨x,hx,hd⟩:=DatAll.at' h2 e;rw[ed]at hd;cases hd with
 | @tup t ys _ ht hs =>
  cases hs with
  |cons a hs=>cases hs with
   |cons b hs =>
    cases hs;cases a;cases b;exact⟨xs,t,p,v,h1,h2.length,hx,ht,by rw[wk hi,ed]⟩
theorem len3{os:St}(h:os.length=3):∃a b c,os=[a,b,c]:=by
 match os,h with
 |[a,b,c],_=>exact⟨a,b,c,rfl⟩
def oY (S:List Shp) (r i:Nat):ο->Option ο
 |.list ds=>(rdv S r (.nest i) Str.empty ds).bind fun x=>if x.2=ds.length then some x.1 else none
 |_=>none
def spOF (c:Cl5) (CR:Addr) (K:υ) (r:Nat):Sp:=fun vs H Q E=>∃(s:Addr) (x:V) (i:Nat) (sa:List Addr) (S:List Shp) (d:ο),vs=[.ref s,x]/\sa[i]?=some s/\2*i+2<=r/\8*(r+1)<=200/\SW c K H sa S/\Wel S/\(Dat K H x d\/(∃a kvs,x=.ref a/\H a=some (.dK kvs))/\∃ps,d=.dict ps)/\(∀ds,d=.list ds->ds.length<=1000)/\(∀e,oY S r i d=some e->∀v H',jI H H'->Dt false K H' v e->Frs H v->Q v H')/\(oY S r i d=none->Rz CR H E [("found",x)])
theorem aKp{ds:List ο}(h:¬ ∀d∈ds,gP d=true):oY S r i (.list ds)=none:=by
 have h0:oY S r i (.list ds)=(rdv S r (.nest i) Str.empty ds).bind fun x=>if x.2=ds.length then some x.1 else none:=rfl
 rw[h0];cases e:rdv S r (.nest i) Str.empty ds with
 |none=>rfl
 |some x =>
  show(if x.2=ds.length then some x.1 else none)=none;refine if_neg fun z=>h fun d hd=>?_;have h2:=(aCo (m:=x.2) (d:=x.1) e).2;rw[z,zd]at h2;exact h2 d hd
inductive aFp (K:υ) (n:Nat) (vs:List V) (H:Hp) (Q:VK):Prop|mk:∀(a sl:Addr) (p:Str) (x:V) (kd:Kd) (S:List Shp) (d:ο) (r:Nat),n=r+1->vs=[.ref a,.ref sl,.str p,x]->p.length+8*n<=200->Sml p->kd.Rk r->kd.Fit S.length->LK K H a kd->LX K H sl S->Wel S->Dt false K H x d->Can S r kd d->(∀l H',jI H H'->H l=none->RL K H' l (flv S r kd p d)->Q (.ref l) H')->aFp K n vs H Q
def aFy (K:υ) (n:Nat):Sp:=fun vs H Q _=>aFp K n vs H Q
def aPr:Sp:=fun vs H Q _=>∃(p:Addr) (w:Nat),vs=[.ref p,.int w]/\1<=w/\w<=4/\St3 H p/\∀(v:Nat) (H':Hp),v<256 ^ w->Drawn p H H'->Q (.int v) H'
inductive aKz (K:υ) (n:Nat) (vs:List V) (H:Hp) (Q:VK):Prop|mk:∀(p a sl:Addr) (kd:Kd) (S:List Shp) (r:Nat) (ys:List Addr),n=r+1->vs=[.ref p,.ref a,.ref sl]->St3 H p->p∈ys->Al ys H->kd.Rk r->kd.Fit S.length->LK K (offs ys H) a kd->LX K (offs ys H) sl S->Wel S->(∀v d H',Drawn p H H'->Dt true K (offs ys H') v d->Can S r kd d->Frs H v->Q v H')->aKz K n vs H Q
def spDr (K:υ) (n:Nat):Sp:=fun vs H Q _=>aKz K n vs H Q
theorem LX.at'{K:υ}(h:LX K H sl S){i:Nat}(hi:i<S.length):∃(as:List Addr) (s l:Addr) (ps:List Addr),SqL K H sl (as.map V.ref)/\as[i]?=some s/\SqT K H s [.str S[i].1,.ref l]/\SqL K H l (ps.map V.ref)/\LF K H ps S[i].2:=by
 obtain⟨as,h1,h2⟩:=h;have hl:=h2.len;obtain⟨s,hs⟩ : ∃s,as[i]?=some s:=⟨_,θ (by omega)⟩;obtain⟨sh,e,l,ps,m1,m2,m3⟩:=h2.get hs;obtain⟨_,rfl⟩:=η.mp e;exact⟨as,s,l,ps,h1,hs,m1,m2,m3⟩
theorem aEj{is:List Nat}{j:Nat}(h:is[j]?=some i):atI (is.map fun (i:Nat)=>V.int i) (j:Int)=some (.int i):=xB (by rw[iq,h];rfl)
theorem aEw{f as ks p}{es:List Expr}: il (.Call f as ks p::es) env=(false,eval (.Call f as ks p) env)::il es env:=rfl
def LfA (K:υ) (ys:List Addr) (H:Hp) (l:Addr) (ds:List ο):Prop:=∃xs,H l=some (.lst xs)/\DatAll K (offs ys H) xs ds/\xs.length<=1000
inductive aLf (K:υ) (vs:List V) (H:Hp) (Q:VK):Prop|mk:∀(l:Addr) (p:Str) (b:Int) (ds:List ο) (ys:List Addr),vs=[.ref l,.str p,.int (b-1)]->l∈ys->Al ys H->LfA K ys H l ds->((∀d∈ds,ke d=true))->ke (.str p)=true->(∀x H',But l H H'->LfA K ys H' l (ds.drop 1)->((nx p b ds=none/\x=.non)\/∃v t,nx p b ds=some v/\x=.ref t/\H t=none/\H' t=some (.lst [.int v]))->Q x H')->aLf K vs H Q
def spNx (K:υ):Sp:=fun vs H Q _=>aLf K vs H Q
inductive aHy (K:υ) (n:Nat) (vs:List V) (H:Hp) (Q:VK):Prop|mk:∀(a sl l:Addr) (p:Str) (kd:Kd) (S:List Shp) (ds:List ο) (r:Nat) (ys:List Addr),n=r+1->vs=[.ref a,.ref sl,.str p,.ref l]->p.length+8*n<=200->Sml p->l∈ys->Al ys H->kd.Rk r->kd.Fit S.length->LK K (offs ys H) a kd->LX K (offs ys H) sl S->Wel S->LfA K ys H l ds->((∀d∈ds,ke d=true))->(∀x H',But l H H'->((rdv S r kd p ds=none/\x=.non/\∃zs,H' l=some (.lst zs))\/∃d m v t,rdv S r kd p ds=some (d,m)/\LfA K ys H' l (ds.drop m)/\x=.ref t/\H t=none/\offs ys H' t=some (.lst [v])/\Dt false K (offs ys H') v d)->Q x H')->aHy K n vs H Q
def spLR (K:υ) (n:Nat):Sp:=fun vs H Q _=>aHy K n vs H Q
theorem aHo(h:ke (.tuple ds)=true):∀d∈ds,ke d=true:=by
 have h1:=sd h;have h2:=SeqAt.depth_of_shaped h;have c:ua ds=true:=h1;have e:lj ds+1<=64:=h2;clear h h1 h2
 induction ds with
 |nil=>intro d hd;cases hd
 |cons x xs ih =>
  have c':(x.canLay0&&ua xs)=true:=c;have e':max x.depth (lj xs)+1<=64:=e;rw[jv]at c';intro d hd;rcases Φ.mp hd with rfl|hd
  ·unfold ke;rw[c'.1,ue];exact decide_eq_true (by omega)
  ·exact ih c'.2 (by omega) d hd
theorem aFm : ο.eqv d (.str p)=true ↔ d=.str p:=by
 cases d with
 |str q=>simp[ο.eqv]
 |_=>simp[ο.eqv]
theorem nx_no{p:Str}{b:Int}{d:ο}{ds:List ο}(h:∀v,d=xJ (p,v)->¬ (0<=v/\v<b)):nx p b (d::ds)=none:=by
 unfold nx
 split
 ·rename_i q v r e;injection e with e1 e2;exact if_neg fun z=>h v (by rw[e1,z.1];rfl) z.2
 ·rfl
def cG (l l0:Addr) (H H':Hp):Prop:=∀b o,b≠l->b≠l0->H b=some o->H' b=some o
theorem cG.offs{l:Addr}{ys:List Addr}{H:Hp}(g1:jI H H1)(h0:H l0=none)(hl:l∈ys)(g:cG l l0 H1 H'):jI (offs ys H) (offs (l0::ys) H'):=fun b o e=>by
 have hb:b∉ys:=fun z=>by unfold L2.offs at e;rw[if_pos z]at e;cases e
 have e':H b=some o:=jM _ _ e;have n0:b≠l0:=jL e' h0;refine kP (fun z=>?_) (g b o (fun z=>hb (z ▸ hl)) n0 (g1 _ _ e'));rcases Φ.mp z with z|z
 ·exact n0 z
 ·exact hb z
theorem cG.back{H:Hp}(g1:jI H H1)(h0:H l0=none)(g:cG l l0 H1 H'):But l H H':=fun b o n e=>g b o n (jL e h0) (g1 _ _ e)
theorem LfA.to{K:υ}{H H':Hp}(h:LfA K ys H l ds)(g:jI (offs ys H) (offs ys' H'))(hl:∀o,H l=some o->H' l=some o):LfA K ys' H' l ds:=by
 obtain⟨xs,h1,h2,h3⟩:=h;exact⟨xs,hl _ h1,h2.same g,h3⟩
theorem iT{ys:List Addr}{l0:Addr}: jI (offs (l0::ys) H) (offs ys H):=iS fun b hb=>Ξ _ hb
theorem aIu{ks:List Str}{zs:List V}{j:Nat}(nd:ks.Nodup)(hz:zs.length=j)(hk:ks[j]?=some k):putK (kz (ks.take j) zs) (.inr k) v=kz (ks.take (j+1)) (zs++[v]):=by
 obtain⟨a2,b2⟩:=η.mp hk;have hl:(ks.take j).length=zs.length:=by rw[Δ,hz];omega
 have e:kz (ks.take (j+1)) (zs++[v])=kz (ks.take j) zs++[((.inr k:Key),v)]:=by
  rw[jt,hk];exact List.zipWith_append hl
 rw[e];refine lX fun y hy z=>?_;have h1:y.1∈(kz (ks.take j) zs).map (·.1):=jf.mpr ⟨y,hy,rfl⟩;rw[iH hl,z]at h1;obtain⟨w,hw,ew⟩:=jf.mp h1;cases ew;obtain⟨i,hi⟩:=lc.mp hw;have hij:i<j:=by have:=(η.mp hi).1;rw[Δ]at this;omega
 rw[mz hij]at hi;obtain⟨a1,b1⟩:=η.mp hi;exact absurd (b1.trans b2.symm) (qf.mp nd i j a1 a2 hij)
def ThD (K:υ) (H:Hp) (x:V) (d:ο):Prop:=Dat K H x d\/(∃a kvs,x=.ref a/\H a=some (.dK kvs))/\∃ps,d=.dict ps
def spDu (K:υ) (r:Nat):Sp:=fun vs H Q _=>∃(a sl:Addr) (x:V) (i:Nat) (S:List Shp) (d:ο),vs=[.ref a,.ref sl,x]/\LK K H a (.nest i)/\LX K H sl S/\Wel S/\i<S.length/\2*i+2<=r/\8*(r+1)<=200/\ThD K H x d/\(∀ds,d=.list ds->ds.length<=1000/\∀e∈ds,ke e=true) ∧
 ∀y H',jI H H'->((oY S r i d=none/\y=.non)\/∃e v t,oY S r i d=some e/\y=.ref t/\H' t=some (.lst [v])/\Dt false K H' v e)->Q y H'
theorem But.fresh{H:Hp}{o:HO}(g:But l H H')(h:H l=none):jI H H':=fun b o q=>g b o (jL q h) q
def aEs:Str:=ε "late"
def spVe (K:υ):Sp:=fun vs H Q _=>∃x:V,vs=[x,x]/\((∃t,tyM K x H t/\isa t "list" = false)\/∃l xs,x=.ref l/\H l=some (.lst xs)/\xs.length<=1000)/\∀H',jI H H'->Q (.bl true) H'
theorem aJc(xs:List V)(v:V):aK (xs++[v]) (some (-1)) none=[v]:=by
 unfold aK;have:HT.sIx (xs++[v]).length 0 (some (-1))=xs.length:=by
  show(if (-1:Int)<0 then ((-1:Int)+((xs++[v]).length:Int)).toNat else min (-1:Int).toNat (xs++[v]).length)=_;rw[if_pos (by decide),ι,ki];omega
 rw[this,HT.sIx_none,List.drop_left,ι,ki];exact lq (by simp)
def aOt (c:Cl5) (K:υ) (r:Nat):Sp:=fun vs H Q _=>∃(s:Addr) (x:V) (i:Nat) (sa:List Addr) (S:List Shp) (d:ο),vs=[.ref s,x]/\sa[i]?=some s/\2*i+2<=r/\8*(r+1)<=200/\SW c K H sa S/\Wel S/\aEp S i K H x/\Dt false K H x d/\DtR K H x d/\d.showable=true/\d.depth<=60/\d.shown.length<=ρ/\∀H',jI H H'->Q (.bl true) H'
theorem DtR.same{K:υ}(h:DtR K H x d)(g:jI H H'):DtR K H' x d:=by
 rcases h with h|⟨h,n⟩
 ·exact .inl (h.same g)
 ·exact .inr ⟨h.same g,n⟩
theorem aBx{X:Cx}{K:υ}(hK:X.K=K)(hu:X.A.units+64<ou):OpR X (ky .Eq) (rEqT K):=hK ▸ aFh hu
theorem wS{X:Cx}{K:υ}(hK:X.K=K)(hu:X.A.units+64<ou):OpR X (ky .NotEq) (rNeT K):=hK ▸ aNe hu
structure Tg (K:υ) (H:Hp) (x:V) (d:ο):Prop where
 th:ThD K H x d
 sz:∀ds,d=.list ds->ds.length<=1000/\∀e∈ds,ke e=true
 ve:(∃t,tyM K x H t/\isa t "list" = false)\/∃l xs,x=.ref l/\H l=some (.lst xs)/\xs.length<=1000
 rp:DtR K H x d
 sn:d.showable=true
 dp:d.depth<=60
 ln:d.shown.length<=ρ
 ne:(∃(a:Addr) (ks:List Str) (xs:List V) (ds:List ο),x=.ref a/\H a=some (.dK (kz ks xs))/\ks.length=xs.length/\Dts false K H xs ds/\lj ds<=60)\/(Dat K H x d/\ke d=true)
theorem ThD.same'{K:υ}(h:ThD K H x d)(g:jI H H'):ThD K H' x d:=by
 rcases h with h|⟨⟨a,kvs,e,h⟩,z⟩
 ·exact .inl (h.same g)
 ·exact .inr ⟨⟨a,kvs,e,g _ _ h⟩,z⟩
theorem aAn{K:υ}(h:tyM K x H t)(g:jI H H'):tyM K x H' t:=by
 rcases h with h|⟨e,p,kvs,rfl,h⟩
 ·refine .inl ?_;unfold tyN at h ⊢;cases x with
  |ref p =>
   rcases h with⟨e,xs,h⟩|⟨e,xs,h⟩
   ·exact .inl ⟨e,xs,g.seq h⟩
   ·exact .inr ⟨e,xs,g.tp h⟩
  |_=>exact h
 ·exact .inr ⟨e,p,kvs,rfl,g _ _ h⟩
theorem Tg.same{K:υ}(h:Tg K H x d)(g:jI H H'):Tg K H' x d:=by
 refine⟨ThD.same' h.th g,h.sz,?_,DtR.same h.rp g,h.sn,h.dp,h.ln,?_⟩
 ·rcases h.ve with⟨t,ht,z⟩|⟨l,xs,e,hx,z⟩
  ·exact .inl ⟨t,aAn ht g,z⟩
  ·exact .inr ⟨l,xs,e,g _ _ hx,z⟩
 ·rcases h.ne with⟨a,ks,xs,ds,e,hx,z1,z2,z3⟩|⟨h1,z⟩
  ·exact .inl ⟨a,ks,xs,ds,e,g _ _ hx,z1,z2.same g,z3⟩
  ·exact .inr ⟨h1.same g,z⟩
def spAk (c:Cl5) (K:υ) (r:Nat):Sp:=fun vs H Q _=>∃(s a sl:Addr) (x:V) (i:Nat) (sa:List Addr) (S:List Shp) (d:ο),vs=[.ref s,.ref a,.ref sl,x]/\sa[i]?=some s/\2*i+2<=r/\8*(r+1)<=200/\SW c K H sa S/\Wel S/\LK K H a (.nest i)/\LX K H sl S/\Tg K H x d/\(∀e,oY S r i d=some e->e.depth<=50)/\∀H',jI H H'->Q (.bl true) H'
def Nc (d:ο):Prop:=ke d=true/\d.hasDict=false/\Sn d 400 3
theorem aKy{ds:List ο}(h:∀d∈ds,Nc d):ua ds=true/\yn ds=false/\SnA ds (401*ds.length) 3:=by
 induction ds with
 |nil=>exact⟨rfl,rfl,SnA.nil _⟩
 |cons d ds ih =>
  obtain⟨h1,h2,h3⟩:=h d (Ω ..);obtain⟨i1,i2,i3⟩:=ih fun e he=>h e (Ξ _ he);refine⟨?_,?_,?_⟩
  ·show(d.canLay0&&ua ds)=true;rw[sd h1,i1];rfl
  ·show(d.hasDict||yn ds)=false;rw[h2,i2];rfl
  ·have k:=SnA.cons h3 i3;exact⟨k.sh,k.ls,Θ k.wt (by rw[ii];omega),k.dp⟩
theorem tS{K:υ}{H:Hp}(hl:H l=some (.lst xs))(hd:DatAll K H xs ds)(hn:∀d∈ds,Nc d)(few:ds.length<=140):Tg K H (.ref l) (.list ds):=by
 obtain⟨c1,c2,c3⟩:=aKy hn;have s:=c3.lst;have hdat:Dat K H (.ref l) (.list ds):=.lst (SqL.of hl) hd;have hsh:ke (.list ds)=true:=by
  have e1:(ο.list ds).canLay0=true:=c1;unfold ke;rw[e1,ue];exact decide_eq_true (Θ s.dp (by decide))
 refine⟨.inl hdat,fun ds' e=>?_,.inr ⟨l,xs,rfl,hl,?_⟩,.inr ⟨hdat,c2⟩,s.sh,Θ s.dp (by decide),s.len (by omega),.inr ⟨hdat,hsh⟩⟩
 ·cases e;exact⟨by omega,fun e he=>(hn e he).1⟩
 ·have:=hd.length;omega
theorem aEm(h:aDx p n q)(hp:p+8*n<=192):Nc (xJ q):=by
 obtain⟨h1,h2,h3,h4⟩:=h;have k:=(SnA.cons ((Sn.str h2).le (ν _) (iy _)) (SnA.cons ((Sn.int32 (i:=q.2) (by omega) (by omega)).le (ν _) (iy _)) (SnA.nil 0))).tup;refine⟨?_,rfl,k.le (by omega) (by decide)⟩;have e1:(yj [.str q.1,.int q.2]).canLay0=true:=by
  show((px q.1).canLay0&&(true&&true))=true;rw[sd h2.ok];rfl
 unfold xJ ke;rw[e1];rfl
def aOo (K:υ):Sp:=fun vs H Q _=>∃(p rl:Addr) (rs:List (Str×Int)),vs=[.ref p,.ref rl]/\St3 H p/\RL K (offs [p] H) rl rs/\rs≠[]/\rs.length<=65/\(∀q∈rs,aDx 0 24 q)/\∀l xs ds H',Drawn p H H'->H' l=some (.lst xs)->DatAll K H' xs ds->(∀d∈ds,Nc d)->ds.length<=140->Q (.ref l) H'
def spRg (c:Cl5) (K:υ) (r:Nat):Sp:=fun vs H Q _=>∃(p s a sl:Addr) (i:Nat) (sa:List Addr) (S:List Shp),vs=[.ref p,.ref s,.ref a,.ref sl]/\St3 H p/\sa[i]?=some s/\2*i+2<=r/\r<=9/\(tabs S).sz.getD i 0<=64/\SW c K (offs [p] H) sa S/\Wel S/\LK K (offs [p] H) a (.nest i)/\LX K (offs [p] H) sl S/\∀H',Drawn p H H'->Q (.bl true) H'
theorem aRs(hG:Good S):∀{n:Nat}{k:Kd}{d:ο}{p:Str},k.Fit S.length->Can S n k d->flv S n k p d≠[]:=by
 intro n
 induction n with
 |zero=>intro k d p hf h;cases k with
  |num w=>obtain⟨v,rfl,_⟩:=h;exact fun z=>by cases z
  |_=>exact h.elim
 |succ n ih =>
  have pd:∀{k:Kd}{d:ο}{p:Str},k.Pd->k.Fit S.length->Can S (n+1) k d->k.parts S≠[]->flv S (n+1) k p d≠[]:=fun {k d p} hk hf h hne=>by
   obtain⟨ds,rfl,hc⟩:=(zN hk).mp h;rw[lW hk p hc.len];cases e:k.parts S with
   |nil=>exact absurd e hne
   |cons f fs =>
    rw[e]at hc;cases ds with
    |nil=>exact hc.elim
    |cons d ds =>
     show flv S n f.2 (pj p f.1) d++_≠[];intro z;exact ih (Kd.parts_ok hG hf (hf.rk.mono (qv _)) (f:=f) (by rw[e];exact Ω ..)).2.1 hc.1 (List.append_eq_nil_iff.mp z).1
  intro k d p hf h;cases k with
  |num w=>obtain⟨v,rfl,_⟩:=h;exact fun z=>by cases z
  |nest i =>
   have hs:S[i]?=some S[i]:=θ (show i<S.length from hf);exact pd (.inl ⟨_,rfl⟩) hf h (by rw[qS hs];exact hG.ne i _ hs)
  |many m q=>exact pd (.inr ⟨_,_,rfl⟩) hf h (fun z=>by have:=congrArg List.length z;rw[show((Kd.many m q).parts S).length=m by show((jg m).map _).length=m;rw[δ,jm]]at this;have:=hf.1;simp at *;omega)
  |pick is=>obtain⟨j,i,e,_,rfl,_⟩:=h;exact fun z=>by cases z
theorem aOa(hG:Good S):∀{n:Nat}{k:Kd}{p:Str}{l:List ο}{d:ο}{m:Nat},k.Fit S.length->rdv S n k p l=some (d,m)->Can S n k d:=by
 have num:∀{n w:Nat}{p:Str}{l:List ο}{d:ο}{m:Nat},((nx p (256 ^ w) l).map fun v=>(ο.int v,1))=some (d,m)->∃v:Nat,d=.int v/\v<256 ^ w:=by
  intro n w p l d m h;cases e:nx p (256 ^ w) l with
  |none=>rw[e]at h;cases h
  |some v =>
   rw[e]at h;cases h;obtain⟨h0,h1,_⟩:=eR e;obtain⟨j,rfl⟩:=qy h0;exact⟨j,rfl,by exact_mod_cast h1⟩
 intro n
 induction n with
 |zero=>intro k p l d m hf h;cases k with
  |num w=>exact num (n:=0) h
  |_=>cases h
 |succ n ih =>
  have ls:∀(fs:List (Str×Kd)) (p:Str) (l:List ο) (ds:List ο) (m:Nat),(∀f∈fs,f.2.Fit S.length)->rdL (rdv S n) fs p l=some (ds,m)->aL (Can S n) fs ds:=by
   intro fs
   induction fs with
   |nil=>intro p l ds m _ h;cases h;exact je
   |cons q fs ihl =>
    intro p l ds m hfs h;have h':(rdv S n q.2 (pj p q.1) l).bind (fun x=>(rdL (rdv S n) fs p (l.drop x.2)).map fun y=>(x.1::y.1,x.2+y.2))=some (ds,m):=h;cases e:rdv S n q.2 (pj p q.1) l with
    |none=>rw[e]at h';cases h'
    |some x =>
     rw[e]at h';have h2:(rdL (rdv S n) fs p (l.drop x.2)).map (fun y=>(x.1::y.1,x.2+y.2))=some (ds,m):=h';cases e2:rdL (rdv S n) fs p (l.drop x.2) with
     |none=>rw[e2]at h2;cases h2
     |some y=>rw[e2]at h2;cases h2;exact⟨ih (hfs q (Ω ..)) e,ihl p _ _ _ (fun f hf=>hfs f (Ξ _ hf)) e2⟩
  have pd:∀{k:Kd}(hk:k.Pd) {p:Str}{l:List ο}{d:ο}{m:Nat},k.Fit S.length->rdv S (n+1) k p l=some (d,m)->Can S (n+1) k d:=by
   intro k hk p l d m hf h;rw[iV hk]at h;cases e:rdL (rdv S n) (k.parts S) p l with
   |none=>rw[e]at h;cases h
   |some y=>rw[e]at h;cases h;exact(zN hk).mpr ⟨y.1,rfl,ls _ _ _ _ _ (fun f hf'=>(Kd.parts_ok hG hf (hf.rk.mono (qv _)) hf').2.1) e⟩
  intro k p l d m hf h;cases k with
  |num w=>exact num (n:=n) h
  |nest i=>exact pd (.inl ⟨i,rfl⟩) hf h
  |many c q=>exact pd (.inr ⟨c,q,rfl⟩) hf h
  |pick is =>
   have h':(nx (pj p yL) is.length l).bind (fun j=>(rdv S n (.nest (is.getD j.toNat 0)) (pj p (kL S (is.getD j.toNat 0))) (l.drop 1)).map fun x=>(yj [.int j,x.1],1+x.2))=some (d,m):=h;cases e:nx (pj p yL) is.length l with
   |none=>rw[e]at h';cases h'
   |some j =>
    rw[e]at h';have h2:(rdv S n (.nest (is.getD j.toNat 0)) (pj p (kL S (is.getD j.toNat 0))) (l.drop 1)).map (fun x=>(yj [.int j,x.1],1+x.2))=some (d,m):=h';obtain⟨h0,h1,_⟩:=eR e;obtain⟨jn,rfl⟩:=qy h0;have hjl:jn<is.length:=by exact_mod_cast h1
    have hi:is[jn]?=some is[jn]:=θ hjl;have eg:is.getD ((jn:Int).toNat) 0=is[jn]:=by rw[nq,ω,hi];rfl
    rw[eg]at h2;cases e2:rdv S n (.nest is[jn]) (pj p (kL S is[jn])) (l.drop 1) with
    |none=>rw[e2]at h2;cases h2
    |some x =>
     rw[e2]at h2;cases h2;exact⟨jn,is[jn],x.1,hi,rfl,ih (k:=.nest is[jn]) (hf.2.2.2 _ (md hjl)) e2⟩
theorem aFs(hG:Good S)(hN:NmS S){r i:Nat}(hi:i<S.length)(hr : 2*i+2<=r)(h:oY S r i d=some e):e.depth<=r+1:=by
 cases d with
 |list ds =>
  have h':(rdv S r (.nest i) Str.empty ds).bind (fun x=>if x.2=ds.length then some x.1 else none)=some e:=h;cases ev:rdv S r (.nest i) Str.empty ds with
  |none=>rw[ev]at h';cases h'
  |some x =>
   rw[ev]at h';have h2:(if x.2=ds.length then some x.1 else none)=some e:=h'
   by_cases hx:x.2=ds.length
   ·rw[if_pos hx]at h2;cases h2;exact(aLh hG hN (k:=.nest i) hi hr (aOa hG (k:=.nest i) hi ev)).dp
   ·rw[if_neg hx]at h2;cases h2
 |_=>cases h
theorem aJi(hG:Good S){i:Nat}(hi:i<S.length)(h:Can S r (.nest i) d):oY S r i (.list ((flv S r (.nest i) Str.empty d).map xJ))=some d:=by
 have e:=aMc hG (k:=.nest i) hi h Str.empty [];rw[li]at e;show(rdv S r (.nest i) Str.empty _).bind _=_;rw[e];exact if_pos (by rw[δ])
theorem aEh{K:υ}(hs:St3 H p)(h:SqT K H t xs):SqT K (offs [p] H) t xs:=by
 obtain⟨a,b,c,hp⟩:=hs;rcases h with (h|⟨o,h⟩)|h
 ·exact .inl (.inl (kP (fun z=>by rw[Ψ.mp z,hp]at h;cases h) h))
 ·exact .inl (.inr ⟨o,kP (fun z=>by rw[Ψ.mp z,hp]at h;cases h) h⟩)
 ·exact .inr h
theorem RR.off{K:υ}(hs:St3 H p)(h:RR K H ts rs):RR K (offs [p] H) ts rs:=by
 induction h with
 |nil=>exact .nil
 |cons t _ ih=>exact .cons (aEh hs t) ih
theorem nc_sh{ds:List ο}(hn:∀d∈ds,Nc d):ke (.list ds)=true:=by
 obtain⟨c1,c2,c3⟩:=aKy hn;have e1:(ο.list ds).canLay0=true:=c1;unfold ke;rw[e1,ue];exact decide_eq_true (Θ c3.lst.dp (by decide))
theorem RL.same{K:υ}(h:RL K H l rs)(g:jI H H'):RL K H' l rs:=by
 obtain⟨ts,h1,h2⟩:=h;exact⟨ts,g _ _ h1,h2.same g⟩
theorem RL.off{K:υ}{l:Addr}(hs:St3 H p)(n:l≠p)(h:RL K H l rs):RL K (offs [p] H) l rs:=by
 obtain⟨ts,h1,h2⟩:=h;exact⟨ts,kP (fun z=>n (Ψ.mp z)) h1,h2.off hs⟩
theorem nJ{K:υ}(h:RL K H l rs)(hn:∀d∈rs.map xJ,Nc d)(few:rs.length<=140):Tg K H (.ref l) (.list (rs.map xJ)):=by
 obtain⟨ts,h1,h2⟩:=h;exact tS h1 h2.dat hn (by rw[δ];exact few)
theorem uO{K:υ}(h:RL K H l rs):Dat K H (.ref l) (.list (rs.map xJ)):=by
 obtain⟨ts,h1,h2⟩:=h;exact .lst (SqL.of h1) h2.dat
theorem aBq(h:ke d=true):ο.eqv d d=true:=PySem.SeqAt.eqv_refl d (sd h)
theorem aIa{K:υ}{Q:VK}(hc:Can S r (.nest i) d)(h1:Dt false K H x d)(h2:Dt false K H y d)(hd:d.depth<=60)(q:Q (.bl false) H):rNeT K x y H Q:=by
 cases r with
 |zero=>exact hc.elim
 |succ r =>
  obtain⟨ds,rfl,cl⟩:=(zN (.inl ⟨i,rfl⟩)).mp hc;have h1':Dt false K H x (.dict (iG ((Kd.nest i).parts S) ds)):=h1;have h2':Dt false K H y (.dict (iG ((Kd.nest i).parts S) ds)):=h2;have hd':uk (iG ((Kd.nest i).parts S) ds)+1<=60:=hd;rw[uJ,aAl (by rw[δ];exact cl.len)]at hd';obtain⟨a,xs,rfl,a1,a2,a3⟩:=lI h1' cl.len;obtain⟨b,ys,rfl,b1,b2,b3⟩:=lI h2' cl.len;exact .inl ⟨a,b,_,xs,ys,ds,rfl,rfl,a1,b1,(by rw[δ];exact a2),(by rw[δ];exact b2),a3,b3,by omega,q⟩
theorem aRx{K:υ}{H:Hp}(hc:Can S r (.nest i) d)(h1:Dt false K H x d):∃a kvs,x=.ref a/\H a=some (.dK kvs):=by
 cases r with
 |zero=>exact hc.elim
 |succ r =>
  obtain⟨ds,rfl,cl⟩:=(zN (.inl ⟨i,rfl⟩)).mp hc;have h1':Dt false K H x (.dict (iG ((Kd.nest i).parts S) ds)):=h1;obtain⟨a,xs,rfl,a1,a2,a3⟩:=lI h1' cl.len;exact⟨a,_,rfl,a1⟩
structure It (d:ο) (w m:Nat):Prop where
 cl:d.canLay0=true
 hd:d.hasDict=false
 sn:Sn d w m
structure ItA (ds:List ο) (w m:Nat):Prop where
 cl:ua ds=true
 hd:yn ds=false
 sn:SnA ds w m
theorem It.le{w' m':Nat}(h:It d w m)(hw:w<=w')(hm:m<=m'):It d w' m':=⟨h.cl,h.hd,h.sn.le hw hm⟩
theorem ItA.nil(m:Nat):ItA [] 0 m:=⟨rfl,rfl,SnA.nil m⟩
theorem ItA.cons{d:ο}{ds:List ο}{n m n':Nat}(h:It d n m)(t:ItA ds n' m):ItA (d::ds) (n+1+n') m:=by
 refine⟨?_,?_,SnA.cons h.sn t.sn⟩
 ·show(d.canLay0&&ua ds)=true;rw[h.cl,t.cl];rfl
 ·show(d.hasDict||yn ds)=false;rw[h.hd,t.hd];rfl
theorem ItA.tup{ds:List ο}{n m:Nat}(t:ItA ds n m):It (.tuple ds) n (m+1):=⟨t.cl,t.hd,t.sn.tup⟩
theorem ItA.lst{ds:List ο}{n m:Nat}(t:ItA ds n m):It (.list ds) n (m+1):=⟨t.cl,t.hd,t.sn.lst⟩
theorem It.nc(h:It d w m)(hw:w<=400)(hm:m<=3):Nc d:=by
 refine⟨?_,h.hd,h.sn.le hw hm⟩;unfold ke;rw[h.cl,ue];exact decide_eq_true (Θ h.sn.dp (Θ hm (by decide)))
theorem It.str(h:Sml x):It (.str x) x.length 0:=⟨sd h.ok,rfl,Sn.str h⟩
theorem It.int{i:Int}(h0 : -1<=i)(h:i<2 ^ 99):It (.int i) 101 0:=⟨rfl,rfl,Sn.int32 h0 h⟩
theorem It.bl(b:Bool):It (.bool b) 101 0:=by cases b <;> exact⟨rfl,rfl,rfl,rfl,by decide,by decide⟩
theorem It.non:It .none 101 0:=⟨rfl,rfl,rfl,rfl,by decide,by decide⟩
def Ne (K:υ) (H:Hp) (x:V) (w m:Nat):Prop:=∃d,Dat K H x d/\It d w m
theorem Ne.same{K:υ}(h:Ne K H x w m)(g:jI H H'):Ne K H' x w m:=by
 obtain⟨d,h1,h2⟩:=h;exact⟨d,h1.same g,h2⟩
theorem aRw{K:υ}{xs:List V}(h:∀x∈xs,∃d,Dat K H x d/\Nc d):∃ds,DatAll K H xs ds/\(∀d∈ds,Nc d)/\ds.length=xs.length:=by
 induction xs with
 |nil=>exact⟨[],.nil,(fun d hd=>by cases hd),rfl⟩
 |cons x xs ih =>
  obtain⟨ds,i1,i2,i3⟩:=ih fun y hy=>h y (Ξ _ hy);obtain⟨d,j1,j2⟩:=h x (Ω ..);refine⟨d::ds,.cons j1 i1,fun e he=>?_,congrArg (·+1) i3⟩;rcases Φ.mp he with rfl|he
  ·exact j2
  ·exact i2 e he
theorem RR.ne{K:υ}(h:RR K H ts rs)(hr:∀q∈rs,aDx 0 24 q):∀x∈ts.map V.ref,∃d,Dat K H x d/\Nc d:=by
 induction h with
 |nil=>intro x hx;cases hx
 | @cons t ts q rs ht _ ih =>
  intro x hx;rcases Φ.mp hx with rfl|hx
  ·exact⟨xJ q,.tup ht (.cons (.str _) (.cons (.int _) .nil)),aEm (hr q (Ω ..)) (by decide)⟩
  ·exact ih (fun q' hq'=>hr q' (Ξ _ hq')) x hx
theorem RR.get{K:υ}(h:RR K H ts rs):∀{j:Nat},j<rs.length->∃t q,ts[j]?=some t/\rs[j]?=some q/\SqT K H t [.str q.1,.int q.2]:=by
 induction h with
 |nil=>intro j hj;exact absurd hj (xk _)
 | @cons t ts q rs ht _ ih =>
  intro j hj;cases j with
  |zero=>exact⟨t,q,rfl,rfl,ht⟩
  |succ j=>exact ih (yl hj)
theorem nP{lo:Option Int}{x:V}(h:x∈aK xs lo hi):x∈xs:=by
 unfold aK at h;exact List.mem_of_mem_drop (List.mem_of_mem_take h)
theorem hV{n j:Nat}(h:j<n):ixN n (j:Int)=some j:=by
 unfold ixN;rw[if_pos (by omega),if_pos (by omega)];rfl
section
theorem dL{pos:Pos}(he:PEx X e te)(hg:PG X tg g)(hs:swapsWithSole [tg] e pos.line X.env=pure false:=by rfl)(hw:swappedStores [tg] e X.env=pure none:=by rfl)(h1:(vm [tg] X.env).map (·.2)=[assign tg X.env]:=by rfl):wE X (.Assign [tg] e pos) (aKi te g):=⟨bY he.h hg hs hw h1⟩
structure PIx (X:Cx) (tg iter:Expr) (wi:TI):Prop where
 h:PI X tg iter wi
theorem aIb(hl:PEx X l tl):PIx X tg l (aPj X.K tl):=⟨qO hl.h⟩
theorem aBp{X:Cx}(hp:PassesOwn (ir X.prog X.w) X.A X.env X.xe)(hc:X.calm=true)(hi:PIx X tg iter wi)(hg:PG X tg g)(hb:PSx X body tb)
  (hs:∀x,ya iter X.env x=pure x:=by intro _;rfl):wE X (.For tg iter body [] pos) (tFor wi g tb):=⟨xG hp hc hi.h hg hb.h hs⟩
theorem aHi(h1:PE X k1 a1)(h2:PE X v1 b1)(h3:PE X k2 a2)(h4:PE X v2 b2):PEx X (.Dict [some k1,some k2] [v1,v2] pos) (aOw [(a1,b1),(a2,b2)]):=⟨aMa (aAx h1 h2 (aAx h3 h4 aNn)) rfl rfl (fun z=>nomatch z) (by show 2<=15;decide)⟩
theorem iP(hc:PT X c tc)(ha:PSx X a t)(hb:PSx X b u):wE X (.If c a b pos) (aGz tc t u):=⟨kK hc ha.h hb.h⟩
end
theorem Sml.slice(h:Sml x)(l u:Option Int):Sml (Txt.slice x l u):=by
 unfold Txt.slice
 split
 ·exact h
 ·refine ji.mpr fun c hc=>?_;have hc':c∈(su.Str.strSliceIndices l u 1 x.length).filterMap (x.cps[·]?):=by simpa using hc
  obtain⟨j,_,hj⟩:=List.mem_filterMap.mp hc';exact ji.mp h c (μ (i:=j) (by simpa using hj))
def spMn (CS:Addr) (K:υ):Sp:=fun vs H Q _=>∃(o dx t:Addr) (sa:List Addr) (i:Nat) (s:Addr),vs=[.ref o]/\H o=some (.ins CS dx [("shapes",.ref t)])/\SqT K H t (sa.map V.ref)/\sa.length=i+1/\sa[i]?=some s/\Q (.ref s) H
theorem aMb{sa:List Addr}{i:Nat}(hl:sa.length=i+1)(hs:sa[i]?=some s):atI (sa.map V.ref) (-1)=some (.ref s):=by
 have e:ixN (sa.map V.ref).length (-1)=some i:=by
  unfold ixN;rw[δ,hl,if_neg (by decide),if_pos (by omega)]
  congr 1
  omega
 show(ixN (sa.map V.ref).length (-1)).bind _=_;rw[e];show(sa.map V.ref)[i]?=_;rw[iq,hs];rfl
structure Tn (S:List Shp) (i:Nat) (K:υ) (H:Hp) (x:V) (d:ο):Prop where
 tg:Tg K H x d
 bad:aEp S i K H x
 dt:Dt false K H x d
theorem Tg.sc{K:υ}(hd:Dat K H x d)(ht:tyM K x H t)(hl:isa t "list" = false)(hn:∀ds,d≠.list ds)(it:It d 400 3):Tg K H x d :=
 ⟨.inl hd,fun ds e=>absurd e (hn ds),.inl ⟨t,ht,hl⟩,.inr ⟨hd,it.hd⟩,it.sn.sh,Θ it.sn.dp (by decide),it.sn.len (by decide),.inr ⟨hd,(it.nc (ν _) (ν _)).1⟩⟩
theorem Tg.dct{K:υ}{H:Hp}{a:Addr}{ks:List Str}{xs:List V}{ds:List ο}(h:H a=some (.dK (kz ks xs)))(hl:ks.length=xs.length)(hds:Dts true K H xs ds)(sn:Sn (.dict (jj (fun k d=>(px k,d)) ks ds)) 400 3):Tg K H (.ref a) (.dict (jj (fun k d=>(px k,d)) ks ds)):=by
 have dp:uk (jj (fun k d=>(px k,d)) ks ds)+1<=3:=sn.dp;rw[aAl (by rw[hl,hds.length])]at dp;exact⟨.inr ⟨⟨a,_,rfl,h⟩,_,rfl⟩,fun ds e=>by(cases e),.inl ⟨"dict",.inr ⟨rfl,a,_,rfl,h⟩,rfl⟩,.inl (.dct h hl hds),sn.sh,Θ sn.dp (by decide),sn.len (by decide),.inl ⟨a,ks,xs,ds,rfl,h,hl,hds.any,by omega⟩⟩
theorem Tn.same{K:υ}(h:Tn S i K H x d)(g:jI H H'):Tn S i K H' x d:=by
 refine⟨h.tg.same g,?_,h.dt.same g⟩;rcases h.bad with⟨t,ht⟩|⟨a,kvs,e,hk,z⟩
 ·rcases aAn (K:=K) (.inl ht) g with h1|⟨rfl,p,kvs,rfl,_⟩
  ·exact .inl ⟨t,h1⟩
  ·exact absurd (aJr ht) (by decide)
 ·exact .inr ⟨a,kvs,e,g _ _ hk,z⟩
theorem aRj{K:υ}: Tn S i K H .non .none:=⟨Tg.sc .non (.inl rfl) rfl (fun ds e=>by cases e) (It.non.le (by decide) (by decide)),.inl ⟨_,rfl⟩,.non⟩
theorem tn_bl{K:υ}(b:Bool):Tn S i K H (.bl b) (.bool b):=⟨Tg.sc (.bl b) (.inl rfl) rfl (fun ds e=>by cases e) ((It.bl b).le (by decide) (by decide)),.inl ⟨_,rfl⟩,.bl b⟩
theorem aRp{K:υ}: Tn S i K H (.int 0) (.int 0):=⟨Tg.sc (.int 0) (.inl rfl) rfl (fun ds e=>by cases e) ((It.int (by decide) (by decide)).le (by decide) (by decide)),.inl ⟨_,rfl⟩,.int 0⟩
theorem aRb{K:υ}: Tn S i K H (.str (ε "record")) (.str (ε "record")):=⟨Tg.sc (.str _) (.inl rfl) rfl (fun ds e=>by cases e) ((It.str (by unfold Sml;ac_rfl)).le (by ac_rfl) (by decide)),.inl ⟨_,rfl⟩,.str _⟩
theorem aIt{K:υ}{H:Hp}(h:H l=some (.lst xs))(hd:DatAll K H xs ds)(hn:∀d∈ds,Nc d)(few:ds.length<=140)(dt:Dts false K H xs ds):Tn S i K H (.ref l) (.list ds):=⟨tS h hd hn few,.inl ⟨"list",.inl ⟨rfl,_,SqL.of h⟩⟩,.lst (SqL.of h) (fun z=>nomatch z) dt⟩
theorem aMl{K:υ}{H:Hp}(h:H l=some (.tup [])):Tn S i K H (.ref l) (.tuple []):=⟨Tg.sc (.tup (SqT.of h) .nil) (.inl (.inr ⟨rfl,_,SqT.of h⟩)) rfl (fun ds e=>by cases e) ((ItA.nil 0).tup.le (by decide) (by decide)),.inl ⟨"tuple",.inr ⟨rfl,_,SqT.of h⟩⟩,.tup (SqT.of h) .nil⟩
theorem tn_d0{K:υ}{H:Hp}(hne:(Kd.nest i).parts S≠[])(h:H l=some (.dK [])):Tn S i K H (.ref l) (.dict []):=⟨Tg.dct (ks:=[]) (xs:=[]) (ds:=[]) h rfl .nil ((SnK.nil 0).dct.le (by decide) (by decide)),.inr ⟨l,_,rfl,h,.inl (fun z=>hne (pe.mp z.symm))⟩,.dct (ks:=[]) (xs:=[]) (ds:=[]) h rfl .nil⟩
theorem tn_d2{K:υ}{H:Hp}(hc:∀f∈(Kd.nest i).parts S,f.1∉bdN)(h:H l=some (.dK [(.inr (ε "a"),.int 1),(.inr (ε "more"),.int 2)])):Tn S i K H (.ref l) (.dict [(.str (ε "a"),.int 1),(.str (ε "more"),.int 2)]):=by
 have sa:Sml (ε "a"):=by unfold Sml;ac_rfl
 have sm:Sml (ε "more"):=by unfold Sml;ac_rfl
 refine⟨Tg.dct (ks:=[ε "a",ε "more"]) (xs:=[.int 1,.int 2]) (ds:=[.int 1,.int 2]) h rfl (.cons (.int _) (.cons (.int _) .nil)) ((SnK.cons sa (Sn.int32 (by decide) (by decide)) (SnK.cons sm (Sn.int32 (by decide) (by decide)) (SnK.nil 0))).dct.le (by ac_rfl) (by decide)),.inr ⟨l,_,rfl,h,.inr fun f hf=>?_⟩,.dct (ks:=[ε "a",ε "more"]) (xs:=[.int 1,.int 2]) (ds:=[.int 1,.int 2]) h rfl (.cons (.int _) (.cons (.int _) .nil))⟩;have h1:=hc f hf;have n1:ε "a" ≠ f.1:=fun z=>h1 (z ▸ Ω ..);have n2:ε "more" ≠ f.1:=fun z=>h1 (z ▸ Ξ _ (Ω ..));unfold zX;rw[uw (by simpa using n1),uw (by simpa using n2)];rfl
structure XN2 (K:υ) (mg:Str->Option Value) (C D E:Addr):Prop where
 m1:mg "NoPath" = some (.ref D)
 m2:mg "Beyond" = some (.ref E)
 n1:XNot K C D
 n2:XNot K C E
theorem noM{K:υ}{F:Kd->Bool}(hF:∀k,F k=true->k.isNum=true->False):∀vs H Q E,dC c K 0 F vs H Q E->False:=fun vs H Q E h=>by obtain⟨a,x,kd,sa,S,b,_,h1,h2,h3,_⟩:=h;exact hF kd h1 (h2.zero h3)
end K18
namespace L2
open PySem PySem.Spec PyProof.Rows
theorem xK{K:υ}: (fY CX P w K mg base N qual scope f cd A outer s H E).K=K:=rfl
theorem xN{X:Cx}: X.nox.K=X.K:=rfl
theorem aOj{t2:TS}(h:let r2:=t2;vP t1 r2 D σ H):vP t1 t2 D σ H:=h
theorem aMu{t3:TS}(h:let r3:=t3;let r2:=vP t2 r3;vP t1 r2 D σ H):vP t1 (vP t2 t3) D σ H:=h
theorem aMv{t4:TS}(h:let r4:=t4;let r3:=vP t3 r4;let r2:=vP t2 r3;vP t1 r2 D σ H):vP t1 (vP t2 (vP t3 t4)) D σ H:=h
theorem aOg{t5:TS}(h:let r5:=t5;let r4:=vP t4 r5;let r3:=vP t3 r4;let r2:=vP t2 r3;vP t1 r2 D σ H):vP t1 (vP t2 (vP t3 (vP t4 t5))) D σ H:=h
theorem aNy{t6:TS}(h:let r6:=t6;let r5:=vP t5 r6;let r4:=vP t4 r5;let r3:=vP t3 r4;let r2:=vP t2 r3;vP t1 r2 D σ H):vP t1 (vP t2 (vP t3 (vP t4 (vP t5 t6)))) D σ H:=h
theorem aNa{t7:TS}(h:let r7:=t7;let r6:=vP t6 r7;let r5:=vP t5 r6;let r4:=vP t4 r5;let r3:=vP t3 r4;let r2:=vP t2 r3;vP t1 r2 D σ H):vP t1 (vP t2 (vP t3 (vP t4 (vP t5 (vP t6 t7))))) D σ H:=h
end L2
local macro_rules | `(tactic| refine⟨_,($t),?_⟩) => `(tactic| (refine⟨_,$t,?_⟩; (try dsimp only[L2.xK,L2.xN]);first | (refine L2.aNa ?_;intros) | (refine L2.aNy ?_;intros) | (refine L2.aOg ?_;intros) | (refine L2.aMv ?_;intros) | (refine L2.aMu ?_;intros) | (refine L2.aOj ?_;intros)| skip))
namespace K18
open PySem L2 PyProof.Rows
local macro_rules | `(tactic| clear 1 $p:ident $H:ident $g:ident $k:ident $h:ident) => `(tactic| (generalize zq9 : upd _ $p _ = $H;obtain ⟨$g, $k⟩ := qA zq9 $h))
local macro_rules | `(tactic| clear 0 $p:ident $H:ident $g:ident $k:ident) => `(tactic| (generalize zq9 : upd _ $p _ = $H;obtain ⟨$g, $k⟩ := tJ zq9))
local macro_rules | `(tactic| walk_at"sc") => `(tactic| exact⟨rfl, rfl, rfl, by decide +kernel, rfl, by decide +kernel, by decide +kernel⟩)
local macro_rules | `(tactic| w_cond $s:ident) => `(tactic| (obtain ⟨M, C, Ua, Ub, Uc, Ud, Ue, Uf, tRE, VI, af⟩ := Z; (first | refine F.ok $s (fun vs H Q E h => ?_) (fun cdv A outer s0 H vs Q E hr0 h => ?_) | refine F.okE $s (fun vs H Q E h => ?_) (fun cdv A outer s0 H vs Q E hr0 h => ?_) | refine F.okH $s (fun vs H Q E h => ?_) (fun cdv A outer s0 H vs Q E hr0 h => ?_)); (rotate_left;have hr := hr0.mono (qv _);rotate_right);try (· first | (cases h;subst_vars;rfl) | repeat (first | (obtain ⟨rfl, _⟩ := h;exact rfl) | obtain ⟨_, h⟩ := h))))
abbrev bZ:Stmt:=top 20
theorem rQ:jN ["thing","signs","most"] ["thing","signs","most"] (jG bZ):=by walk_at"sc"
abbrev lV:Stmt:=top 19
theorem aDu:jN ["thing"] ["thing"] (jG lV):=by walk_at"sc"
abbrev eC:Stmt:=top 21
theorem iD:jN ["text","low","high","number"] ["text","low","high"] (jG eC):=by walk_at"sc"
abbrev oK:Stmt:=top 25
theorem aHu:jN ["path","step"] ["path","step"] (jG oK):=by walk_at"sc"
abbrev lT:Stmt:=top 72
theorem aEg:jN ["_law_cell_here"] ["_law_cell_here"] (jG lT):=by walk_at"sc"
abbrev gV:Stmt:=top 73
theorem aM:jN ["_law_box_here","_law_many","_law_digit","_law_number"] ["_law_box_here","_law_many"] (jG gV):=by walk_at"sc"
abbrev fF:Stmt:=top 71
theorem wU:jN ["_law_script","_law_k"] ["_law_script","_law_k"] (jG fF):=by walk_at"sc"
abbrev zE:Stmt:=top 59
theorem iX:jN ["words"] ["words"] (jG zE):=by walk_at"sc"
abbrev gL:Stmt:=inClass (top 27) 3
theorem aAf:jN ["self"] ["self"] (jG gL):=by walk_at"sc"
abbrev bF:Stmt:=inClass (top 28) 3
theorem pB:jN ["self"] ["self"] (jG bF):=by walk_at"sc"
abbrev cN:Stmt:=inClass (top 31) 1
theorem rK:jN ["self"] ["self"] (jG cN):=by walk_at"sc"
abbrev dY:Stmt:=inClass (top 27) 4
theorem wF:jN ["self"] ["self"] (jG dY):=by walk_at"sc"
abbrev aF:Stmt:=inClass (top 28) 4
theorem mV:jN ["self"] ["self"] (jG aF):=by walk_at"sc"
abbrev bE:Stmt:=inClass (top 31) 2
theorem oH:jN ["self"] ["self"] (jG bE):=by walk_at"sc"
abbrev dX:Stmt:=inClass (top 29) 3
theorem wH:jN ["self"] ["self"] (jG dX):=by walk_at"sc"
abbrev cT:Stmt:=inClass (top 29) 4
theorem rP:jN ["self"] ["self"] (jG cT):=by walk_at"sc"
abbrev zJ:Stmt:=inClass (top 30) 4
theorem iY:jN ["self"] ["self"] (jG zJ):=by walk_at"sc"
abbrev cI:Stmt:=inClass (top 30) 5
theorem rV:jN ["self"] ["self"] (jG cI):=by walk_at"sc"
abbrev eE:Stmt:=inClass (top 30) 3
theorem uI:jN ["self"] ["self"] (jG eE):=by walk_at"sc"
abbrev fM:Stmt:=inClass (top 27) 0
theorem aBm:jN ["self","width"] ["self","width"] (jG fM):=by walk_at"sc"
abbrev bD:Stmt:=inClass (top 28) 0
theorem rB:jN ["self","shape"] ["self","shape"] (jG bD):=by walk_at"sc"
abbrev eF:Stmt:=inClass (top 29) 0
theorem wJ:jN ["self","count","kind"] ["self","count","kind"] (jG eF):=by walk_at"sc"
abbrev dJ:Stmt:=inClass (top 30) 0
theorem tP:jN ["self","shapes"] ["self","shapes"] (jG dJ):=by walk_at"sc"
abbrev aS:Stmt:=inClass (top 32) 0
theorem pJ:jN ["self","shapes"] ["self","shapes"] (jG aS):=by walk_at"sc"
abbrev aD:Stmt:=inClass (top 27) 6
theorem nB:jN ["self","path"] ["self","path"] (jG aD):=by walk_at"sc"
abbrev zI:Stmt:=inClass (top 30) 7
theorem mB:jN ["self","path"] ["self","path"] (jG zI):=by walk_at"sc"
abbrev zG:Stmt:=inClass (top 28) 5
theorem lM:jN ["self"] ["self"] (jG zG):=by walk_at"sc"
abbrev bA:Stmt:=inClass (top 29) 5
theorem oR:jN ["self"] ["self"] (jG bA):=by walk_at"sc"
abbrev zO:Stmt:=inClass (top 26) 2
theorem xV:jN ["self","path","rows","step","kind"] ["self","path"] (jG zO):=by walk_at"sc"
abbrev aR:Stmt:=inClass (top 31) 3
theorem pL:jN ["self"] ["self"] (jG aR):=by walk_at"sc"
abbrev cQ:Stmt:=inClass (top 31) 0
theorem rJ:jN ["self","name","fields"] ["self","name","fields"] (jG cQ):=by walk_at"sc"
abbrev dU:Stmt:=top 62
theorem uD:jN ["words"] ["words"] (jG dU):=by walk_at"sc"
abbrev lC:Stmt:=top 61
theorem aDg:jN ["words"] ["words"] (jG lC):=by walk_at"sc"
abbrev zF:Stmt:=top 60
theorem lL:jN ["words"] ["words"] (jG zF):=by walk_at"sc"
abbrev aB:Stmt:=top 65
theorem nF:jN ["words"] ["words"] (jG aB):=by walk_at"sc"
abbrev cE:Stmt:=top 77
theorem rY:jN ["_law_path","_law_step"] ["_law_path","_law_step"] (jG cE):=by walk_at"sc"
abbrev yN:Stmt:=top 63
theorem iC:jN ["told","line","name"] ["told","line","name"] (jG yN):=by walk_at"sc"
abbrev aJ:Stmt:=top 66
theorem nC:jN ["told"] ["told"] (jG aJ):=by walk_at"sc"
abbrev cW:Stmt:=top 64
theorem xZ:jN ["told","line","words","named","at","name"] ["told","line","words"] (jG cW):=by walk_at"sc"
abbrev iZ:Stmt:=top 68
theorem aEc:jN ["words","shapes"] ["words","shapes"] (jG iZ):=by walk_at"sc"
abbrev aY:Stmt:=top 69
theorem pO:jN ["shape"] ["shape"] (jG aY):=by walk_at"sc"
abbrev cD:Stmt:=top 67
theorem aX:jN ["told","line","words","kind","shape"] ["told","line","words"] (jG cD):=by walk_at"sc"
abbrev aW:Stmt:=top 58
theorem vZ:jN ["text","lines","told","line","row","words"] ["text"] (jG aW):=by walk_at"sc"
abbrev fJ:Stmt:=top 75
theorem wV:jN ["_law_kind_here","_law_shapes_here"] ["_law_kind_here","_law_shapes_here"] (jG fJ):=by walk_at"sc"
abbrev eA:Stmt:=top 78
theorem wN:jN ["_law_kind_here","_law_shapes_here"] ["_law_kind_here","_law_shapes_here"] (jG eA):=by walk_at"sc"
abbrev eK:Stmt:=top 76
theorem xH:jN ["_law_kind_here","_law_shapes_here","_law_path","_law_found","_law_number","_law_name","_law_inner"] ["_law_kind_here","_law_shapes_here","_law_path"] (jG eK):=by walk_at"sc"
abbrev fK:Stmt:=top 80
theorem mQ:jN ["_law_shapes_here","_law_main"] ["_law_shapes_here"] (jG fK):=by walk_at"sc"
abbrev fU:Stmt:=top 79
theorem aO:jN ["_law_box_here","_law_known","_law_way","_law_width","_law_at"] ["_law_box_here","_law_known"] (jG fU):=by walk_at"sc"
abbrev zH:Stmt:=top 82
theorem lN:jN ["_law_kind_here","_law_shapes_here"] ["_law_kind_here","_law_shapes_here"] (jG zH):=by walk_at"sc"
abbrev fR:Stmt:=top 83
theorem yE:jN ["_law_shapes_here","_law_lines","_law_name","_law_fields","_law_field","_law_kind_here"] ["_law_shapes_here"] (jG fR):=by walk_at"sc"
abbrev eJ:Stmt:=top 74
theorem yI:jN ["_law_box_here","_law_way","_law_at","_law_words","_law_tail"] ["_law_box_here"] (jG eJ):=by walk_at"sc"
abbrev cR:Stmt:=top 81
theorem qV:jN ["_law_box_here","_law_most","_law_names_here","_law_turn","_law_shapes_here","_law_k","_law_fields","_law_j","_law_field"] ["_law_box_here","_law_most"] (jG cR):=by walk_at"sc"
abbrev yP:Stmt:=inClass (top 2) 0
theorem iB:jN ["self","words"] ["self","words"] (jG yP):=by walk_at"sc"
abbrev fS:Stmt:=top 16
theorem wW:jN ["thing"] ["thing"] (jG fS):=by walk_at"sc"
abbrev bX:Stmt:=top 18
theorem rL:jN ["thing","low","high"] ["thing","low","high"] (jG bX):=by walk_at"sc"
abbrev gK:Stmt:=top 22
theorem aBz:jN ["width"] ["width"] (jG gK):=by walk_at"sc"
abbrev iU:Stmt:=top 23
theorem aEe:jN ["thing","width"] ["thing","width"] (jG iU):=by walk_at"sc"
abbrev aH:Stmt:=top 39
theorem mZ:jN ["pick","thing"] ["pick","thing"] (jG aH):=by walk_at"sc"
abbrev gJ:Stmt:=top 35
theorem aBn:jN ["kind","thing"] ["kind","thing"] (jG gJ):=by walk_at"sc"
abbrev cU:Stmt:=top 36
theorem eZ:jN ["kind","thing","fields"] ["kind","thing"] (jG cU):=by walk_at"sc"
abbrev dH:Stmt:=top 37
theorem uH:jN ["kind","thing"] ["kind","thing"] (jG dH):=by walk_at"sc"
abbrev eN:Stmt:=top 38
theorem wR:jN ["kind","thing"] ["kind","thing"] (jG eN):=by walk_at"sc"
abbrev dI:Stmt:=top 34
theorem uR:jN ["shape","thing"] ["shape","thing"] (jG dI):=by walk_at"sc"
abbrev cO:Stmt:=top 43
theorem vW:jN ["kind","path","value","number","record","shape","rows","step","inner"] ["kind","path","value"] (jG cO):=by walk_at"sc"
abbrev zM:Stmt:=inClass (top 7) 0
theorem lO:jN ["self","found"] ["self","found"] (jG zM):=by walk_at"sc"
abbrev aDv:Stmt:=top 42
theorem aNd:jN ["shape","record"] ["shape","record"] (jG aDv):=by walk_at"sc"
abbrev oX:Stmt:=top 45
theorem aHd:jN ["thing"] ["thing"] (jG oX):=by walk_at"sc"
abbrev aZ:Stmt:=top 47
theorem oS:jN ["path","bound","rows","at"] ["path","bound","rows","at"] (jG aZ):=by walk_at"sc"
abbrev fZ:Stmt:=top 40
theorem aBw:jN ["kind","values"] ["kind","values"] (jG fZ):=by walk_at"sc"
abbrev cV:Stmt:=top 46
theorem qI:jN ["kind","path","rows","at","number","shape","record","behind","values","step","inner","value"] ["kind","path","rows","at"] (jG cV):=by walk_at"sc"
abbrev lS:Stmt:=top 44
theorem gI:jN ["shape","rows","record","behind"] ["shape","rows"] (jG lS):=by walk_at"sc"
abbrev dE:Stmt:=top 84
theorem uZ:jN ["_law_found"] ["_law_found"] (jG dE):=by walk_at"sc"
abbrev gN:Stmt:=top 85
theorem mL:jN ["_law_box_here","_law_width","_law_most"] ["_law_box_here","_law_width"] (jG gN):=by walk_at"sc"
abbrev fP:Stmt:=top 87
theorem vR:jN ["_law_kind_here","_law_shapes_here","_law_path","_law_value","_law_found","_law_k","_law_at","_law_inner","_law_name"] ["_law_kind_here","_law_shapes_here","_law_path","_law_value"] (jG fP):=by walk_at"sc"
abbrev gO:Stmt:=top 88
theorem mD:jN ["_law_left","_law_path","_law_most","_law_row"] ["_law_left","_law_path","_law_most"] (jG gO):=by walk_at"sc"
abbrev gU:Stmt:=top 89
theorem qY:jN ["_law_kind_here","_law_shapes_here","_law_path","_law_left","_law_number","_law_at","_law_inner","_law_found","_law_k","_law_record","_law_name","_law_field"] ["_law_kind_here","_law_shapes_here","_law_path","_law_left"] (jG gU):=by walk_at"sc"
abbrev lA:Stmt:=top 90
theorem fX:jN ["_law_main","_law_shapes_here","_law_rows","_law_left","_law_found"] ["_law_main","_law_shapes_here","_law_rows"] (jG lA):=by walk_at"sc"
abbrev dF:Stmt:=top 86
theorem yK:jN ["_law_box_here","_law_kind_here","_law_shapes_here","_law_number","_law_found","_law_name","_law_inner"] ["_law_box_here","_law_kind_here","_law_shapes_here"] (jG dF):=by walk_at"sc"
abbrev fV:Stmt:=top 91
theorem mM:jN ["_law_found","_law_thing","_law_same"] ["_law_found","_law_thing"] (jG fV):=by walk_at"sc"
abbrev bB:Stmt:=top 93
theorem yH:jN ["_law_shape","_law_thing","_law_refused","e"] ["_law_shape","_law_thing"] (jG bB):=by walk_at"sc"
abbrev dN:Stmt:=top 92
theorem xT:jN ["_law_shape","_law_main","_law_shapes_here","_law_rows","_law_due_here","_law_kept","_law_told","e"] ["_law_shape","_law_main","_law_shapes_here","_law_rows"] (jG dN):=by walk_at"sc"
abbrev bG:Stmt:=top 94
theorem vM:jN ["_law_box_here","_law_rows","_law_at","_law_other","_law_way","_law_path","_law_number","_law_found"] ["_law_box_here","_law_rows"] (jG bG):=by walk_at"sc"
abbrev dM:Stmt:=top 95
theorem xF:jN ["_law_box_here","_law_shape","_law_main","_law_shapes_here","_law_record","_law_kept","_law_due_here","_law_found","_law_turn","_law_told"] ["_law_box_here","_law_shape","_law_main","_law_shapes_here"] (jG dM):=by walk_at"sc"
abbrev aU:Stmt:=inClass (top 32) 2
theorem oN:jN ["self"] ["self"] (jG aU):=by walk_at"sc"
abbrev aIy:Stmt:=top 96
theorem fQ:jN ["_law_script","_law_k","_law_box_here","_law_shapes_here","_law_read_here","_law_main","_law_thing"] ["_law_script"] (jG aIy):=by walk_at"sc"
structure ZZ (P:jy) (w:mf) (base:kq) (K:υ) (mg:Str->Option Value) (t1 t2 t3 t4 t5 t6 t7 t8 t9 t10 t11 t12 t13:Tok) (ts:Addr) (Va cIu:Addr) (Vb cIv:Addr) (Vc cIx:Addr) (Vd cIy:Addr) (Ve cIz:Addr) (Vf cIw:Addr) (cRE fRE:Addr) (aa ah:Addr):Prop where
 M:Blt mg
 C:Cst K mg t1 t2 t3 t4 t5 t6 t7 t8 t9 t10 t11 t12 t13 ts
 Ua:sF K mg "Num" Va cIu ["width"]
 Ub:sF K mg "Nested" Vb cIv ["shape"]
 Uc:sF K mg "Many" Vc cIx ["count","kind"]
 Ud:sF K mg "Pick" Vd cIy ["shapes"]
 Ue:sF K mg "Shape" Ve cIz ["name","fields"]
 Uf:sF K mg "Shapes" Vf cIw ["shapes"]
 tRE:TXB K mg cRE fRE
 VI:aIx K
 af:TX K mg "NoRecord" aa cRE ah ["found"]
section
variable {P:jy}{w:mf}{K:υ}{mg:Str->Option Value}{base:kq}{t1 t2 t3 t4 t5 t6 t7 t8 t9 t10 t11 t12 t13:Tok}{ts:Addr}{Va cIu:Addr}{Vb cIv:Addr}{Vc cIx:Addr}{Vd cIy:Addr}{Ve cIz:Addr}{Vf cIw:Addr}{cRE fRE:Addr}{aa ah:Addr}(Z:ZZ P w base K mg t1 t2 t3 t4 t5 t6 t7 t8 t9 t10 t11 t12 t13 ts Va cIu Vb cIv Vc cIx Vd cIy Ve cIz Vf cIw cRE fRE aa ah)
include Z
local macro_rules|`(j4 $a $b)=>`(kJ P w K mg base CX0 (k+2) f fd $a $b)
local macro_rules|`(j6 $a $b)=>`(kJ P w K mg base (CXE P w) (k+2) f fd $a $b)
local macro_rules|`(j7 $a $b)=>`(Cal P w K mg base CX0 k $a $b)
local macro_rules|`(j8 $a $b)=>`(yF P w K mg base CX0 k $a $b)
local macro_rules|`(j9 $a $b $c)=>`(zR P w K mg base CX0 k $a $b $c)
local macro_rules|`(q0 0)=>`(Cl5.mk Va Vb Vc Vd Ve)
theorem rH{k:Nat}(F:Fun K "is_text_of" "is_text_of" bZ f fd):j4 ["thing","signs","most"] (pR K):=by
 w_cond rQ;obtain⟨x,signs,most,rfl,h⟩:=h;refine⟨_,(jD (kK (PW.pt (xL (qT (kZ (jK (xA.or oQ sV) rfl M.isinstance jd (jA (pv 0) (jA (vI (v:=.ty "str") rfl M.str boot_str rfl) jB))))) (xX (qT (iO cZ cZ jC (jK aCg rfl M.len ja (jA (pv 0) jB)) (pv 2)))))) (jE (jJ yJ)) jP) (jE (jJ (jK (bO rfl) rfl M.all boot_all (jA (qC ["sign"] ["signs"] [1] rfl (aQb (pv 0)) rfl ⟨rfl,trivial⟩ ⟨⟨rfl,rfl,rfl,_,rfl⟩,trivial⟩ (fun _ _ _ _=>(qN rfl)) (fun _ _ _ _=>qB) (fun _ _ _ _=>(qK aGy (pv 0) (pv 1) (by with_unfolding_all rfl)))) jB))))),?_⟩;rcases h with⟨z,rfl,hz,q⟩|⟨t,ht,hns,q⟩
 ·have hl:=len_list z;refine⟨_,rfl,.inl ⟨_,_,"str",rfl,by decide,rfl,_,rfl,jU ?_⟩⟩;refine⟨_,rfl,.str z,z.length,rfl,⟨small hz,rfl⟩,_,_,rfl,rfl,_,rfl,yB (fun c1=>?_) (fun c1=>?_)⟩
  ·refine⟨_,rfl,_,_,rfl,rfl,_,rfl,yB (fun c2=>?_) (fun c2=>?_)⟩
   ·have e:within z most=false:=by
     unfold within;have:decide ((z.length:Int)<=most)=false:=by simpa using c2
     rw[this,Bool.and_false]
    have:=q H (jI.refl H);rw[e,qt]at this;exact this
   ·have e:within z most=true:=by
     unfold within;have c2':decide ((z.length:Int)<=most)=true:=by simpa using c2
     rw[c2',c1];rfl
    refine⟨_,rfl,z,rfl,aIh (fun i ys H'=>H'=H/\ys=((z.cps.toList.take i).map fun c=>decide (c∈signs.cps.toList)).map V.bl) ⟨rfl,rfl⟩ (fun i ys H' _ w=>by rw[w.2,δ,δ];exact List.length_take_le ..) (kQ hz) (fun i c ys H' hc w=>?_) (fun ys H' w p hp=>?_)⟩
    ·obtain⟨rfl,rfl⟩:=w;refine⟨_,rfl,_,rfl,⟨#[c]⟩,signs,rfl,rfl,⟨rfl,?_⟩,_,rfl⟩;rw[aKf (fun c=>decide (c∈signs.cps.toList)) _ i hc,χ,aQm];rfl
    ·obtain⟨rfl,rfl⟩:=w;refine⟨p,(z.cps.toList.map fun c=>decide (c∈signs.cps.toList)),rfl,SqL.of ?_,?_⟩
     ·rw[jQ,←hl,zd]
     ·have:=q _ (vY hp (.lst (((z.cps.toList.take z.length).map fun c=>decide (c∈signs.cps.toList)).map V.bl)));rw[e,ue]at this;rw[all_map];exact this
  ·refine⟨_,rfl,?_⟩;have e:within z most=false:=by
    unfold within;have:decide (1<=(z.length:Int))=false:=by simpa using c1
    rw[this,qt]
   have:=q H (jI.refl H);rw[e,qt]at this;exact kR this
 ·rcases ht with ht|⟨rfl,p,kvs,rfl,hp⟩
  ·exact⟨_,rfl,.inl ⟨x,_,t,rfl,by decide,ht,_,rfl,qU (by rw[isa3 hns];rfl) (bW q)⟩⟩
  ·exact⟨_,rfl,.inr ⟨p,_,kvs,rfl,by decide,hp,_,rfl,kR (bW q)⟩⟩
theorem aDy(F:Fun K "is_name" "is_name" lV f fd)(bx:j7 "is_text_of" (pR K)):j4 ["thing"] (bK K):=by
 w_cond aDu;obtain⟨x,rfl,h⟩:=h;refine⟨_,(jE (jJ (vN (jF bx hr (jA (pv 0) (jA (qL (v:=.str "abcdefghijklmnopqrstuvwxyz") rfl C.SMALL_LETTERS ⟨_,rfl⟩) (jA (qL (v:=.int 6) rfl C.MOST_LETTERS ⟨_,rfl⟩) jB)))) (xI (qK uC (pv 0) (qL (v:=.ref ts) rfl C.OWN_WORDS rfl) (by with_unfolding_all rfl)))))),?_⟩;rcases h with⟨z,rfl,hz,q⟩|⟨t,ht,hns,q⟩
 ·refine⟨_,rfl,.str z,zY,6,rfl,.inl ⟨z,rfl,hz,fun H1 g1=>⟨_,rfl,yB (fun c=>?_) (fun c=>?_)⟩⟩⟩
  ·refine⟨_,rfl,ts,_,rfl,.inr (C.words _),rfl,eO _,?_⟩;show Q (.bl (!inV (.str z) (aId.map V.str))) H1;rw[gY];have:=q H1 g1;unfold kY at this;rw[c,ue]at this;exact this
  ·have:=q H1 g1;unfold kY at this;rw[qz.mpr c,qt]at this;exact this
 ·exact⟨_,rfl,x,zY,6,rfl,.inr ⟨t,ht,hns,⟨_,rfl,iteF (q H (jI.refl H))⟩⟩⟩
theorem uS{k:Nat}(F:Fun K "number_in" "number_in" eC f fd)(bx:j7 "is_text_of" (pR K)):j4 ["text","low","high"] (gQ K):=by
 w_cond iD;obtain⟨x,lo,hi,rfl,h⟩:=h;refine⟨_,(jD (kK (qT (kZ (jF bx hr (jA (pv 0) (jA (qL (v:=.str "0123456789") rfl C.FIGURES ⟨_,rfl⟩) (jA (qL (v:=.int 10) rfl C.MOST_FIGURES ⟨_,rfl⟩) jB)))))) (jE (jJ vE)) jP) (jD (kK (PW.pt (aIp (jS kW (jH aDi (pv 0) jC) jO) (aFf (jS fC (jK aCg rfl M.len ja (jA (pv 0) jB)) jC)))) (jE (jJ vE)) jP) (jD (jT 3 iD.nd (qQ bV rfl M.int boot_int (jA (pv 0) jB))) (jE (jJ (aAi (iO cZ cZ (pv 1) (pv 3) (pv 2)) (pv 3) vE)))))),?_⟩;rcases h with⟨z,rfl,hz,q⟩|⟨t,ht,hns,q⟩
 ·have hl:=len_list z;refine⟨_,rfl,.str z,bL,10,rfl,.inl ⟨z,rfl,hz,fun H1 g1=>⟨_,rfl,yB (fun c=>?_) (fun c=>?_)⟩⟩⟩
  ·have e:wI z=none:=by
    unfold wI;rw[if_neg];intro w;rw[jv]at w;rw[w.1]at c;exact absurd c (by decide)
   have:=q H1 g1;rw[e]at this;exact this
  ·have c':(within z 10&&aBi z bL)=true:=by simpa using c
   have hw : 1<=(z.length:Int):=by
    rw[jv]at c';unfold within at c';have:=c'.1;rw[jv]at this;exact of_decide_eq_true this.1
   have hw2:(z.length:Int)<=10:=by
    rw[jv]at c';unfold within at c';have:=c'.1;rw[jv]at this;exact of_decide_eq_true this.2
   have hd:PySem.NumText.AllDigits z.cps.toList:=fun d hd=>by
    rw[jv]at c';have:=ji.mp c'.2 d hd;exact(aBe d).mp (of_decide_eq_true this)
   obtain⟨c0,hc0⟩ : ∃c0,z.cps.toList[0]?=some c0:=⟨_,θ (by omega)⟩;have at0:atI z.cps.toList 0=some c0:=by
    have:=xB (j:=0) hc0;simpa using this
   have lead:aCj z=(decide (c0=48)&&decide (1<(z.length:Int))):=by
    unfold aCj;rw[hc0]
    congr 1
    rw[rg];simp
   have no:aCj z=true->Q .non H1:=fun w=>by
    have e:wI z=none:=by
     unfold wI;rw[if_neg];intro v;rw[jv,w]at v;exact absurd v.2 (by decide)
    have:=q H1 g1;rw[e]at this;exact this
   have yes:aCj z=false->wI z=some ((PySem.NumText.digitsVal z.cps.toList:Nat):Int):=fun w=>by
    unfold wI;rw[if_pos];rw[c',w];rfl
   have hnum:=PySem.intText_digits (x:=z) hd (by intro w;rw[w]at hc0;cases hc0) (by omega);refine⟨_,rfl,z,_,c0,rfl,rfl,small hz,at0,rfl,_,rfl,?_⟩;rw[is_0];refine yB (fun c1=>?_) (fun c1=>?_)
   ·refine⟨_,rfl,.str z,z.length,rfl,⟨small hz,rfl⟩,_,_,rfl,rfl,_,rfl,yB (fun c2=>?_) (fun c2=>?_)⟩
    ·exact no (by rw[lead,c1];simpa using c2)
    ·have ey:=yes (by rw[lead,qz.mpr c2,Bool.and_false]);refine⟨_,rfl,z,_,rfl,hnum,by omega,?_⟩;refine⟨_,rfl,_,rfl,_,_,rfl,rfl,_,rfl,yB (fun d1=>⟨_,rfl,_,_,rfl,rfl,_,rfl,yB (fun d2=>⟨_,rfl,?_⟩) (fun d2=>?_)⟩) (fun d1=>⟨_,rfl,iteF ?_⟩)⟩
     ·have:=q H1 g1;rw[ey,cS,if_pos ⟨of_decide_eq_true d1,of_decide_eq_true d2⟩]at this;exact this
     ·have:=q H1 g1;rw[ey,cS,if_neg (fun w=>d2 (decide_eq_true w.2))]at this;exact this
     ·have:=q H1 g1;rw[ey,cS,if_neg (fun w=>d1 (decide_eq_true w.1))]at this;exact this
   ·have ey:=yes (by rw[lead,qz.mpr c1,qt]);refine iteF ⟨_,rfl,z,_,rfl,hnum,by omega,?_⟩;refine⟨_,rfl,_,rfl,_,_,rfl,rfl,_,rfl,yB (fun d1=>⟨_,rfl,_,_,rfl,rfl,_,rfl,yB (fun d2=>⟨_,rfl,?_⟩) (fun d2=>?_)⟩) (fun d1=>⟨_,rfl,iteF ?_⟩)⟩
    ·have:=q H1 g1;rw[ey,cS,if_pos ⟨of_decide_eq_true d1,of_decide_eq_true d2⟩]at this;exact this
    ·have:=q H1 g1;rw[ey,cS,if_neg (fun w=>d2 (decide_eq_true w.2))]at this;exact this
    ·have:=q H1 g1;rw[ey,cS,if_neg (fun w=>d1 (decide_eq_true w.1))]at this;exact this
 ·exact⟨_,rfl,x,bL,10,rfl,.inr ⟨t,ht,hns,⟨_,rfl,kR (q H (jI.refl H))⟩⟩⟩
theorem aHm{k:Nat}(F:Fun K "joined" "joined" oK f fd):j4 ["path","step"] dW:=by
 w_cond aHu;obtain⟨p,x,y,rfl,hy,hp,hl,q⟩:=h;refine⟨_,(jE (jJ (aAi (dD (pv 0) (fun _=>rfl)) (aNi (aLc (pv 0) (aSf (aLc (pv 1) aRy)))) (aKn (pv 1))))),?_⟩;refine⟨_,rfl,_,⟨small hp,rfl⟩,yB (fun c=>?_) (fun c=>?_)⟩
 ·have hne:¬ p.length=0:=fun z=>by rw[z]at c;exact absurd c (by decide)
  have l1:(Str.empty++p).length<=ρ:=by rw[eV];exact small hp
  have l2:(Str.empty++p++ε ".").length<=ρ:=by rw[eV,kc];exact aKx (by have:(ε ".").length=1:=rfl;omega)
  have l3:(Str.empty++p++ε "." ++ y).length<=ρ:=by rw[eV,kc,kc];exact aKx (by have:(ε ".").length=1:=rfl;omega)
  refine⟨_,rfl,p,rfl,small hp,l1,l2,_,rfl,y,hy,small hl,l3,l3,?_⟩;rw[eV];unfold pj at q;rw[if_neg hne]at q;exact q
 ·have hne:p.length=0:=by
   by_cases z:p.length=0
   ·exact z
   ·exact absurd (show((p.length:Int) != 0)=true from bne_iff_ne.mpr (by omega)) c
  unfold pj at q;rw[if_pos hne]at q;exact⟨_,rfl,y,hy,small hl,q⟩
theorem aEl{k:Nat}(F:Fun K "_law_box" "_law_box" lT f fd):j4 ["_law_cell_here"] aPi:=by
 w_cond aEg;obtain⟨c,rfl,q⟩:=h;refine⟨_,(jE (jJ (kU (jA (jK (tI rfl) rfl M.max boot_max (jA jC (jA (jY zZ (pv 0) (jY aQc jC jC)) jB))) (jA (jY zK (pv 0) jC) (jA jC jB)))))),?_⟩;exact⟨_,rfl,_,_,rfl,rfl,⟨by decide,by decide,by decide⟩,_,_,rfl,rfl,_,_,rfl,_,rfl,_,_,rfl,rfl,(by show(0:Int)<_;decide),sJ,fun p hp=>q p _ hp ⟨⟨_,_,_,jQ⟩,fun b o n e=>by rw[jZ n];exact e⟩⟩
theorem aBl{k:Nat}(F:Fun K "_law_take" "_law_take" gV f fd):j4 ["_law_box_here","_law_many"] fL:=by
 w_cond aM;obtain⟨p,m,rfl,hm,hm2,⟨a,b,c,h⟩,q⟩:=h;refine⟨_,(jD (kK (jS fC (jH jW (pv 0) jC) jC) (jD (jT 2 aM.nd (jY zK (jH jW (pv 0) jC) (pv 1))) (jD (bY (jY aJb (jH jW (pv 0) jC) (pv 1)) (dQ (pv 0) jC set_list)) (jE (jJ (pv 2))))) jP) (jD (bY (jY qJ (jH jW (pv 0) jC) jC) (dQ (pv 0) jC set_list)) (jD (jT 3 aM.nd (jY zK (jY zL (jY qJ (jY qJ (jH jW (pv 0) jC) (jY zL jC (jH jW (pv 0) jC))) jC) jC) jC)) (jD (jT 3 aM.nd (jY zK (jY qJ (jY qJ (jY zL (pv 3) (pv 3)) (jY zL jC (jH jW (pv 0) jC))) jC) jC)) (jE (jJ (jY zK (jY aMr (jY zK (jY zL (pv 3) (jY qJ (pv 3) jC)) jC) jC) (pv 1)))))))),?_⟩;have nat:∀x:Int,∃v:Nat,x % m=(v:Int)/\(v:Int)<m:=fun x=>by
  have h0:=Int.emod_nonneg x (show m≠0 by omega);have h1:=Int.emod_lt_of_pos x hm;exact⟨(x % m).toNat,by omega,by omega⟩
 refine⟨_,rfl,p,_,_,_,rfl,rfl,SqL.of h,rfl,_,_,rfl,rfl,_,rfl,yB (fun cc=>?_) (fun cc=>?_)⟩
 ·refine⟨_,rfl,p,_,_,_,rfl,rfl,SqL.of h,rfl,_,rfl,_,_,rfl,rfl,hm,?_⟩;refine⟨_,rfl,p,_,_,_,rfl,rfl,SqL.of h,rfl,_,rfl,_,_,rfl,rfl,⟨hm,Int.lt_trans hm2 (by decide)⟩,_,rfl,p,_,_,0,rfl,rfl,h,rfl,?_⟩;obtain⟨v,hv,hl⟩:=nat a;refine⟨_,rfl,?_⟩;show Q (.int (a % m)) _;rw[hv];exact q v _ hl ⟨⟨_,_,_,jQ⟩,fun b' o n e=>by rw[jZ n];exact e⟩
 ·refine⟨_,rfl,p,_,_,_,rfl,rfl,SqL.of h,rfl,_,_,rfl,rfl,_,rfl,p,_,_,2,rfl,rfl,h,rfl,?_⟩;have h1:upd H p (.lst [.int a,.int b,.int (c+1)]) p=some (.lst [.int a,.int b,.int (c+1)]):=jQ;refine⟨_,rfl,p,_,_,_,rfl,rfl,SqL.of h1,rfl,_,rfl,p,_,_,_,rfl,rfl,SqL.of h1,rfl,_,_,rfl,rfl,.inl ⟨by omega,by omega⟩,_,_,rfl,rfl,_,_,rfl,rfl,_,_,rfl,rfl,.inr ⟨by omega,by omega⟩,_,_,rfl,rfl,(by show(0:Int)<_;decide),?_⟩;refine⟨_,rfl,_,rfl,_,_,rfl,rfl,.inl ⟨by omega,by omega⟩,_,rfl,p,_,_,_,rfl,rfl,SqL.of h1,rfl,_,_,rfl,rfl,.inl ⟨by omega,by omega⟩,_,_,rfl,rfl,_,_,rfl,rfl,_,_,rfl,rfl,(by show(0:Int)<_;decide),?_⟩;refine⟨_,rfl,_,rfl,_,_,rfl,rfl,_,_,rfl,rfl,.inl ⟨by omega,by omega⟩,_,_,rfl,rfl,(by show(0:Int)<_;decide),_,_,rfl,rfl,⟨by decide,by decide⟩,_,rfl,_,_,rfl,rfl,hm,?_⟩
  (try dsimp only)
  generalize hz:(_ % m:Int)=z;obtain⟨v,hv,hl⟩:=nat (((((((b+7919*(c+1)+17)*48271 % 2147483629)*((b+7919*(c+1)+17)*48271 % 2147483629)+16807*(c+1)+3) % 2147483587)*(((((b+7919*(c+1)+17)*48271 % 2147483629)*((b+7919*(c+1)+17)*48271 % 2147483629)+16807*(c+1)+3) % 2147483587)+11)) % 2147483647) / 8);rw[←hz,hv];exact q v _ hl ⟨⟨_,_,_,jQ⟩,fun b' o n e=>by rw[jZ n];exact e⟩
theorem aBh{k:Nat}(F:Fun K "_law_cell" "_law_cell" fF f fd):j4 ["_law_script","_law_k"] (aLr K):=by
 w_cond wU;obtain⟨a,ns,k,rfl,hS,hk0,hk1,q⟩:=h;refine⟨_,(jD (kK (jS aGe (pv 1) (jK kF rfl M.len ja (jA (pv 0) jB))) (jE (jJ (jH jW (pv 0) (pv 1)))) jP) (jE (jJ (jY qJ (jY zL jC (pv 1)) jC)))),?_⟩;have hl:(ns.map V.int).length=ns.length:=δ _;refine⟨_,rfl,_,rfl,a,_,rfl,.inl hS,_,_,rfl,rfl,_,rfl,?_⟩;refine yB (fun c=>?_) (fun c=>?_)
 ·have c':k<(((ns.map V.int).length:Nat):Int):=of_decide_eq_true c;rw[hl]at c';obtain⟨v,hv⟩:=aJa ns hk0 c';exact⟨_,rfl,_,rfl,a,_,_,_,rfl,rfl,hS,hv,q _⟩
 ·exact⟨_,rfl,_,_,rfl,rfl,.inl ⟨by omega,by omega⟩,_,_,rfl,rfl,q _⟩
theorem lK{k:Nat}(F:Fun K "is_shape_line" "is_shape_line" zE f fd)(aq:j7 "is_name" (bK K)):j4 ["words"] (aOy K):=by
 w_cond iX;obtain⟨a,ws,rfl,hw,q⟩:=h;refine⟨_,(jE (jJ (vN (qK kW (jK kF rfl M.len ja (jA (pv 0) jB)) jC (vG _)) (vN (qK kW (jH jW (pv 0) jC) jO (vG _)) (xI (jF aq hr (jA (jH jW (pv 0) jC) jB))))))),?_⟩;refine⟨_,rfl,a,_,rfl,.inl hw.l,rfl,_,rfl,?_⟩
 match ws,hw,q with
 |[],hw,q=>exact jU (q _ (jI.refl _))
 |[x],hw,q=>exact qZ (by simp) (q _ (jI.refl _))
 |x::y::z::r,hw,q=>exact qZ (by simp;omega) (q _ (jI.refl _))
 |[x,y],hw,q =>
  refine qU (by simp) ⟨_,rfl,a,_,_,_,rfl,rfl,hw.l,rfl,rfl,_,rfl,yB (fun c=>?_) (fun c=>?_)⟩
  ·refine⟨_,rfl,a,_,_,_,rfl,rfl,hw.l,rfl,.str y,rfl,.inl ⟨y,rfl,hw.s y (by simp),fun H1 g1=>?_⟩⟩;have e:aAp [x,y]=kY y:=by
    show(decide (x=ε "shape")&&kY y)=_;rw[decide_eq_true (show x=ε "shape" from by simpa using c),ue]
   have:=q H1 g1;rw[e]at this;exact this
  ·have e:aAp [x,y]=false:=by
    show(decide (x=ε "shape")&&kY y)=_;rw[decide_eq_false (show ¬ x=ε "shape" from by simpa using c),qt]
   have:=q _ (jI.refl _);rw[e]at this;exact this
theorem mK{k:Nat}(F:Fun K "size" "Num.size" gL f fd):j4 ["self"] (spV (q0 0) K r Kd.isNum vSz):=by
 w_cond aAf;obtain⟨a,kd,sa,S,rfl,hF,hk,hf,ho,hw,hg,q⟩:=h;refine⟨_,(jE (jJ (qD (pv 0) rfl))),?_⟩;cases id ho with
 |num h1 =>
  exact⟨_,rfl,a,Va,_,_,_,rfl,h1,Ua.cl,Ua.nd,rfl,q _ (jI.refl _)⟩
 |_=>cases hF
theorem rF(F:Fun K "size" "Nested.size" bF f fd)(aw:j9 Ve "size" (mH (q0 0) K r sSz)):j4 ["self"] (spV (q0 0) K (r+1) Kd.isNest vSz):=by
 w_cond pB;obtain⟨a,kd,sa,S,rfl,hF,hk,hf,ho,hw,hg,q⟩:=h;refine⟨_,(jE (jJ (yA (qD (pv 0) rfl) Ue.cl aw hr qR))),?_⟩;cases id ho with
 | @nest a dx s i e h1 =>
  obtain⟨sh,hs,dx2,t,ps,h2,_⟩:=hw.at e;exact⟨_,rfl,a,Vb,_,_,_,rfl,h1,Ub.cl,Ub.nd,rfl,s,dx2,_,rfl,h2,rfl,s,i,sa,S,rfl,e,(by have : 2*i+2<=r+1:=hk;omega),hw,hg,q⟩
 |_=>cases hF
theorem fA{k r:Nat}(F:Fun K "size" "Shape.size" cN f fd)(du:∀C sp,TV (q0 0) K r vSz C sp->zS P w K mg base CX0 k "size" C sp):j4 ["self"] (mH (q0 0) K r sSz):=by
 w_cond rK;obtain⟨a,i,sa,S,rfl,e,hi,hw,hg,q⟩:=h;refine⟨_,(jE (jJ (jK (aCe rfl) rfl M.sum (show lm "sum" = some (.builtin "sum") from by ac_rfl) (jA (qC ["name","kind"] [] [] rfl (fH (qD (pv 0) rfl)) rfl trivial trivial (fun _ _ _ _=>(yY (K:=K) (n:=2) rfl rfl (jX (qN rfl) (jX (cP rfl) qH)))) (fun _ _ _ _=>qB) (fun _ _ _ _=>(yC (pv 1) du hr qR))) jB)))),?_⟩;obtain⟨s,hS,so⟩:=hw.at e;obtain⟨dx,t,ps,k1,k2,k3⟩:=so.fields;have zl:(ps.map V.ref).length=s.2.length:=by rw[δ];exact k3.len
 have hfit:=hg.fit i s hS;have htab:=gR hS fun f hf=>(hfit f hf).1.below;have hil:i<S.length:=(η.mp hS).1;refine⟨_,rfl,a,Ve,_,_,_,rfl,k1,Ue.cl,Ue.nd,rfl,t,rfl,⟨_,k2⟩,zU (xs:=ps.map V.ref) (fun j ys H'=>jI H H'/\ys=((s.2.take j).map fun f=>V.int (vSz f.2 (tabs S)))) ⟨jI.refl _,rfl⟩ (fun j ys H' _ z=>⟨z.1.tp k2,by rw[z.2,δ,Δ];exact jz _ _⟩) (kQ (by have:=hg.few i s hS;omega)) (fun j x ys H' os ho hx z=>?_) (fun ys H' z p hp=>?_)⟩
 ·obtain⟨g,rfl⟩:=z;obtain⟨o1,o2,rfl⟩:=wK ho;obtain⟨u,hu,rfl⟩:=qE hx;obtain⟨x,y,kd,k,hf,ht,_,hko⟩:=k3.get hu;have hm:=hfit _ (μ hf);exact⟨u,_,rfl,g.tp ht,rfl,_,_,rfl,_,_,rfl,rfl,_,rfl,aFt (sN (by simp)) (hm.1.rk.mono hi) (hm.1.mono (pk hil)) (hko.same g) (hw.same g) hg fun H2 g2=>⟨⟨g.trans g2,(vB hf).symm⟩,[_,_],rfl,rfl⟩⟩
 ·obtain⟨g,rfl⟩:=z;have g2:=vY hp (.lst ((s.2.take (ps.map V.ref).length).map fun f=>V.int (vSz f.2 (tabs S))));have kp:upd H' p (.lst ((s.2.take (ps.map V.ref).length).map fun f=>V.int (vSz f.2 (tabs S)))) p=some (.lst (((s.2.map fun f=>vSz f.2 (tabs S)).map fun n:Nat=>(n:Int)).map V.int)):=by
   rw[jQ,zl,kO,jw,jw];rfl
  have q':=q _ (g.trans g2);refine⟨p,(s.2.map fun f=>vSz f.2 (tabs S)).map fun n:Nat=>(n:Int),rfl,SqL.of kp,?_⟩;rw[sumI];rw[show sSz i (tabs S)=(s.2.map fun f=>vSz f.2 (tabs S)).sum from htab.1]at q';exact q'
theorem iF{k:Nat}(F:Fun K "depth" "Num.depth" dY f fd):j4 ["self"] (spV (q0 0) K r Kd.isNum vDp):=by
 w_cond wF;obtain⟨a,kd,sa,S,rfl,hF,hk,hf,ho,hw,hg,q⟩:=h;refine⟨_,(jE (jJ jC)),?_⟩;cases id ho with
 |num h1 =>
  exact q _ (jI.refl _)
 |_=>cases hF
theorem nE(F:Fun K "depth" "Nested.depth" aF f fd)(au:j9 Ve "depth" (mH (q0 0) K r sDp)):j4 ["self"] (spV (q0 0) K (r+1) Kd.isNest vDp):=by
 w_cond mV;obtain⟨a,kd,sa,S,rfl,hF,hk,hf,ho,hw,hg,q⟩:=h;refine⟨_,(jE (jJ (yA (qD (pv 0) rfl) Ue.cl au hr qR))),?_⟩;cases id ho with
 | @nest a dx s i e h1 =>
  obtain⟨sh,hs,dx2,t,ps,h2,_⟩:=hw.at e;exact⟨_,rfl,a,Vb,_,_,_,rfl,h1,Ub.cl,Ub.nd,rfl,s,dx2,_,rfl,h2,rfl,s,i,sa,S,rfl,e,(by have : 2*i+2<=r+1:=hk;omega),hw,hg,q⟩
 |_=>cases hF
theorem eI{k r:Nat}(F:Fun K "depth" "Shape.depth" bE f fd)(dc:∀C sp,TV (q0 0) K r vDp C sp->zS P w K mg base CX0 k "depth" C sp):j4 ["self"] (mH (q0 0) K r sDp):=by
 w_cond oH;obtain⟨a,i,sa,S,rfl,e,hi,hw,hg,q⟩:=h;refine⟨_,(jE (jJ (jY qJ jC (jK (zV rfl) rfl M.max boot_max (jA (qC ["name","kind"] [] [] rfl (fH (qD (pv 0) rfl)) rfl trivial trivial (fun _ _ _ _=>(yY (K:=K) (n:=2) rfl rfl (jX (qN rfl) (jX (cP rfl) qH)))) (fun _ _ _ _=>qB) (fun _ _ _ _=>(yC (pv 1) dc hr qR))) jB))))),?_⟩;obtain⟨s,hS,so⟩:=hw.at e;obtain⟨dx,t,ps,k1,k2,k3⟩:=so.fields;have zl:(ps.map V.ref).length=s.2.length:=by rw[δ];exact k3.len
 have hfit:=hg.fit i s hS;have htab:=gR hS fun f hf=>(hfit f hf).1.below;have hil:i<S.length:=(η.mp hS).1;refine⟨_,rfl,a,Ve,_,_,_,rfl,k1,Ue.cl,Ue.nd,rfl,t,rfl,⟨_,k2⟩,zU (xs:=ps.map V.ref) (fun j ys H'=>jI H H'/\ys=((s.2.take j).map fun f=>V.int (vDp f.2 (tabs S)))) ⟨jI.refl _,rfl⟩ (fun j ys H' _ z=>⟨z.1.tp k2,by rw[z.2,δ,Δ];exact jz _ _⟩) (kQ (by have:=hg.few i s hS;omega)) (fun j x ys H' os ho hx z=>?_) (fun ys H' z p hp=>?_)⟩
 ·obtain⟨g,rfl⟩:=z;obtain⟨o1,o2,rfl⟩:=wK ho;obtain⟨u,hu,rfl⟩:=qE hx;obtain⟨x,y,kd,k,hf,ht,_,hko⟩:=k3.get hu;have hm:=hfit _ (μ hf);exact⟨u,_,rfl,g.tp ht,rfl,_,_,rfl,_,_,rfl,rfl,_,rfl,aFt (sN (by simp)) (hm.1.rk.mono hi) (hm.1.mono (pk hil)) (hko.same g) (hw.same g) hg fun H2 g2=>⟨⟨g.trans g2,(vB hf).symm⟩,[_,_],rfl,rfl⟩⟩
 ·obtain⟨g,rfl⟩:=z;have g2:=vY hp (.lst ((s.2.take (ps.map V.ref).length).map fun f=>V.int (vDp f.2 (tabs S))));have kp:upd H' p (.lst ((s.2.take (ps.map V.ref).length).map fun f=>V.int (vDp f.2 (tabs S)))) p=some (.lst (((s.2.map fun f=>vDp f.2 (tabs S)).map fun n:Nat=>(n:Int)).map V.int)):=by
   rw[jQ,zl,kO,jw,jw];rfl
  have q':=q _ (g.trans g2);refine⟨p,(s.2.map fun f=>vDp f.2 (tabs S)).map fun n:Nat=>(n:Int),rfl,SqL.of kp,(by simpa using hg.ne i s hS),fun m h1 h2=>?_⟩;rw[aHn h1 h2];refine⟨_,_,rfl,rfl,?_⟩;rw[show sDp i (tabs S)=1+xE (s.2.map fun f=>vDp f.2 (tabs S)) from htab.2.1,vb]at q';exact q'
theorem uX(F:Fun K "size" "Many.size" dX f fd)(du:∀C sp,TV (q0 0) K r vSz C sp->zS P w K mg base CX0 k "size" C sp):j4 ["self"] (spV (q0 0) K (r+1) Kd.isMany vSz):=by
 w_cond wH;obtain⟨a,kd,sa,S,rfl,hF,hk,hf,ho,hw,hg,q⟩:=h;refine⟨_,(jE (jJ (jY zL (qD (pv 0) rfl) (yC (qD (pv 0) rfl) du hr qR)))),?_⟩;cases id ho with
 | @many a dx b n k h1 h2 =>
  refine⟨_,rfl,a,Vc,_,_,_,rfl,h1,Uc.cl,Uc.nd,rfl,_,rfl,a,Vc,_,_,_,rfl,h1,Uc.cl,Uc.nd,rfl,aFt (sN (by simp)) hk.sub hf.sub h2 hw hg fun H' g=>⟨_,_,rfl,rfl,.inl ⟨by have:=hf.2.1;omega,by have:=hf.2.1;omega⟩,?_⟩⟩;have q':=q H' g;rw[show vSz (Kd.many n k) (tabs S)=n*vSz k (tabs S) from rfl,Int.natCast_mul]at q';exact q'
 |_=>cases hF
theorem sA(F:Fun K "depth" "Many.depth" cT f fd)(dc:∀C sp,TV (q0 0) K r vDp C sp->zS P w K mg base CX0 k "depth" C sp):j4 ["self"] (spV (q0 0) K (r+1) Kd.isMany vDp):=by
 w_cond rP;obtain⟨a,kd,sa,S,rfl,hF,hk,hf,ho,hw,hg,q⟩:=h;refine⟨_,(jE (jJ (yC (qD (pv 0) rfl) dc hr qR))),?_⟩;cases id ho with
 | @many a dx b n k h1 h2 =>
  exact⟨_,rfl,a,Vc,_,_,_,rfl,h1,Uc.cl,Uc.nd,rfl,aFt (sN (by simp)) hk.sub hf.sub h2 hw hg q⟩
 |_=>cases hF
theorem bR{k r:Nat}(F:Fun K "greatest" "Pick.greatest" zJ f fd)(aw:j9 Ve "size" (mH (q0 0) K r sSz)):j4 ["self"] (spGr (q0 0) K (r+1)):=by
 w_cond iY;obtain⟨a,is,sa,S,rfl,hk,hf,ho,hw,hg,q⟩:=h;refine⟨_,(jE (jJ (jK (zV rfl) rfl M.max boot_max (jA (qC ["shape"] [] [] rfl (fH (qD (pv 0) rfl)) rfl trivial trivial (fun _ _ _ _=>(qN rfl)) (fun _ _ _ _=>qB) (fun _ _ _ _=>(yA (pv 0) Ue.cl aw hr qR))) jB)))),?_⟩;obtain⟨dx,t,ss,h1,h2,h3,h4⟩ : ∃(dx t:Addr) (ss:List Addr),H a=some (.ins Vd dx [("shapes",.ref t)])/\SqT K H t (ss.map V.ref)/\ss.length=is.length/\∀(j i:Nat) (s:Addr),is[j]?=some i->ss[j]?=some s->sa[i]?=some s:=by
  cases ho with
  |pick h1 h2 h3 h4=>exact⟨_,_,_,h1,h2,h3,h4⟩
 have zl:(ss.map V.ref).length=is.length:=by rw[δ];exact h3
 refine⟨_,rfl,a,Vd,_,_,_,rfl,h1,Ud.cl,Ud.nd,rfl,t,rfl,⟨_,h2⟩,aBa (xs:=ss.map V.ref) (fun j ys H'=>jI H H'/\ys=((is.take j).map fun i=>V.int (sSz i (tabs S)))) ⟨jI.refl _,rfl⟩ (fun j ys H' _ z=>⟨z.1.tp h2,by rw[z.2,δ,Δ];exact jz _ _⟩) (kQ (by have:=hf.2.1;omega)) (fun j x ys H' hx z=>?_) (fun ys H' z p hp=>?_)⟩
 ·obtain⟨g,rfl⟩:=z;obtain⟨s,hs,rfl⟩:=qE hx;have hj:j<is.length:=by rw[←h3];exact(η.mp hs).1
  have hi:is[j]?=some is[j]:=θ hj;have e:=h4 j _ s hi hs;obtain⟨sh,hS,dx2,t2,ps,k2,_⟩:=hw.at e;exact⟨_,rfl,s,dx2,_,rfl,g _ _ k2,rfl,s,is[j],sa,S,rfl,e,(by have:=hk _ (md hj);omega),hw.same g,hg,fun H2 g2=>⟨⟨g.trans g2,(vB hi).symm⟩,_,rfl⟩⟩
 ·obtain⟨g,rfl⟩:=z;have g2:=vY hp (.lst ((is.take (ss.map V.ref).length).map fun i=>V.int (sSz i (tabs S))));have kp:upd H' p (.lst ((is.take (ss.map V.ref).length).map fun i=>V.int (sSz i (tabs S)))) p=some (.lst (((is.map fun i=>sSz i (tabs S)).map fun n:Nat=>(n:Int)).map V.int)):=by
   rw[jQ,zl,kO,jw,jw];rfl
  have q':=q _ (g.trans g2);refine⟨p,(is.map fun i=>sSz i (tabs S)).map fun n:Nat=>(n:Int),rfl,SqL.of kp,(by have:=hf.1;intro z;rw[jw,List.map_eq_nil_iff]at z;rw[z]at this;exact absurd this (by decide)),fun m h5 h6=>?_⟩;rw[aHn h5 h6];exact q'
theorem rR{k r:Nat}(F:Fun K "depth" "Pick.depth" cI f fd)(au:j9 Ve "depth" (mH (q0 0) K r sDp)):j4 ["self"] (spV (q0 0) K (r+1) Kd.isPick vDp):=by
 w_cond rV;obtain⟨a,kd,sa,S,rfl,hF,hk,hf,ho,hw,hg,q⟩:=h;refine⟨_,(jE (jJ (jK (zV rfl) rfl M.max boot_max (jA (qC ["shape"] [] [] rfl (fH (qD (pv 0) rfl)) rfl trivial trivial (fun _ _ _ _=>(qN rfl)) (fun _ _ _ _=>qB) (fun _ _ _ _=>(yA (pv 0) Ue.cl au hr qR))) jB)))),?_⟩;obtain⟨is,dx,t,ss,rfl,h1,h2,h3,h4⟩ : ∃(is:List Nat) (dx t:Addr) (ss:List Addr),kd=.pick is/\H a=some (.ins Vd dx [("shapes",.ref t)])/\SqT K H t (ss.map V.ref)/\ss.length=is.length/\∀(j i:Nat) (s:Addr),is[j]?=some i->ss[j]?=some s->sa[i]?=some s:=by
  cases ho with
  |pick h1 h2 h3 h4=>exact⟨_,_,_,_,rfl,h1,h2,h3,h4⟩
  |_=>cases hF
 have zl:(ss.map V.ref).length=is.length:=by rw[δ];exact h3
 refine⟨_,rfl,a,Vd,_,_,_,rfl,h1,Ud.cl,Ud.nd,rfl,t,rfl,⟨_,h2⟩,aBa (xs:=ss.map V.ref) (fun j ys H'=>jI H H'/\ys=((is.take j).map fun i=>V.int (sDp i (tabs S)))) ⟨jI.refl _,rfl⟩ (fun j ys H' _ z=>⟨z.1.tp h2,by rw[z.2,δ,Δ];exact jz _ _⟩) (kQ (by have:=hf.2.1;omega)) (fun j x ys H' hx z=>?_) (fun ys H' z p hp=>?_)⟩
 ·obtain⟨g,rfl⟩:=z;obtain⟨s,hs,rfl⟩:=qE hx;have hj:j<is.length:=by rw[←h3];exact(η.mp hs).1
  have hi:is[j]?=some is[j]:=θ hj;have e:=h4 j _ s hi hs;obtain⟨sh,hS,dx2,t2,ps,k2,_⟩:=hw.at e;exact⟨_,rfl,s,dx2,_,rfl,g _ _ k2,rfl,s,is[j],sa,S,rfl,e,(by have:=hk _ (md hj);omega),hw.same g,hg,fun H2 g2=>⟨⟨g.trans g2,(vB hi).symm⟩,_,rfl⟩⟩
 ·obtain⟨g,rfl⟩:=z;have g2:=vY hp (.lst ((is.take (ss.map V.ref).length).map fun i=>V.int (sDp i (tabs S))));have kp:upd H' p (.lst ((is.take (ss.map V.ref).length).map fun i=>V.int (sDp i (tabs S)))) p=some (.lst (((is.map fun i=>sDp i (tabs S)).map fun n:Nat=>(n:Int)).map V.int)):=by
   rw[jQ,zl,kO,jw,jw];rfl
  have q':=q _ (g.trans g2);refine⟨p,(is.map fun i=>sDp i (tabs S)).map fun n:Nat=>(n:Int),rfl,SqL.of kp,(by have:=hf.1;intro z;rw[jw,List.map_eq_nil_iff]at z;rw[z]at this;exact absurd this (by decide)),fun m h5 h6=>?_⟩;rw[aHn h5 h6];exact q'
theorem wD{r:Nat}(F:Fun K "size" "Pick.size" eE f fd)(be:j9 Vd "greatest" (spGr (q0 0) K (r+1))):j4 ["self"] (spV (q0 0) K (r+1) Kd.isPick vSz):=by
 w_cond uI;obtain⟨a,kd,sa,S,rfl,hF,hk,hf,ho,hw,hg,q⟩:=h;refine⟨_,(jE (jJ (jY qJ jC (yA (pv 0) Ud.cl be hr qR)))),?_⟩;cases id ho with
 | @pick a dx t is ss h1 h2 h3 h4 =>
  refine⟨_,rfl,a,dx,_,rfl,h1,rfl,a,is,sa,S,rfl,hk,hf,ho,hw,hg,fun H' g=>⟨_,_,rfl,rfl,?_⟩⟩;have q':=q H' g;rw[show vSz (Kd.pick is) (tabs S)=1+xE (is.map fun i=>(tabs S).sz.getD i 0) from rfl,vb]at q';exact q'
 |_=>cases hF
theorem aCl{k:Nat}(F:Fun K "__init__" "Num.__init__" fM f fd):j4 ["self","width"] (rW Va "width"):=by
 w_cond aBm;obtain⟨a,dx,v,H1,rfl,hA,g,h0,q⟩:=h;refine⟨_,(jE (dR (pv 0) (pv 1) rfl)),?_⟩;exact⟨_,rfl,_,rfl,a,Va,dx,[],rfl,hA,Ua.cl,Ua.nd,by decide,q _ (g.putn h0) jQ⟩
theorem oF{k:Nat}(F:Fun K "__init__" "Nested.__init__" bD f fd):j4 ["self","shape"] (rW Vb "shape"):=by
 w_cond rB;obtain⟨a,dx,v,H1,rfl,hA,g,h0,q⟩:=h;refine⟨_,(jE (dR (pv 0) (pv 1) rfl)),?_⟩;exact⟨_,rfl,_,rfl,a,Vb,dx,[],rfl,hA,Ub.cl,Ub.nd,by decide,q _ (g.putn h0) jQ⟩
theorem uP{k:Nat}(F:Fun K "__init__" "Many.__init__" eF f fd):j4 ["self","count","kind"] (spI2 Vc "count" "kind"):=by
 w_cond wJ;obtain⟨a,dx,v,u,H1,rfl,hA,g,h0,q⟩:=h;refine⟨_,(jD (dR (pv 0) (pv 1) rfl) (jE (dR (pv 0) (pv 2) rfl))),?_⟩;exact⟨_,rfl,_,rfl,a,Vc,dx,[],rfl,hA,Uc.cl,Uc.nd,by decide,_,rfl,_,rfl,a,Vc,dx,_,rfl,jQ,Uc.cl,Uc.nd,(by show 1<1000;decide),q _ ((g.putn h0).putn h0) jQ⟩
theorem wG{k:Nat}(F:Fun K "__init__" "Pick.__init__" dJ f fd):j4 ["self","shapes"] (spIT K Vd "shapes"):=by
 w_cond tP;obtain⟨a,dx,l,ys,H1,rfl,hA,g,h0,hl,q⟩:=h;refine⟨_,(jE (dR (pv 0) (qQ aT rfl M.tuple boot_tuple (jA (pv 1) jB)) rfl)),?_⟩;refine⟨_,rfl,l,ys,rfl,.inl ⟨g.seq hl,fun t ht=>?_⟩⟩;clear 1 t H2 g2 k2 ht;exact⟨_,rfl,a,Vd,dx,[],rfl,g2 _ _ hA,Ud.cl,Ud.nd,by decide,q t _ ((g.trans g2).putn h0) jQ (SqT.of (by rw[jZ (lu (jL hA ht))];exact k2))⟩
theorem pS{k:Nat}(F:Fun K "__init__" "Shapes.__init__" aS f fd):j4 ["self","shapes"] (spIT K Vf "shapes"):=by
 w_cond pJ;obtain⟨a,dx,l,ys,H1,rfl,hA,g,h0,hl,q⟩:=h;refine⟨_,(jE (dR (pv 0) (qQ aT rfl M.tuple boot_tuple (jA (pv 1) jB)) rfl)),?_⟩;refine⟨_,rfl,l,ys,rfl,.inl ⟨g.seq hl,fun t ht=>?_⟩⟩;clear 1 t H2 g2 k2 ht;exact⟨_,rfl,a,Vf,dx,[],rfl,g2 _ _ hA,Uf.cl,Uf.nd,by decide,q t _ ((g.trans g2).putn h0) jQ (SqT.of (by rw[jZ (lu (jL hA ht))];exact k2))⟩
theorem cY{k:Nat}(F:Fun K "units_at" "Num.units_at" aD f fd):j4 ["self","path"] (spU (q0 0) K r Kd.isNum):=by
 w_cond nB;obtain⟨a,p,kd,sa,S,rfl,hp,hF,hk,hf,ho,hw,hg,q⟩:=h;refine⟨_,(jE (jJ (kU (jA (kT (jA (pv 1) (jA (qD (pv 0) rfl) (jA jO jB)))) jB)))),?_⟩;cases id ho with
 |num h1 =>
  refine⟨_,rfl,_,rfl,a,Va,_,_,_,rfl,h1,Ua.cl,Ua.nd,rfl,sJ,fun t ht=>?_⟩;clear 1 t H1 g1 k1 ht;refine⟨aV,fun l hl=>?_⟩;clear 1 l H2 g2 k2 hl;exact q l H2 (g1.trans g2) (g1.free hl) ⟨[t],k2,.cons (g2.tp (SqT.of k1)) .nil⟩
 |_=>cases hF
theorem lP{r:Nat}(F:Fun K "units_at" "Pick.units_at" zI f fd)(ap:j7 "joined" dW)(be:j9 Vd "greatest" (spGr (q0 0) K (r+1))):j4 ["self","path"] (spU (q0 0) K (r+1) Kd.isPick):=by
 w_cond mB;obtain⟨a,p,kd,sa,S,rfl,hp,hF,hk,hf,ho,hw,hg,q⟩:=h;refine⟨_,(jE (jJ (kU (jA (kT (jA (jF ap hr (jA (pv 1) (jA jO jB))) (jA jC (jA jO jB)))) (jA (kT (jA (pv 1) (jA (yA (pv 0) Ud.cl be hr qR) (jA jO jB)))) jB))))),?_⟩;cases id ho with
 | @pick a dx t is ss h1 h2 h3 h4 =>
  refine⟨_,rfl,p,_,_,rfl,rfl,(by omega),(by decide),sJ,fun t1 ht1=>?_⟩;clear 1 t1 H1 g1 k1 ht1;refine⟨_,rfl,_,rfl,a,dx,_,rfl,g1 _ _ h1,rfl,a,is,sa,S,rfl,hk,hf,ho.same g1,hw.same g1,hg,fun H2 g2=>⟨sJ,fun t2 ht2=>?_⟩⟩;clear 1 t2 H3 g3 k3 ht2;refine⟨xD,fun l hl=>?_⟩;clear 1 l H4 g4 k4 hl;exact q l H4 (((g1.trans g2).trans g3).trans g4) (((g1.trans g2).trans g3).free hl) ⟨[t1,t2],k4,.cons (((g2.trans g3).trans g4).tp (SqT.of k1)) (.cons (g4.tp (SqT.of k3)) .nil)⟩
 |_=>cases hF
theorem lY{k:Nat}(F:Fun K "parted" "Nested.parted" zG f fd):j4 ["self"] (spP2 (q0 0) K Kd.isNest):=by
 w_cond lM;obtain⟨a,kd,sa,S,rfl,hF,hf,ho,hw,hg,q⟩:=h;refine⟨_,(jE (jJ (qQ cJ rfl M.list xx (jA (qD (qD (pv 0) rfl) rfl) jB)))),?_⟩;cases id ho with
 | @nest a dx s i e h1 =>
  obtain⟨sh,hs,dx2,t,ps,k1,k2,k3⟩:=hw.at e;refine⟨_,rfl,a,Vb,_,_,_,rfl,h1,Ub.cl,Ub.nd,rfl,s,Ve,_,_,_,rfl,k1,Ue.cl,Ue.nd,rfl,t,_,rfl,.inr k2,fun l hl=>?_⟩;clear 1 l H1 g1 kl hl;refine q l H1 g1 hl ⟨ps,kl,by rw[qS hs];exact k3.len,fun j t ht=>?_⟩;rw[qS hs];obtain⟨nm,kd,k,h2,h3,h4⟩:=k3.get ht;have h5:=(h4.same g1).more (sa.drop i);rw[lh]at h5;exact⟨nm,kd,k,h2,g1.tp h3,h5⟩
 |_=>cases hF
theorem pI{k:Nat}(F:Fun K "parted" "Many.parted" bA f fd):j4 ["self"] (spP2 (q0 0) K Kd.isMany):=by
 w_cond oR;obtain⟨a,kd,sa,S,rfl,hF,hf,ho,hw,hg,q⟩:=h;refine⟨_,(jE (jJ (qC ["number"] ["self"] [0] rfl (vD rfl M.range (jA (qD (pv 0) rfl) jB)) rfl ⟨rfl,trivial⟩ ⟨⟨rfl,rfl,rfl,_,rfl⟩,trivial⟩ (fun _ _ _ _=>(qN rfl)) (fun _ _ _ _=>qB) (fun _ _ _ _=>(kT (jA (pv 0) (jA (nI (K:=K) rfl (pv 1) rfl) jB))))))),?_⟩;cases id ho with
 | @many a dx b n k h1 h2 =>
  have hn:n<=6:=hf.2.1;refine⟨_,rfl,a,Vc,_,_,_,rfl,h1,Uc.cl,Uc.nd,rfl,n,rfl,by omega,by omega,yW (n:=n) (fun j ys H'=>jI H H'/\∃tt:List Addr,ys=tt.map V.ref/\tt.length=j/\∀(i:Nat) (t:Addr),tt[i]?=some t->SqT K H' t [.int i,.ref b]) ⟨jI.refl _,[],rfl,rfl,fun i t e=>by simp at e⟩ (fun j ys H' _ z=>?_) (kQ (by omega)) (fun j ys H' hj z=>?_) (fun ys H' z p hp=>?_)⟩
  ·obtain⟨_,tt,rfl,hl,_⟩:=z;rw[δ];omega
  ·obtain⟨g,tt,rfl,hl,hP⟩:=z;refine⟨_,rfl,_,rfl,a,Vc,_,_,_,rfl,g _ _ h1,Uc.cl,Uc.nd,rfl,xD,fun t ht=>?_⟩;clear 1 t H1 g1 k1 ht;refine⟨⟨g.trans g1,tt++[t],by rw[χ];rfl,by rw[ι,hl];rfl,fun i u e=>?_⟩,_,rfl⟩;rcases bT e with e|⟨rfl,rfl⟩
   ·exact g1.tp (hP i u e)
   ·rw[hl];rw[mw]at k1;exact SqT.of k1
  ·obtain⟨g,tt,rfl,hl,hP⟩:=z;clear 1 p H1 g1 k1 hp;refine q p H1 (g.trans g1) (g.free hp) ⟨tt,k1,by show tt.length=((jg n).map _).length;rw[hl,δ,jm],fun i t e=>?_⟩;have hi:i<n:=by rw[←hl];exact(η.mp e).1
   refine⟨ε (toString i),k,b,?_,g1.tp (hP i t e),h2.same (g.trans g1)⟩;show((jg n).map _)[i]?=_;rw[iq,rh hi];rfl
 |_=>cases hF
theorem bQ{k r:Nat}{FF:Kd->Bool}(hFF:∀k,FF k=true->(∃i,k=.nest i)\/∃n q,k=.many n q)(F:Fun K "units_at" "Kind.units_at" zO f fd)(ay:∀C sp,aGf (q0 0) K C sp->zS P w K mg base CX0 k "parted" C sp)(cf:∀C sp,TU (q0 0) K r C sp->zS P w K mg base CX0 k "units_at" C sp)(ap:j7 "joined" dW):j4 ["self","path"] (spU (q0 0) K (r+1) FF):=by
 w_cond xV;obtain⟨a,p,kd,sa,S,rfl,hp,hF,hk,hf,ho,hw,hg,q⟩:=h;refine⟨_,(jD (jT 2 xV.nd (kU jB)) (jD (xG jx rfl (qO (yC (pv 0) ay hr qR)) (xP rfl (jX (kS 3 xV.nd) (jX (kS 4 xV.nd) qH))) (jE (vO (zP jq PySem.F.slot_list_extend PySem.F.type_list_extend sR (pv 2) (jA (aBb (pv 4) cf hr qR (jA (jF ap hr (jA (pv 1) (jA (pv 3) jB))) jB)) jB))))) (jE (jJ (pv 2))))),?_⟩;refine⟨bH,fun l hl=>?_⟩;generalize e1:upd H l _=H1;obtain⟨g1,k1⟩:=qA e1 hl;refine⟨_,rfl,tQ (sN (by simp)) (hFF kd hF) hf (ho.same g1) (hw.same g1) hg fun l2 H2 g2 hl2 zq=>?_⟩;obtain⟨tt,k2,zl,pr⟩:=zq;have kl2:=g2 _ _ k1;have n2:l2≠l:=lu (jL k1 hl2);have hw2:=hw.same (g1.trans g2);have bd:=Kd.size_bd hg.sz (by decide) hf;have lens:∀j,(((kd.parts S).take j).flatMap fun f=>un f.2 S (pj p f.1)).length<=6000:=fun j=>by
  have h1:(un kd S p).length<=_:=(hg.kd hf).2 p;rw[Kd.parts_un hg hf (hFF kd hF)]at h1
  conv at h1=>lhs;rw[←lh j (kd.parts S)]
  rw[qe,ι]at h1;omega
 refine⟨l2,rfl,⟨_,SqL.of k2⟩,xM (xs:=tt.map V.ref) (fun j σ H'=>∃o3 o4,σ = [some (.ref a),some (.str p),some (.ref l),o3,o4]/\But l H2 H'/\UL K H' l (((kd.parts S).take j).flatMap fun f=>un f.2 S (pj p f.1))) ⟨_,_,rfl,But.refl,[],kl2,.nil⟩ (fun j σ H' _ z=>?_) (fun j x σ H' hx z=>?_) (fun σ H' z=>?_)⟩
 ·obtain⟨o3,o4,rfl,g,_⟩:=z;exact SqL.of (g _ _ n2 k2)
 ·obtain⟨o3,o4,rfl,g,us,ku,ur⟩:=z;obtain⟨t,ht,rfl⟩:=qE hx;obtain⟨y,kd',kk,hps,hq,hko⟩:=pr _ _ ht;have hx':=aDc hf hps;obtain⟨p1,p2,p3,p4⟩:=Kd.parts_ok hg hf hk (μ hps);obtain⟨C',dx',fs',sp',m1,m2,m3,m4⟩:=kdU (sN (m:="units_at") (by simp)) p1 p2 (hko.but g kl2) (hw2.but g kl2) hg;have hyl:(pj p y).length<=p.length+7:=by
   have e1:(ε ".").length=1:=rfl;have p4':y.length<=6:=p4;unfold pj
   split
   ·omega
   ·rw[kc,kc];omega
  refine⟨t,_,rfl,g.tup kl2 hq,rfl,_,_,rfl,_,_,rfl,rfl,_,rfl,.inl ⟨rfl,_,SqL.of ku⟩,_,rfl,kk,C',dx',fs',sp',rfl,m1,m2,m3,_,rfl,_,rfl,p,_,y,rfl,hx',(by omega),(by have p4':y.length<=6:=p4;omega),m4 _ _ _ (by omega) fun l3 H3 g3 hl3 zq=>?_⟩;obtain⟨us3,k3,ur3⟩:=zq;have ku3:=g3 _ _ ku;have h6:=lens (j+1);rw[eU hps,ι,←ur.len,←ur3.len]at h6;refine⟨l,l3,_,_,rfl,rfl,ku3,k3,(by rw[jk,δ,δ];omega),?_⟩;clear 0 l H4 g4 k4;refine⟨_,_,rfl,(g.trans (But.of g3)).trans g4,us++us3,by rw[χ];exact k4,?_⟩;rw[eU hps];exact((ur.same g3).but g4 ku3).app (ur3.but g4 ku3)
 ·obtain⟨o3,o4,rfl,g,u⟩:=z;rw[δ,zl,kO]at u;refine⟨_,rfl,q l H' (But.from (g1.trans g2) hl g) hl ?_⟩;rw[Kd.parts_un hg hf (hFF kd hF)];exact u
theorem pT(F:Fun K "units" "Shape.units" aR f fd)(ak:j8 cIv (rW Vb "shape"))(cf:∀C sp,TU (q0 0) K r C sp->zS P w K mg base CX0 k "units_at" C sp):j4 ["self"] (aPl (q0 0) K r):=by
 w_cond pL;obtain⟨a,i,sa,S,rfl,e,hi,h8,hw,hg,q⟩:=h;refine⟨_,(jE (jJ (aBb (yQ Ub ak hr0 rfl qR (jA (pv 0) jB)) cf hr qR (jA jO jB)))),?_⟩;refine⟨_,rfl,fun x dx hx hdx _=>⟨x,dx,.ref a,H,rfl,jQ,bJ hx hdx,hx,fun H1 g1 k1=>⟨rfl,?_⟩⟩⟩;have hil:i<S.length:=by rw[←hw.1];exact(η.mp e).1
 obtain⟨C',dx',fs',sp',m1,m2,m3,m4⟩:=kdU (kd:=.nest i) (r:=r) (sN (m:="units_at") (by simp)) hi hil (.nest e k1) (hw.same g1) hg;exact⟨x,C',dx',fs',sp',rfl,m1,m2,m3,m4 _ _ _ (by show 0+8*r<=200;omega) fun l H2 g2 hl u=>q l H2 (g1.trans g2) (g1.free hl) u⟩
theorem sG{k:Nat}(F:Fun K "__init__" "Shape.__init__" cQ f fd):j4 ["self","name","fields"] (aJw (q0 0) K):=by
 w_cond rJ;obtain⟨a,dx,fl,nm,ps,fs,sa,H1,rfl,hA,g,h0,hl,hP,hn,q⟩:=h;refine⟨_,(jD (dR (pv 0) (pv 1) rfl) (jE (dR (pv 0) (qQ aT rfl M.tuple boot_tuple (jA (qC ["field","kind"] [] [] rfl (aQx (pv 2)) rfl trivial trivial (fun _ _ _ _=>(yY (K:=K) (n:=2) rfl rfl (jX (qN rfl) (jX (cP rfl) qH)))) (fun _ _ _ _=>qB) (fun _ _ _ _=>(kT (jA (pv 0) (jA (pv 1) jB))))) jB)) rfl))),?_⟩;refine⟨_,rfl,_,rfl,a,Ve,dx,[],rfl,hA,Ue.cl,Ue.nd,by decide,?_⟩;have ga:jI H1 (upd H a (.ins Ve dx (aG "name" (.str nm) []))):=g.putn h0;have ka:upd H a (.ins Ve dx (aG "name" (.str nm) [])) a=some (.ins Ve dx [("name",.str nm)]):=jQ;generalize upd H a (.ins Ve dx (aG "name" (.str nm) []))=H2 at ga ka;have zl:(ps.map V.ref).length=fs.length:=by rw[δ];exact hP.len
 have turn:∀(j:Nat) (x:V) (ys:List V) (H':Hp) (Pv:Nat->List V->Hp->Prop),Pv=(fun j ys H'=>jI H2 H'/\∃tt:List Addr,ys=tt.map V.ref/\tt.length=j/\FO (q0 0) K H' sa tt (fs.take j))->(ps.map V.ref)[j]?=some x->Pv j ys H'->∃t nm kk,x=.ref t/\SqT K H' t [.str nm,.ref kk]/\∀u,H' u=none->Pv (j+1) (ys++[.ref u]) (upd H' u (.tup [.str nm,.ref kk])):=by
  intro j x ys H' Pv eP hx z;subst eP;obtain⟨g2,tt,rfl,htl,hF⟩:=z;obtain⟨t,ht,rfl⟩:=qE hx;obtain⟨nm',kd,kk,hfs,hq,hko⟩:=hP.get ht;refine⟨t,nm',kk,rfl,g2.tp (ga.tp hq),fun u hu=>?_⟩;generalize e3:upd H' u _=H3;obtain⟨g3,k3⟩:=qA e3 hu;refine⟨g2.trans g3,tt++[u],by rw[χ];rfl,by rw[ι,htl];rfl,?_⟩;have:=(hF.same g3).snoc (SqT.of k3) (hko.same ((ga.trans g2).trans g3));rw[jt,hfs];exact this
 have fin:∀(ys:List V) (H':Hp),(jI H2 H'/\∃tt:List Addr,ys=tt.map V.ref/\tt.length=(ps.map V.ref).length/\FO (q0 0) K H' sa tt (fs.take (ps.map V.ref).length))->∀p,H' p=none->∀t,upd H' p (.lst ys) t=none->Q .non (upd (upd (upd H' p (.lst ys)) t (.tup ys)) a (.ins Ve dx [("name",.str nm),("fields",.ref t)])):=by
  intro ys H' z p hp t ht;obtain⟨g2,tt,rfl,htl,hF⟩:=z;generalize e3:upd H' p _=H3 at ht;obtain⟨g3,k3⟩:=qA e3 hp;clear 1 t H4 g4 k4 ht;have ka4:H4 a=_:=(g2.trans g3 |>.trans g4) _ _ ka;rw[zl,kO]at hF;have G:jI H1 (upd H4 a (.ins Ve dx [("name",.str nm),("fields",.ref t)])):=(((ga.trans g2).trans g3).trans g4).putn h0;have nta:t≠a:=lu (jL ((g2.trans g3) _ _ ka) ht);refine q t tt _ G jQ (SqT.of (by rw[jZ nta];exact k4)) ?_;exact FO.insD (hF.same (g3.trans g4)) ka4
 have st:jI H2 H2/\∃tt:List Addr,([]:List V)=tt.map V.ref/\tt.length=0/\FO (q0 0) K H2 sa tt (fs.take 0):=⟨jI.refl _,[],rfl,rfl,by rw[List.take_zero];exact .nil⟩;have lst:∀(H':Hp) (p t:Addr) (ys:List V),(jI H2 H'/\∃tt:List Addr,ys=tt.map V.ref/\tt.length=(ps.map V.ref).length/\FO (q0 0) K H' sa tt (fs.take (ps.map V.ref).length))->H' p=none->upd H' p (.lst ys) t=none->upd (upd H' p (.lst ys)) t (.tup ys) a=some (.ins Ve dx [("name",.str nm)]):=fun H' p t ys z hp ht=>(vY ht _) _ _ ((vY hp _) _ _ (z.1 _ _ ka));refine⟨_,rfl,fl,rfl,?_⟩;rcases hl with hl|hl
 ·refine .inl ⟨⟨_,ga.seq hl⟩,fE (xs:=ps.map V.ref) (fun j ys H'=>jI H2 H'/\∃tt:List Addr,ys=tt.map V.ref/\tt.length=j/\FO (q0 0) K H' sa tt (fs.take j)) st (fun j ys H' _ z=>⟨z.1.seq (ga.seq hl),by obtain⟨_,tt,rfl,hl,_⟩:=z;rw[δ];omega⟩) (kQ (by omega)) (fun j x ys H' os ho hx z=>?_) (fun ys H' z p hp=>⟨p,ys,rfl,.inl ⟨SqL.of jQ,fun t ht=>⟨_,rfl,a,Ve,dx,_,rfl,lst H' p t ys z hp ht,Ue.cl,Ue.nd,(by show 1<1000;decide),fin ys H' z p hp t ht⟩⟩⟩)⟩;obtain⟨o1,o2,rfl⟩:=wK ho;obtain⟨t,nm',kk,rfl,hq,nxt⟩:=turn j x ys H' _ rfl hx z;exact⟨t,_,rfl,hq,rfl,_,_,rfl,_,_,rfl,rfl,_,rfl,_,rfl,xD,fun u hu=>⟨nxt u hu,[_,_],rfl,rfl⟩⟩
 ·refine .inr ⟨⟨_,ga.tp hl⟩,zU (xs:=ps.map V.ref) (fun j ys H'=>jI H2 H'/\∃tt:List Addr,ys=tt.map V.ref/\tt.length=j/\FO (q0 0) K H' sa tt (fs.take j)) st (fun j ys H' _ z=>⟨z.1.tp (ga.tp hl),by obtain⟨_,tt,rfl,hl,_⟩:=z;rw[δ];omega⟩) (kQ (by omega)) (fun j x ys H' os ho hx z=>?_) (fun ys H' z p hp=>⟨p,ys,rfl,.inl ⟨SqL.of jQ,fun t ht=>⟨_,rfl,a,Ve,dx,_,rfl,lst H' p t ys z hp ht,Ue.cl,Ue.nd,(by show 1<1000;decide),fin ys H' z p hp t ht⟩⟩⟩)⟩;obtain⟨o1,o2,rfl⟩:=wK ho;obtain⟨t,nm',kk,rfl,hq,nxt⟩:=turn j x ys H' _ rfl hx z;exact⟨t,_,rfl,hq,rfl,_,_,rfl,_,_,rfl,rfl,_,rfl,_,rfl,xD,fun u hu=>⟨nxt u hu,[_,_],rfl,rfl⟩⟩
theorem wA(F:Fun K "is_single" "is_single" dU f fd)(cg:j7 "number_in" (gQ K))(aq:j7 "is_name" (bK K)):j4 ["words"] (spSg K):=by
 w_cond uD;obtain⟨a,ws,rfl,hl,hs,q⟩:=h;refine⟨_,(jD (kK (jS kW (jH jW (pv 0) jC) jO) (jE (jJ (vN (qK kW (jK kF rfl M.len ja (jA (pv 0) jB)) jC (vG _)) (xI (qK tV (jF cg hr (jA (jH jW (pv 0) jC) (jA jC (jA (qL (v:=.int 4) rfl C.MOST_WIDTH ⟨_,rfl⟩) jB)))) vE (vG _)))))) jP) (jE (jJ (vN (qK kW (jK kF rfl M.len ja (jA (pv 0) jB)) jC (vG _)) (xI (jF aq hr (jA (jH jW (pv 0) jC) jB))))))),?_⟩;rcases hs with⟨w,w1,w4,rfl⟩|⟨x,hx,rfl⟩
 ·obtain⟨d1,d2,d3,_⟩:=dig (w:=w) (by omega);refine⟨_,rfl,a,_,_,_,rfl,rfl,hl,rfl,rfl,_,rfl,kR ⟨_,rfl,a,_,rfl,.inl hl,rfl,_,rfl,qU (by simp) ⟨_,rfl,a,_,_,_,rfl,rfl,hl,rfl,.str _,1,4,rfl,.inl ⟨_,rfl,by omega,fun H1 g1=>⟨rfl,?_⟩⟩⟩⟩⟩;rw[d1,show cS (some (w:Int)) 1 4=some (w:Int) from if_pos ⟨by omega,by omega⟩];exact q H1 g1
 ·have hne:=cL hx (y:="num") (by decide);refine⟨_,rfl,a,_,_,_,rfl,rfl,hl,rfl,rfl,_,rfl,qZ (by simpa using hne) ⟨_,rfl,a,_,rfl,.inl hl,rfl,_,rfl,qU (by simp) ⟨_,rfl,a,_,_,_,rfl,rfl,hl,rfl,.str x,rfl,.inl ⟨x,rfl,by have:=(vK hx).2;omega,fun H1 g1=>?_⟩⟩⟩⟩;rw[hx];exact q H1 g1
theorem aDq(F:Fun K "is_kind" "is_kind" lC f fd)(cg:j7 "number_in" (gQ K))(cy:j7 "is_single" (spSg K))(aq:j7 "is_name" (bK K)):j4 ["words"] (spKd K):=by
 w_cond aDg;obtain⟨a,nm,n,kd,rfl,hl,hf,hn,q⟩:=h;refine⟨_,(jD (kK (jS kW (jH jW (pv 0) jC) jO) (jE (jJ (vN (qK fC (jK kF rfl M.len ja (jA (pv 0) jB)) jC (vG _)) (vN (qK tV (jF cg hr (jA (jH jW (pv 0) jC) (jA jC (jA (qL (v:=.int 6) rfl C.MOST_COUNT ⟨_,rfl⟩) jB)))) vE (vG _)) (xI (jF cy hr (jA (vA xC (pv 0) (vT jC) vU) jB))))))) jP) (jD (kK (jS kW (jH jW (pv 0) jC) jO) (jE (jJ (vN (aAd cZ cZ (qL (v:=.int 2) rfl C.LEAST_PICKED ⟨_,rfl⟩) (jY zZ (jK kF rfl M.len ja (jA (pv 0) jB)) jC) (qL (v:=.int 4) rfl C.MOST_PICKED ⟨_,rfl⟩)) (xI (jK (bO rfl) rfl M.all boot_all (jA (qC ["word"] [] [] rfl (qO (vA xC (pv 0) (vT jC) vU)) rfl trivial trivial (fun _ _ _ _=>(qN rfl)) (fun _ _ _ _=>qB) (fun _ _ _ _=>(jF aq hr (jA (pv 0) jB)))) jB)))))) jP) (jE (jJ (jF cy hr (jA (pv 0) jB)))))),?_⟩;cases kd with
 |num w=>exact⟨_,rfl,a,_,_,_,rfl,rfl,hl,rfl,rfl,_,rfl,jU ⟨_,rfl,a,_,_,_,rfl,rfl,hl,rfl,rfl,_,rfl,jU ⟨_,rfl,a,_,rfl,hl,.inl ⟨w,hf.1,hf.2,rfl⟩,q⟩⟩⟩
 |nest i =>
  have hx:=hn i hf;have h1:=cL hx (y:="row") (by decide);have h2:=cL hx (y:="pick") (by decide);exact⟨_,rfl,a,_,_,_,rfl,rfl,hl,rfl,rfl,_,rfl,qZ (by simpa using h1) ⟨_,rfl,a,_,_,_,rfl,rfl,hl,rfl,rfl,_,rfl,qZ (by simpa using h2) ⟨_,rfl,a,_,rfl,hl,.inr ⟨_,hx,rfl⟩,q⟩⟩⟩
 |many m k =>
  have hm:=hf.2.1;have hm1:=hf.1;obtain⟨d1,d2,d3,_⟩:=dig (w:=m) (by omega);have hne:=Kd.words_ne nm k;have h0 : 0<(k.words nm).length:=uf.mpr hne;have hl':SqL K H a (V.str (ε "row")::V.str (ε (toString (m:Int)))::(k.words nm).map V.str):=hl;refine⟨_,rfl,a,_,_,_,rfl,rfl,hl',at0,rfl,_,rfl,kR ⟨_,rfl,a,_,rfl,.inl hl',_,_,rfl,rfl,_,rfl,qU (by simp;omega) ⟨_,rfl,a,_,_,_,rfl,rfl,hl',at1,.str _,1,6,rfl,.inl ⟨_,rfl,by omega,fun H1 g1=>⟨rfl,_,rfl,?_⟩⟩⟩⟩⟩;rw[d1,show cS (some (m:Int)) 1 6=some (m:Int) from if_pos ⟨by omega,by omega⟩];refine qU (by rfl) ⟨_,rfl,_,rfl,a,_,rfl,g1.seq hl,fun p hp=>?_⟩;rw[show aK ((Kd.words nm (.many m k)).map V.str) (some 2) none=(k.words nm).map V.str from aPb _ _ _];clear 1 p H2 g2 k2 hp;refine⟨p,k.words nm,rfl,SqL.of k2,?_,fun H3 g3=>q H3 ((g1.trans g2).trans g3)⟩;rcases hf.2.2 with⟨w,rfl,hw⟩|⟨i,rfl,hi⟩
  ·exact .inl ⟨w,hw.1,hw.2,rfl⟩
  ·exact .inr ⟨_,hn i hi,rfl⟩
 |pick is =>
  have h1:=hf.1;have h2:=hf.2.1;have hl':SqL K H a (V.str (ε "pick")::(is.map nm).map V.str):=hl;have zl:((is.map nm).map V.str).length=is.length:=by rw[δ,δ]
  refine⟨_,rfl,a,_,_,_,rfl,rfl,hl',at0,rfl,_,rfl,jU ⟨_,rfl,a,_,_,_,rfl,rfl,hl',at0,rfl,_,rfl,kR ⟨_,rfl,a,_,rfl,.inl hl',_,_,rfl,rfl,_,_,rfl,rfl,_,rfl,qU (by simp;omega) ⟨_,_,rfl,rfl,_,rfl,qU (by simp;omega) ⟨_,rfl,_,rfl,a,_,rfl,hl',fun p hp=>?_⟩⟩⟩⟩⟩;rw[aBf];clear 1 p H2 g2 k2 hp;refine⟨p,rfl,⟨_,SqL.of k2⟩,xW (xs:=(is.map nm).map V.str) (fun j ys H'=>jI H2 H'/\ys=((is.take j).map fun _=>true).map V.bl) ⟨jI.refl _,rfl⟩ (fun j ys H' _ z=>⟨z.1.seq (SqL.of k2),by rw[z.2,δ,δ,Δ];exact jz _ _⟩) (kQ (by omega)) (fun j x ys H' hx z=>?_) (fun ys H' z p hp=>?_)⟩
  ·obtain⟨g,rfl⟩:=z;obtain⟨y,hy,rfl⟩:=bS hx;rw[iq]at hy;cases e:is[j]? with
   |none=>rw[e]at hy;cases hy
   |some i =>
    rw[e]at hy;cases hy;have hx:=hn i (hf.2.2.2 i (μ e));refine⟨_,rfl,.str (nm i),rfl,.inl ⟨_,rfl,by have:=(vK hx).2;omega,fun H3 g3=>⟨⟨g.trans g3,?_⟩,_,rfl⟩⟩⟩;rw[vB e,hx,χ];rfl
  ·obtain⟨g,rfl⟩:=z;have g3:=vY hp (.lst (((is.take ((is.map nm).map V.str).length).map fun _=>true).map V.bl));refine⟨p,_,rfl,SqL.of jQ,?_⟩;rw[show((is.take ((is.map nm).map V.str).length).map fun _=>true).all id=true from ji.mpr fun b hb=>by obtain⟨_,_,rfl⟩:=jf.mp hb;rfl];exact q _ ((g2.trans g).trans g3)
theorem lG(F:Fun K "is_field_line" "is_field_line" zF f fd)(aq:j7 "is_name" (bK K))(gv:j7 "is_kind" (spKd K)):j4 ["words"] (spFl K):=by
 w_cond lL;obtain⟨a,nm,n,kd,fn,rfl,hl,hfn,hf,hn,q⟩:=h;refine⟨_,(jE (jJ (vN (qK fC (jK kF rfl M.len ja (jA (pv 0) jB)) jC (vG _)) (vN (jF aq hr (jA (jH jW (pv 0) jC) jB)) (xI (jF gv hr (jA (vA xC (pv 0) (vT jC) vU) jB))))))),?_⟩;have h0 : 0<(kd.words nm).length:=uf.mpr (Kd.words_ne nm kd);refine⟨_,rfl,a,_,rfl,.inl hl,_,_,rfl,rfl,_,rfl,qU (by simp;omega) ⟨_,rfl,a,_,_,_,rfl,rfl,hl,at0,.str fn,rfl,.inl ⟨fn,rfl,by have:=(vK hfn).2;omega,fun H1 g1=>⟨_,rfl,qU hfn ⟨_,rfl,_,rfl,a,_,rfl,g1.seq hl,fun p hp=>?_⟩⟩⟩⟩⟩;rw[show aK ((fn::kd.words nm).map V.str) (some 1) none=(kd.words nm).map V.str from aBf _ _];clear 1 p H2 g2 k2 hp;exact⟨p,nm,n,kd,rfl,SqL.of k2,hf,hn,fun H3 g3=>q H3 ((g1.trans g2).trans g3)⟩
theorem mW(F:Fun K "shapes_named" "shapes_named" aB f fd)(aq:j7 "is_name" (bK K)):j4 ["words"] (aEy K):=by
 w_cond nF;obtain⟨a,nm,n,kd,fn,rfl,hl,hf,hn,q⟩:=h;refine⟨_,(jE (jJ (qC ["word"] [] [] rfl (qO (vA xC (pv 0) (vT jC) vU)) rfl trivial trivial (fun _ _ _ _=>(qN rfl)) (fun _ _ _ _=>(aOk (kZ (jF aq hr (jA (pv 0) jB))))) (fun _ _ _ _=>(pv 0))))),?_⟩;obtain⟨w6,w5⟩:=eW hn hf;refine⟨_,rfl,_,rfl,a,_,rfl,hl,fun p hp=>?_⟩;rw[show aK ((fn::kd.words nm).map V.str) (some 1) none=(kd.words nm).map V.str from aBf _ _];clear 1 p H2 g2 k2 hp;refine⟨p,rfl,⟨_,SqL.of k2⟩,xW (xs:=(kd.words nm).map V.str) (fun j ys H'=>jI H2 H'/\ys=(((kd.words nm).take j).filter kY).map V.str) ⟨jI.refl _,rfl⟩ (fun j ys H' hj z=>⟨z.1.seq (SqL.of k2),?_⟩) (kQ (by rw[δ];omega)) (fun j x ys H' hx z=>?_) (fun ys H' z l hl=>?_)⟩
 ·rw[z.2,δ];refine Θ (List.length_filter_le ..) ?_;rw[Δ];exact jz _ _
 ·obtain⟨g,rfl⟩:=z;obtain⟨y,hy,rfl⟩:=bS hx;have hy6:=w6 y (μ hy);refine⟨_,rfl,.str y,rfl,.inl ⟨_,rfl,by omega,fun H3 g3=>⟨_,rfl,yB (fun c=>⟨_,rfl,⟨g.trans g3,?_⟩,_,rfl⟩) (fun c=>⟨⟨g.trans g3,?_⟩,_,rfl⟩)⟩⟩⟩
  ·rw[tF hy,if_pos c,χ];rfl
  ·rw[tF hy,if_neg c,li]
 ·obtain⟨g,rfl⟩:=z;clear 1 l H3 g3 k3 hl;rw[δ,kO,wM hn hf]at k3;exact q l H3 ((g2.trans g).trans g3) ((g2.trans g).free hl) k3
theorem sM{k:Nat}(F:Fun K "_law_joined" "_law_joined" cE f fd):j4 ["_law_path","_law_step"] spLJ:=by
 w_cond rY;obtain⟨p,y,rfl,hp,hy,hy1,q⟩:=h;refine⟨_,(jE (jJ (jY qM (jY qM (pv 0) (jY aNx jO (qQ mG rfl M.int boot_int (jA (vN (qK dP (pv 0) jO (vG _)) (xI (qK dP (pv 1) jO (vG _)))) jB)))) (pv 1)))),?_⟩;have hye:¬ y=ε "":=fun z=>by rw[z]at hy1;exact absurd hy1 (by decide)
 have hd:(ε ".").length=1:=rfl;refine⟨_,rfl,_,rfl,rfl,_,rfl,yB (fun c=>?_) (fun c=>?_)⟩
 ·have hpe:¬ p.length=0:=fun z=>by
   have e:p=ε "":=Str.ext' (by rw[show p.cps = #[] from Array.eq_empty_of_size_eq_zero z];rfl);rw[e]at c;exact absurd c (by decide)
  refine⟨_,rfl,rfl,_,rfl,_,_,rfl,rfl,?_⟩;rw[show(!decide (V.str y=V.str (ε "")))=true by simpa using hye];refine⟨.inr rfl,by decide,_,_,rfl,rfl,(by rw[jk,if_pos rfl,if_pos rfl,hd];omega),_,rfl,_,_,rfl,rfl,(by rw[jk,if_pos rfl,if_pos rfl,kc,hd];omega),?_⟩;rw[if_pos rfl,if_pos rfl];unfold pj at q;rw[if_neg hpe]at q;exact q
 ·have hp0:p=ε "":=by simpa using c
  subst hp0;refine⟨_,rfl,_,_,rfl,rfl,.inl rfl,by decide,_,_,rfl,rfl,(by decide),_,rfl,_,_,rfl,rfl,(by rw[jk,kc];simp only[ow,if_false];rw[if_neg (by decide)];show 0+0+y.length<=_;omega),?_⟩;unfold pj at q;rw[if_pos (by decide)]at q;simp only[ow,if_false];rw[if_neg (by decide),show ε "" = Str.empty from rfl,eV,eV];exact q
theorem iR{k:Nat}(F:Fun K "need_new_shape" "need_new_shape" yN f fd):j4 ["told","line","name"] (aOp (q0 0) K):=by
 w_cond iC;obtain⟨tl,x,nm,sa,T,rfl,hl,hw,hne,hnm,hlen,q⟩:=h;refine⟨_,(jD (kK (PW.pt (aIp (dD (pv 0) (fun _=>rfl)) (aFf (qT (dD (qD (jH jW (pv 0) (iI cH jC)) rfl) (fun _=>rfl)))))) (jE xY) jP) (jD (kK (nZ lH (pv 2) (qC ["shape"] [] [] rfl (qO (pv 0)) rfl trivial trivial (fun _ _ _ _=>(qN rfl)) (fun _ _ _ _=>qB) (fun _ _ _ _=>(nI (K:=K) rfl (pv 0) rfl))) (by with_unfolding_all rfl)) (jE xY) jP) (jE (kK (jS kW (jK kF rfl M.len ja (jA (pv 0) jB)) (qL (v:=.int 8) rfl C.MOST_SHAPES ⟨_,rfl⟩)) (jE xY) jP)))),?_⟩;have zl:(sa.map V.ref).length=T.length:=by rw[δ];exact hw.1
 refine aPc (fun σ' H'=>σ'=[some (.ref tl),some x,some (.str nm)]/\H'=H) (fun σ' H' z=>?_) (fun nx hnx=>?_)
 ·obtain⟨rfl,rfl⟩:=z;refine⟨_,rfl,_,rfl,tl,rfl,⟨_,SqL.of hl⟩,xW (xs:=sa.map V.ref) (fun j ys H2=>H2=H'/\ys=((T.take j).map (·.1)).map V.str) ⟨rfl,rfl⟩ (fun j ys H2 _ z=>⟨by rw[z.1];exact SqL.of hl,by rw[z.2,δ,δ,Δ];exact jz _ _⟩) (kQ (by omega)) (fun j x ys H2 hx z=>?_) (fun ys H2 z p hp=>?_)⟩
  ·obtain⟨rfl,rfl⟩:=z;obtain⟨s,hs,rfl⟩:=qE hx;obtain⟨sh,hS,dx,t,ps,k1,_⟩:=hw.at hs;refine⟨_,rfl,s,Ve,_,_,_,rfl,k1,Ue.cl,Ue.nd,rfl,⟨rfl,?_⟩,_,rfl⟩;rw[vB hS,χ];rfl
  ·obtain⟨rfl,rfl⟩:=z;clear 1 p H3 g3 k3 hp;refine⟨p,_,rfl,.inl (SqL.of k3),rfl,eO _,_,rfl,?_⟩;rw[if_neg ψ,gY,zl,kO];refine qZ (by rw[decide_eq_false hnm];decide) ⟨_,rfl,tl,_,rfl,.inl (SqL.of (g3 _ _ hl)),rfl,_,rfl,qZ (by rw[zl];simp;omega) (q H3 g3)⟩
 ·rcases yt sa with rfl|⟨sa0,z,rfl⟩
  ·exact⟨_,rfl,false,.inl ⟨_,SqL.of hl,rfl⟩,jU (jU (hnx _ _ ⟨rfl,rfl⟩))⟩
  ·rw[yu]at *;obtain⟨s,hS,so⟩:=hw.at (i:=sa0.length) (a:=z) (by rw[ij (ν _),nr];rfl);obtain⟨dx,t,ps,k1,k2,k3⟩:=so;have hp:ps≠[]:=fun e=>hne s (μ hS) (pe.mp (by rw[←k3.len,e];rfl));exact⟨_,rfl,true,.inl ⟨_,SqL.of hl,by simp⟩,qU rfl ⟨_,rfl,_,rfl,tl,_,_,_,rfl,rfl,SqL.of hl,bI _ _,z,Ve,_,_,_,rfl,k1,Ue.cl,Ue.nd,rfl,true,.inr (.inl ⟨_,k2,by cases ps with|nil=>exact absurd rfl hp|cons _ _=>rfl⟩),jU (hnx _ _ ⟨rfl,rfl⟩)⟩⟩
theorem mS{k:Nat}(F:Fun K "whole_shapes" "whole_shapes" aJ f fd):j4 ["told"] (spWh (q0 0) K):=by
 w_cond nC;obtain⟨tl,z,sa,T,s,rfl,hl,hw,hnd,hlen,q⟩:=h;refine⟨_,(jE (jJ (wX ["shape"] [] [] rfl (qO (vA xC (pv 0) vU (vT (iI cH jC)))) rfl trivial trivial (fun _ _ _ _=>(qN rfl)) (fun _ _ _ _=>qB) (fun _ _ _ _=>(nI (K:=K) rfl (pv 0) rfl)) (fun _ _ _ _=>(pv 0))))),?_⟩;obtain⟨hw0,_⟩:=hw.init;have zl:(sa.map V.ref).length=T.length:=by rw[δ];exact hw0.1
 refine⟨_,rfl,_,rfl,_,rfl,tl,_,rfl,SqL.of hl,fun p hp=>?_⟩;rw[cutC];generalize e2:upd H p _=H2;obtain⟨g2,k2⟩:=qA e2 hp;refine⟨p,rfl,⟨_,SqL.of k2⟩,aEf (xs:=sa.map V.ref) (fun D j ys H'=>jI H2 H'/\H2 D=none/\H' D=some (.dK ys)/\ys=dk (T.take j) (sa.take j)) (fun D hD=>⟨(jI.refl H2).putn hD,hD,jQ,rfl⟩) (fun D j ys H' _ z=>z.1.seq (SqL.of k2)) (fun D j x ys H' hx z=>?_) (fun D ys H' z=>?_)⟩
 ·obtain⟨g,hD,kD,rfl⟩:=z;obtain⟨a,ha,rfl⟩:=qE hx;obtain⟨sh,hS,dx,t,ps,k1,_⟩:=hw0.at ha;have hj:=(η.mp hS).1;have hnk:∀x∈dk (T.take j) (sa.take j),x.1≠(.inr sh.1:Key):=fun x hx e=>by
   obtain⟨u,hu,eu⟩:=aMd x hx;obtain⟨i,hi⟩:=lc.mp hu;have hij:i<j:=by have:=(η.mp hi).1;rw[Δ]at this;omega
   rw[mz hij]at hi;have e2:kL T i=kL T j:=by rw[vF hi,vF hS];exact uo.inj (eu.symm.trans e)
   have:=aJs hnd (η.mp hi).1 hj e2;omega
  refine⟨_,rfl,a,Ve,_,_,_,rfl,g _ _ (g2 _ _ k1),Ue.cl,Ue.nd,rfl,_,rfl,.inr sh.1,rfl,kD,?_,?_⟩
  ·have:(dk (T.take j) (sa.take j)).length<=100:=by unfold dk;rw[List.length_zipWith,Δ];omega
   exact ms this (by decide)
  ·rw[lX hnk];exact⟨⟨g.putn hD,hD,jQ,(aOl hS ha).symm⟩,_,rfl⟩
 ·obtain⟨g,hD,kD,rfl⟩:=z;rw[zl,kO,←hw0.1,kO]at kD;exact q D H' (g2.trans g) (g2.free hD) kD
theorem sC(F:Fun K "need_field" "need_field" cW f fd)(dh:j7 "is_field_line" (spFl K))(dv:j7 "shapes_named" (aEy K))(br:j7 "whole_shapes" (spWh (q0 0) K)):j4 ["told","line","words"] (spNF (q0 0) K):=by
 w_cond xZ;obtain⟨tl,a,z,x,sa,T,s,fn,kd,rfl,hl,hw,hws,hfn,hnew,hs100,hf,hn,hnd,hlen,q⟩:=h;refine⟨_,(jD (kK (PW.pt (xL (qT (dD (pv 0) (fun _=>rfl))) (xX (qT (kZ (jF dh hr (jA (pv 2) jB))))))) (jE xY) jP) (jD (kK (nZ lH (jH jW (pv 2) jC) (qC ["name","kind"] [] [] rfl (fH (qD (jH jW (pv 0) (iI cH jC)) rfl)) rfl trivial trivial (fun _ _ _ _=>(yY (K:=K) (n:=2) rfl rfl (jX (qN rfl) (jX (cP rfl) qH)))) (fun _ _ _ _=>qB) (fun _ _ _ _=>(pv 0))) (by with_unfolding_all rfl)) (jE xY) jP) (jD (jT 3 xZ.nd (jF dv hr (jA (pv 2) jB))) (jD (xG jx rfl (aFq rfl M.enumerate (jA (pv 3) jB)) (xP rfl (jX (kS 4 xZ.nd) (jX (kS 5 xZ.nd) qH))) (jE (kK (nZ lH (pv 5) (vA xC (pv 3) vU (vT (pv 4))) (by with_unfolding_all rfl)) (jE xY) jP))) (jE (xG jx rfl (qO (pv 3)) (kS 5 xZ.nd) (jE (kK (aQi (aGi hr.units1 (pv 5) (jF br hr (jA (pv 0) jB)))) (jE xY) jP)))))))),?_⟩;obtain⟨hw0,dx,t,ps,k1,k2,k3⟩:=hw.init;obtain⟨n1,n4,n2⟩:=aAa hnd hf;have zl:(ps.map V.ref).length=s.2.length:=by rw[δ];exact k3.len
 refine⟨_,rfl,true,.inl ⟨_,SqL.of hl,by simp⟩,jU ⟨_,rfl,a,kL T,T.length,kd,fn,rfl,hws,hfn,hf,hn,fun H1 g1=>⟨_,rfl,jU ?_⟩⟩⟩;refine⟨_,rfl,a,_,_,_,rfl,rfl,g1.seq hws,at0,_,rfl,_,rfl,tl,_,_,_,rfl,rfl,SqL.of (g1 _ _ hl),bI _ _,z,Ve,_,_,_,rfl,(g1 _ _ k1),Ue.cl,Ue.nd,rfl,t,rfl,⟨_,g1.tp k2⟩,zU (xs:=ps.map V.ref) (fun j ys H2=>H2=H1/\ys=((s.2.take j).map (·.1)).map V.str) ⟨rfl,rfl⟩ (fun j ys H2 _ z=>⟨by rw[z.1];exact g1.tp k2,by rw[z.2,δ,δ,Δ];exact jz _ _⟩) (kQ (by omega)) (fun j x ys H2 os ho hx z=>?_) (fun ys H2 z p hp=>?_)⟩
 ·obtain⟨rfl,rfl⟩:=z;obtain⟨o1,o2,rfl⟩:=wK ho;obtain⟨u,hu,rfl⟩:=qE hx;obtain⟨nm',kd',kk,hfs,hq,hko⟩:=k3.get hu;refine⟨u,_,rfl,g1.tp hq,rfl,_,_,rfl,_,_,rfl,rfl,_,rfl,⟨rfl,?_⟩,[_,_],rfl,rfl⟩;rw[vB hfs,χ];rfl
 ·obtain⟨rfl,rfl⟩:=z;clear 1 p H3 g3 k4 hp;refine⟨p,_,rfl,.inl (SqL.of k4),rfl,eO _,_,rfl,?_⟩;rw[if_neg ψ,gY,zl,kO];refine qZ (by rw[decide_eq_false hnew];decide) ⟨_,rfl,a,kL T,T.length,kd,fn,rfl,g3.seq (g1.seq hws),hf,hn,fun l H4 g4 hl4 k5=>?_⟩;have g14:=(g1.trans g3).trans g4;have zn:((Kd.named (kL T) kd).map V.str).length=(Kd.named (kL T) kd).length:=δ _;refine⟨_,rfl,l,_,rfl,SqL.of k5,aBo (xs:=(Kd.named (kL T) kd).map V.str) (fun i σ H'=>∃o4 o5,σ = [some (.ref tl),some x,some (.ref a),some (.ref l),o4,o5]/\jI H4 H') ⟨_,_,rfl,jI.refl _⟩ (fun i σ H' _ z=>?_) (fun i x σ H' p hx z hp=>?_) (fun σ H' z=>?_)⟩
  ·obtain⟨o4,o5,rfl,g⟩:=z;exact g.seq (SqL.of k5)
  ·obtain⟨o4,o5,rfl,g⟩:=z;obtain⟨y,hy,rfl⟩:=bS hx;have g5:=vY hp (.tup [.int (i:Int),.str y]);have k6:upd H' p (.tup [.int (i:Int),.str y]) p=_:=jQ;generalize upd H' p (.tup [.int (i:Int),.str y])=H5 at g5 k6;refine⟨p,_,rfl,SqT.of k6,rfl,_,_,rfl,_,_,rfl,rfl,_,rfl,_,rfl,_,rfl,_,rfl,l,_,rfl,(g.trans g5).seq (SqL.of k5),fun p2 hp2=>?_⟩;rw[cutB];clear 1 p2 H6 g6 k7 hp2;rw[←List.map_take]at k7;refine⟨p2,_,rfl,.inl (SqL.of k7),rfl,eO _,_,rfl,?_⟩;rw[if_neg ψ,gY];refine qZ (fun z=>?_) ⟨_,_,rfl,(g.trans g5).trans g6⟩;have hm:y∈(Kd.named (kL T) kd).take i:=of_decide_eq_true z;obtain⟨j,hj⟩:=lc.mp hm;have hji:j<i:=by have:=(η.mp hj).1;rw[Δ]at this;omega
   rw[mz hji]at hj;obtain⟨a1,b1⟩:=η.mp hj;obtain⟨a2,b2⟩:=η.mp hy;exact qf.mp n1 j i a1 a2 hji (b1.trans b2.symm)
  ·obtain⟨o4,o5,rfl,g⟩:=z;refine⟨_,rfl,l,rfl,⟨_,g.seq (SqL.of k5)⟩,xM (xs:=(Kd.named (kL T) kd).map V.str) (fun i σ H'=>∃o4 o5,σ = [some (.ref tl),some x,some (.ref a),some (.ref l),o4,o5]/\jI H4 H') ⟨_,_,rfl,g⟩ (fun i σ H' _ z=>?_) (fun i x σ H' hx z=>?_) (fun σ H' z=>?_)⟩
   ·obtain⟨o4,o5,rfl,g⟩:=z;exact g.seq (SqL.of k5)
   ·obtain⟨o4,o5,rfl,g⟩:=z;obtain⟨y,hy,rfl⟩:=bS hx;obtain⟨j,hj,rfl⟩:=n2 y (μ hy);have hT:T[j]?=some T[j]:=θ hj;have hsa:sa[j]?=some (sa[j]'(by rw[hw0.1];exact hj)):=θ _;have hv:=aLj hnd hT hsa;rw[←vF hT]at hv;refine⟨_,rfl,_,rfl,tl,z,sa,T,s,rfl,(g14.trans g) _ _ hl,hw.same (g14.trans g),hnd,hlen,fun d H5 g5 hd k6=>⟨d,_,rfl,cF.k (k:=uo (kL T j)) k6,_,rfl,?_⟩⟩;rw[hv];exact qZ (by simp) ⟨_,_,rfl,g.trans g5⟩
   ·obtain⟨o4,o5,rfl,g⟩:=z;exact q H' (g14.trans g)
theorem aCw(F:Fun K "kind_in" "kind_in" iZ f fd)(cw:j7 "kind_in" (aFc (q0 0) K r))(gf:j8 cIu (rW Va "width"))(ak:j8 cIv (rW Vb "shape"))(fq:j8 cIx (spI2 Vc "count" "kind"))(ft:j8 cIy (spIT K Vd "shapes")):j4 ["words","shapes"] (aFc (q0 0) K (r+1)):=by
 w_cond aEc;obtain⟨a,d,kd,sa,T,rfl,hlv,hl,hd,hf,hn,hnd,hsl,q⟩:=h;refine⟨_,(jD (kK (jS kW (jH jW (pv 0) jC) jO) (jE (jJ (yQ Ua gf hr0 rfl qR (jA (qQ bV rfl M.int boot_int (jA (jH jW (pv 0) jC) jB)) jB)))) jP) (jD (kK (jS kW (jH jW (pv 0) jC) jO) (jE (jJ (yQ Uc fq hr0 rfl qR (jA (qQ bV rfl M.int boot_int (jA (jH jW (pv 0) jC) jB)) (jA (jF cw hr (jA (vA xC (pv 0) (vT jC) vU) (jA (pv 1) jB))) jB))))) jP) (jD (kK (jS kW (jH jW (pv 0) jC) jO) (jE (jJ (yQ Ud ft hr0 rfl qR (jA (qC ["name"] ["shapes"] [1] rfl (qO (vA xC (pv 0) (vT jC) vU)) rfl ⟨rfl,trivial⟩ ⟨⟨rfl,rfl,rfl,_,rfl⟩,trivial⟩ (fun _ _ _ _=>(qN rfl)) (fun _ _ _ _=>qB) (fun _ _ _ _=>(iA hr.units1 (pv 1) (pv 0) (fun _ _=>rfl)))) jB)))) jP) (jE (jJ (yQ Ub ak hr0 rfl qR (jA (iA hr.units1 (pv 1) (jH jW (pv 0) jC) (fun _ _=>rfl)) jB))))))),?_⟩;have look:∀i,i<T.length->∃s,sa[i]?=some s/\zX (dk T sa) (.inr (kL T i))=some (.ref s):=fun i hi=>by
  have hT:T[i]?=some T[i]:=θ hi;have hs:sa[i]?=some (sa[i]'(by omega)):=θ _;exact⟨_,hs,by rw[vF hT];exact aLj hnd hT hs⟩
 cases kd with
 |num w =>
  obtain⟨_,d2,_,d4⟩:=dig (w:=w) (by have:=hf.2;omega);exact⟨_,rfl,a,_,_,_,rfl,rfl,hl,rfl,rfl,_,rfl,kR ⟨_,rfl,a,_,_,_,rfl,rfl,hl,rfl,_,_,rfl,d4,by omega,fun x dx hx hdx _=>⟨x,dx,.int w,H,rfl,jQ,bJ hx hdx,hx,fun H1 g1 k1=>⟨rfl,q x H1 g1 (.num k1)⟩⟩⟩⟩
 |nest i =>
  have hx:=hn i hf;obtain⟨s,hs,hv⟩:=look i hf;exact⟨_,rfl,a,_,_,_,rfl,rfl,hl,rfl,rfl,_,rfl,qZ (by simpa using cL hx (y:="num") (by decide)) ⟨_,rfl,a,_,_,_,rfl,rfl,hl,rfl,rfl,_,rfl,qZ (by simpa using cL hx (y:="row") (by decide)) ⟨_,rfl,a,_,_,_,rfl,rfl,hl,rfl,rfl,_,rfl,qZ (by simpa using cL hx (y:="pick") (by decide)) ⟨_,rfl,_,rfl,a,_,_,_,rfl,rfl,hl,rfl,d,.ref s,rfl,(by rw[←hv];exact cF.k (k:=uo (kL T i)) hd),fun x dx hx hdx _=>⟨x,dx,.ref s,H,rfl,jQ,bJ hx hdx,hx,fun H1 g1 k1=>⟨rfl,q x H1 g1 (.nest hs k1)⟩⟩⟩⟩⟩⟩
 |many m k =>
  obtain⟨_,d2,_,d4⟩:=dig (w:=m) (by have:=hf.2.1;omega);have hl':SqL K H a (V.str (ε "row")::V.str (ε (toString (m:Int)))::(k.words (kL T)).map V.str):=hl;refine⟨_,rfl,a,_,_,_,rfl,rfl,hl',at0,rfl,_,rfl,jU ⟨_,rfl,a,_,_,_,rfl,rfl,hl',at0,rfl,_,rfl,kR ⟨_,rfl,a,_,_,_,rfl,rfl,hl',at1,_,_,rfl,d4,by omega,_,rfl,_,rfl,a,_,rfl,hl',fun p hp=>?_⟩⟩⟩;rw[aPb];clear 1 p H1 g1 k1 hp;have hlk:k.lv=0:=by rcases hf.2.2 with⟨w,rfl,_⟩|⟨i,rfl,_⟩ <;> rfl
  refine⟨_,rfl,p,d,k,sa,T,rfl,(by rw[hlk];have : 1<r+1:=hlv;omega),SqL.of k1,g1 _ _ hd,hf.sub,hn,hnd,hsl,fun b H2 g2 ko=>?_⟩;exact fun x dx hx hdx _=>⟨x,dx,.int m,.ref b,H2,rfl,jQ,bJ hx hdx,hx,fun H3 g3 k3=>⟨rfl,q x H3 ((g1.trans g2).trans g3) (.many k3 (ko.same g3))⟩⟩
 |pick is =>
  have hl':SqL K H a (V.str (ε "pick")::(is.map (kL T)).map V.str):=hl;have h2:=hf.2.1;have zl:((is.map (kL T)).map V.str).length=is.length:=by rw[δ,δ]
  refine⟨_,rfl,a,_,_,_,rfl,rfl,hl',at0,rfl,_,rfl,jU ⟨_,rfl,a,_,_,_,rfl,rfl,hl',at0,rfl,_,rfl,jU ⟨_,rfl,a,_,_,_,rfl,rfl,hl',at0,rfl,_,rfl,kR ⟨_,rfl,_,rfl,a,_,rfl,hl',fun p hp=>?_⟩⟩⟩⟩;rw[aBf];clear 1 p H1 g1 k1 hp;refine⟨p,rfl,⟨_,SqL.of k1⟩,xW (xs:=(is.map (kL T)).map V.str) (fun j ys H'=>H'=H1/\∃ss:List Addr,ys=ss.map V.ref/\ss.length=j/\∀(b i:Nat) (s:Addr),is[b]?=some i->ss[b]?=some s->sa[i]?=some s) ⟨rfl,[],rfl,rfl,fun b i s _ z=>by simp at z⟩ (fun j ys H' _ z=>?_) (kQ (by omega)) (fun j x ys H' hx z=>?_) (fun ys H' z p2 hp2=>?_)⟩
  ·obtain⟨rfl,ss,rfl,hss,_⟩:=z;exact⟨SqL.of k1,by rw[δ];omega⟩
  ·obtain⟨rfl,ss,rfl,hss,hall⟩:=z;obtain⟨y,hy,rfl⟩:=bS hx;rw[iq]at hy;cases e:is[j]? with
   |none=>rw[e]at hy;cases hy
   |some i =>
    rw[e]at hy;cases hy;obtain⟨s,hs,hv⟩:=look i (hf.2.2.2 i (μ e));refine⟨_,rfl,_,rfl,d,.ref s,rfl,(by rw[←hv];exact cF.k (k:=uo (kL T i)) (g1 _ _ hd)),⟨rfl,ss++[s],by rw[χ];rfl,by rw[ι,hss];rfl,fun b i' s' hb1 hb2=>?_⟩,_,rfl⟩;rcases bT hb2 with hb2|⟨eb,es⟩
    ·exact hall b i' s' hb1 hb2
    ·rw[eb,hss,e]at hb1;cases hb1;rw[es];exact hs
  ·obtain⟨rfl,ss,rfl,hss,hall⟩:=z;clear 1 p2 H2 g2 k2 hp2;exact fun x dx hx hdx _=>⟨x,dx,p2,_,H2,rfl,jQ,bJ hx hdx,hx,SqL.of k2,fun t H3 g3 k3 k4=>⟨rfl,q x H3 ((g1.trans g2).trans g3) (.pick k3 k4 (by rw[hss,zl]) hall)⟩⟩
theorem oJ(F:Fun K "is_too_much" "is_too_much" aY f fd)(aw:j9 Ve "size" (mH (q0 0) K r sSz))(dz:j9 Ve "units" (aPl (q0 0) K r))(au:j9 Ve "depth" (mH (q0 0) K r sDp)):j4 ["shape"] (spTM (q0 0) K r):=by
 w_cond pO;obtain⟨a,i,sa,S,rfl,e,hi,h8,hw,hg,⟨b1,b2,b3⟩,q⟩:=h;refine⟨_,(jD (kK (PW.pt (xL (jS fC (jK kF rfl M.len ja (jA (qD (pv 0) rfl) jB)) (qL (v:=.int 6) rfl C.MOST_FIELDS ⟨_,rfl⟩)) (xX (jS fC (yA (pv 0) Ue.cl aw hr qR) (qL (v:=.int 64) rfl C.MOST_CELLS ⟨_,rfl⟩))))) (jE (jJ yJ)) jP) (jE (jJ (pe_or (qK fC (jK kF rfl M.len ja (jA (yA (pv 0) Ue.cl dz hr qR) jB)) (qL (v:=.int 40) rfl C.MOST_UNITS ⟨_,rfl⟩) (vG _)) (xI (qK fC (yA (pv 0) Ue.cl au hr qR) (qL (v:=.int 4) rfl C.MOST_DEPTH ⟨_,rfl⟩) (vG _))))))),?_⟩;obtain⟨s,hS,dx,t,ps,k1,k2,k3⟩:=hw.at e;have h6:=hg.few i s hS;have zl:(ps.map V.ref).length=s.2.length:=by rw[δ];exact k3.len
 refine⟨_,rfl,a,Ve,_,_,_,rfl,k1,Ue.cl,Ue.nd,rfl,t,_,rfl,.inr k2,_,_,rfl,rfl,_,rfl,qZ (by rw[zl];simp;omega) ⟨_,rfl,a,dx,_,rfl,k1,rfl,a,i,sa,S,rfl,e,(by omega),hw,hg,fun H1 g1=>⟨_,_,rfl,rfl,_,rfl,qZ (by have:sSz i (tabs S)<=64:=b1;simp;omega) ?_⟩⟩⟩;refine⟨_,rfl,a,dx,_,rfl,g1 _ _ k1,rfl,a,i,sa,S,rfl,e,hi,h8,hw.same g1,hg,fun l H2 g2 hl ⟨us,ku,ur⟩=>⟨l,_,rfl,.inl (SqL.of ku),_,_,rfl,rfl,_,rfl,qZ (by rw[δ,ur.len];simp;omega) ?_⟩⟩;refine⟨_,rfl,a,dx,_,rfl,g2 _ _ (g1 _ _ k1),rfl,a,i,sa,S,rfl,e,(by omega),hw.same (g1.trans g2),hg,fun H3 g3=>⟨_,_,rfl,rfl,?_⟩⟩
 (try dsimp only)
 rw[decide_eq_false (by have:sDp i (tabs S)<=4:=b3;omega)];exact q H3 ((g1.trans g2).trans g3)
theorem sL(F:Fun K "with_field" "with_field" cD f fd)(cw:j7 "kind_in" (aFc (q0 0) K 2))(br:j7 "whole_shapes" (spWh (q0 0) K))(bz:j8 cIz (aJw (q0 0) K))(eh:j7 "is_too_much" (spTM (q0 0) K r)):j4 ["told","line","words"] (spWF (q0 0) K r):=by
 w_cond aX;obtain⟨tl,a,z,x,sa,T,s,fn,kd,rfl,hl,hw,hws,hf,hn,hnd,hlen,hr1,h8,hs50,hg,hb,q⟩:=h;refine⟨_,(jD (jT 3 aX.nd (jF cw hr (jA (vA xC (pv 2) (vT jC) vU) (jA (jF br hr (jA (pv 0) jB)) jB)))) (jD (jT 4 aX.nd (yQ Ue bz hr0 rfl qR (jA (qD (jH jW (pv 0) (iI cH jC)) rfl) (jA (jY aJo (qD (jH jW (pv 0) (iI cH jC)) rfl) (kT (jA (kT (jA (jH jW (pv 2) jC) (jA (pv 3) jB))) jB))) jB)))) (jD (kK (kZ (jF eh hr (jA (pv 4) jB))) (jE xY) jP) (jE (jJ (pv 4)))))),?_⟩;obtain⟨hw0,dx,t,ps,k1,k2,k3⟩:=hw.init;refine⟨_,rfl,_,rfl,a,_,rfl,hws,fun p hp=>?_⟩;rw[show aK ((fn::kd.words (kL T)).map V.str) (some 1) none=(kd.words (kL T)).map V.str from aBf _ _];clear 1 p H1 g1 kp hp;refine⟨_,rfl,tl,z,sa,T,s,rfl,g1 _ _ hl,hw.same g1,hnd,hlen,fun d H2 g2 hd kd2=>?_⟩;refine⟨p,d,kd,sa,T,rfl,(by cases kd <;> simp[Kd.lv]),g2.seq (SqL.of kp),kd2,hf,hn,hnd,hw0.1,fun k H3 g3 ko=>?_⟩;have g13:=(g1.trans g2).trans g3;refine⟨_,rfl,_,rfl,tl,_,_,_,rfl,rfl,SqL.of (g13 _ _ hl),bI _ _,z,Ve,_,_,_,rfl,(g13 _ _ k1),Ue.cl,Ue.nd,rfl,_,rfl,_,rfl,tl,_,_,_,rfl,rfl,SqL.of (g13 _ _ hl),bI _ _,z,Ve,_,_,_,rfl,(g13 _ _ k1),Ue.cl,Ue.nd,rfl,_,rfl,a,_,_,_,rfl,rfl,g13.seq hws,at0,_,rfl,xD,fun u hu=>?_⟩;clear 1 u H4 g4 k4 hu;refine⟨aV,fun v hv=>?_⟩;clear 1 v H5 g5 k5 hv;have hps:ps.length=s.2.length:=k3.len;refine⟨t,v,ps.map V.ref,[.ref u],rfl,rfl,(g4.trans g5).tp (g13.tp k2),SqT.of k5,(by simp),(by rw[jk,δ];simp;omega),fun fl H6 g6 hfl=>?_⟩;have g36:=(g4.trans g5).trans g6;refine fun y dy hy hdy _=>⟨y,dy,fl,s.1,ps++[u],s.2++[(fn,kd)],sa,H6,rfl,jQ,bJ hy hdy,hy,.inr (by rw[χ];exact hfl),(k3.same (g13.trans g36)).snoc ((g5.trans g6).tp (SqT.of k4)) (ko.same g36),(by rw[ι];show s.2.length+1<=100;omega),fun t' ps' H7 g7 k7 st fo=>⟨rfl,?_⟩⟩;have gA:=(g13.trans g36).trans g7;have so:SO (q0 0) K H7 sa y (s.1,s.2++[(fn,kd)]):=⟨dy,t',ps',k7,st,fo⟩;have hsw:=(hw0.same gA).snoc so;have hsl:sa.length=T.length:=hw0.1;exact⟨_,rfl,y,T.length,sa++[y],_,rfl,(by rw[←hsl,ij (ν _),nr];rfl),hr1,h8,hsw,hg,hb,fun H8 g8=>⟨_,rfl,jU ⟨_,rfl,q y H8 (gA.trans g8) (so.same g8)⟩⟩⟩
theorem oV{k r:Nat}(F:Fun K "read_shapes" "read_shapes" aW f fd)(di:j7 "is_shape_line" (aOy K))(de:j7 "need_new_shape" (aOp (q0 0) K))(bz:j8 cIz (aJw (q0 0) K))(fg:j7 "need_field" (spNF (q0 0) K))(fh:j7 "with_field" (spWF (q0 0) K r))(eo:j8 cIw (spIT K Vf "shapes")):j4 ["text"] (spRd (q0 0) Vf K r):=by
 w_cond vZ;obtain⟨S,rfl,hW,hne,hr12,h8,q⟩:=h;refine⟨_,(jD (kK (qT (kZ (jK oQ rfl M.isinstance jd (jA (pv 0) (jA (vI (v:=.ty "str") rfl M.str boot_str rfl) jB))))) (jE xY) jP) (jD (jT 1 vZ.nd (zP se PySem.F.slot_str_split PySem.F.type_str_split tE (pv 0) (jA jO jB))) (jD (jT 2 vZ.nd (kU jB)) (jD (xG jx rfl (aFq rfl M.enumerate (jA (pv 1) jB)) (xP rfl (jX (kS 3 vZ.nd) (jX (kS 4 vZ.nd) qH))) (jD (jT 5 vZ.nd (zP se PySem.F.slot_str_split PySem.F.type_str_split tE (pv 4) (jA jO jB))) (jE (kK (kZ (jF di hr (jA (pv 5) jB))) (jD (vO (jF de hr (jA (pv 2) (jA (pv 3) (jA (jH jW (pv 5) jC) jB))))) (jE (vO (zP jq mj mm yD (pv 2) (jA (yQ Ue bz hr0 rfl qR (jA (jH jW (pv 5) jC) (jA (kU jB) jB))) jB))))) (jD (vO (jF fg hr (jA (pv 2) (jA (pv 3) (jA (pv 5) jB))))) (jE (bY (jF fh hr (jA (pv 2) (jA (pv 3) (jA (pv 5) jB)))) (dQ (pv 2) (iI cH jC) set_list)))))))) (jD (kK (qT (dD (qD (jH jW (pv 2) (iI cH jC)) rfl) (fun _=>rfl))) (jE xY) jP) (jE (jJ (yQ Uf eo hr0 rfl qR (jA (pv 2) jB))))))))),?_⟩;obtain⟨h30,hrow,htl,hsp⟩:=aLi hW hne;have hok:=aFz hW;refine⟨_,rfl,_,_,"str",rfl,by decide,rfl,_,rfl,jU ⟨_,rfl,rfl,_,_,rfl,rfl,rfl,(by rw[jk];omega),fun p hp=>?_⟩⟩;rw[show qk (txt S) (ε "\n")=_ from hsp];clear 1 p H1 g1 k1 hp;refine⟨bH,fun tl hq=>?_⟩;clear 1 tl H2 g2 k2 hq;have hq0:H tl=none:=g1.free hq;have npt:p≠tl:=jL k1 hq;have k12:=g2 _ _ k1;have zl:(((vH S).map fun it=>jo spS (it.line (kL S))).map V.str).length=(vH S).length:=by rw[δ,δ]
 refine⟨_,rfl,p,_,rfl,SqL.of k12,aBo (xs:=((vH S).map fun it=>jo spS (it.line (kL S))).map V.str) (fun i σ H'=>∃(o3 o4 o5:Option V) (sa:List Addr) (T:List Shp),σ = [some (.str (txt S)),some (.ref p),some (.ref tl),o3,o4,o5]/\But tl H2 H'/\H' tl=some (.lst (sa.map V.ref))/\SW (q0 0) K H' sa T/\mY S i T) ⟨_,_,_,[],[],rfl,But.refl,k2,SW.nil,mY.start S⟩ (fun i σ H' _ z=>?_) (fun i x σ H' p2 hx z hp2=>?_) (fun σ H' z=>?_)⟩
 ·obtain⟨o3,o4,o5,sa,T,rfl,g,_⟩:=z;exact SqL.of (g _ _ npt k12)
 ·obtain⟨o3,o4,o5,sa,T,rfl,g,kl,hw,hst⟩:=z;obtain⟨row,hrw,rfl⟩:=bS hx;rw[iq]at hrw;cases eit:(vH S)[i]? with
  |none=>rw[eit]at hrw;cases hrw
  |some it =>
  rw[eit]at hrw;cases hrw;have hit:=μ eit;obtain⟨r100,rsp⟩:=hrow it hit;obtain⟨ok1,ok2,ok3⟩:=hok it hit;obtain⟨S1,s,S2,eS,hnx⟩:=hst.next (η.mp eit).1;clear 1 p2 H3 g3 k3 hp2;refine⟨p2,_,rfl,SqT.of k3,rfl,_,_,rfl,_,_,rfl,rfl,_,rfl,rfl,_,_,rfl,rfl,rfl,(by rw[jk];show(jo L2.spS (it.line (kL S))).length+2<=_;omega),fun wa hwa=>?_⟩;rw[show qk (jo spS (it.line (kL S))) (ε " ")=_ from rsp];clear 1 wa H4 g4 k4 hwa;have g34:=g3.trans g4;refine⟨_,rfl,wa,it.line (kL S),rfl,⟨SqL.of k4,fun w hw=>by have:=(ok1 w hw).2;omega,by omega⟩,fun H5 g5=>⟨_,rfl,?_⟩⟩;have g35:=g34.trans g5;have kl5:=g35 _ _ kl;have hw5:=hw.same g35;have kw5:=g5 _ _ k4;have hsS:s∈S:=by rw[eS];exact jh _ (Ω ..)
  have hS1:∀t∈S1,t∈S:=fun t ht=>by rw[eS];exact nv _ ht
  have hlen:=hW.len;have hnd1:(S1.map (·.1)).Nodup/\s.1∉S1.map (·.1):=by
   have:=hW.nd;rw[eS,χ,ym]at this;exact⟨this.1,fun z=>this.2.2 _ z _ (Ω ..) rfl⟩
  have hl1:S1.length<5:=by rw[eS,ι,ii]at hlen;omega
  rcases hnx with⟨ei,rfl,hst2⟩|⟨f1,n,kd,f2,ef,ei,rfl,hst2⟩
  ·rw[eit]at ei;cases ei;have hnm:=hW.nm s hsS;have hws:SqL K H5 wa [V.str (ε "shape"),V.str s.1]:=SqL.of kw5;refine qU (by show(decide (ε "shape" = ε "shape")&&kY s.1)=true;rw[hnm];decide) ⟨_,rfl,_,rfl,_,rfl,wa,_,_,_,rfl,rfl,hws,rfl,tl,_,s.1,sa,T,rfl,kl5,hw5,(fun t ht=>?_),hnd1.2,by omega,fun H6 g6=>?_⟩
   ·obtain⟨j,hj⟩:=lc.mp ht;exact hW.good.ne j t (by rw[eS,iz (η.mp hj).1];exact hj)
   have kl6:=g6 _ _ kl5;refine⟨_,rfl,.inl ⟨rfl,_,SqL.of kl6⟩,_,rfl,wa,_,_,_,rfl,rfl,g6.seq hws,rfl,bH,fun el hel=>?_⟩;clear 1 el H7 g7 k7 hel;refine fun y dy hy hdy _=>⟨y,dy,el,s.1,[],[],sa,H7,rfl,jQ,bJ hy hdy,hy,.inl (SqL.of k7),.nil,by decide,fun t ps' H8 g8 k8 st fo=>⟨rfl,?_⟩⟩;have g58:=(g6.trans g7).trans g8;have kl8:=g58 _ _ kl5;have hsl:=hw.1;refine⟨tl,_,_,rfl,rfl,kl8,(by rw[δ];exact ms (show sa.length<=5 by omega) (by decide)),?_⟩;clear 0 tl H9 g9 k9;exact⟨_,_,_,sa++[y],_,rfl,(g.trans (But.of (g35.trans g58))).trans g9,by rw[χ];exact k9,((hw5.same g58).snoc (s:=(s.1,[])) ⟨dy,t,ps',k8,st,fo⟩).but g9 kl8,hst2⟩
  ·rw[eit]at ei;cases ei;obtain⟨sa0,z,rfl⟩:=aFb hw.1;have hfm:(n,kd)∈s.2:=by rw[ef];exact jh _ (Ω ..)
   have hnm:=hW.fnm s hsS _ hfm;have hi1:S[S1.length]?=some s:=by rw[eS,ij (ν _),nr];rfl
   have hfit:=(hW.good.fit _ _ hi1 _ hfm).1;have hns:NOk (kL S1) S1.length:=aCy fun t ht=>hW.nm t (hS1 t ht);have ew:kd.words (kL S)=kd.words (kL S1):=mI (fun j hj=>by rw[eS];exact aJf hj) hfit.below;have hws:SqL K H5 wa ((n::kd.words (kL S1)).map V.str):=by rw[←ew];exact SqL.of kw5
   obtain⟨pg,pb,p5⟩:=hW.pre (f1:=f1++[(n,kd)]) (f2:=f2) eS (by rw[ef,mi];rfl) (by simp);rw[ι,ki]at p5;have hfn:n∉f1.map (·.1):=fun z=>by
    have:=hW.fnd s hsS;rw[ef,χ,ym]at this;exact this.2.2 _ z _ (Ω ..) rfl
   refine qZ (by rw[show aAp ((Itm.fd n kd).line (kL S))=false from aNf hnm];decide) ⟨_,rfl,_,rfl,_,rfl,tl,wa,z,_,sa0,S1,(s.1,f1),n,kd,rfl,kl5,hw5,hws,hnm,hfn,(by show f1.length<=100;omega),hfit,hns,hnd1.1,by omega,fun H6 g6=>?_⟩;refine⟨_,rfl,_,rfl,_,rfl,tl,wa,z,_,sa0,S1,(s.1,f1),n,kd,rfl,g6 _ _ kl5,hw5.same g6,g6.seq hws,hfit,hns,hnd1.1,by omega,by omega,h8,(by show f1.length<=50;omega),pg,pb,fun y H7 g7 so=>?_⟩;have g57:=g6.trans g7;have kl7:=g57 _ _ kl5;refine⟨_,rfl,_,rfl,tl,_,_,_,rfl,rfl,kl7,aHz _ _,?_⟩;rw[aIm];clear 0 tl H9 g9 k9;exact⟨_,_,_,sa0++[y],_,rfl,(g.trans (But.of (g35.trans g57))).trans g9,k9,((hw5.init.1.same g57).snoc so).but g9 kl7,hst2⟩
 ·obtain⟨o3,o4,o5,sa,T,rfl,g,kl,hw,hst⟩:=z;rw[zl]at hst;have eT:=hst.done;subst eT;have gH:jI H H':=But.from (g1.trans g2) hq0 g;rcases yt T with rfl|⟨T0,s,rfl⟩
  ·exact absurd rfl hne
  ·rw[yu]at *;obtain⟨sa0,z,rfl⟩:=aFb hw.1;obtain⟨hw0,dx,t,ps,m1,m2,m3⟩:=hw.init;have hs:=hW.good.ne T0.length s (by rw[ij (ν _),nr];rfl);have hps:ps≠[]:=fun e=>hs (pe.mp (by rw[←m3.len,e];rfl));refine⟨_,rfl,_,rfl,tl,_,_,_,rfl,rfl,SqL.of kl,bI _ _,z,Ve,_,_,_,rfl,m1,Ue.cl,Ue.nd,rfl,true,.inr (.inl ⟨_,m2,by cases ps with|nil=>exact absurd rfl hps|cons _ _=>rfl⟩),jU ⟨_,rfl,?_⟩⟩;exact fun y dy hy hdy _=>⟨y,dy,tl,_,H',rfl,jQ,bJ hy hdy,hy,SqL.of kl,fun t H3 g3 k3 k4=>⟨rfl,q y dy t _ H3 (gH.trans g3) k3 k4 (hw.same g3)⟩⟩
theorem aCd{k r:Nat}(F:Fun K "_law_size" "_law_size" fJ f fd)(ar:j7 "_law_size" (tU K vSz r)):j4 ["_law_kind_here","_law_shapes_here"] (tU K vSz (r+1)):=by
 w_cond wV;obtain⟨a,sl,kd,S,rfl,hk,hv,hf,hlk,hlx,hg,q⟩:=h;refine⟨_,(jD (kK (jS kW (jH jV (pv 0) jC) jO) (jE (jJ (jH jV (pv 0) jC))) jP) (jD (kK (jS kW (jH jV (pv 0) jC) jO) (jE (jJ (jY zL (jH jV (pv 0) jC) (jF ar hr (jA (jH jV (pv 0) jC) (jA (pv 1) jB)))))) jP) (jD (kK (jS kW (jH jV (pv 0) jC) jO) (jE (jJ (jY qJ jC (jK (zV rfl) rfl M.max boot_max (jA (qC ["_law_at"] ["_law_shapes_here"] [1] rfl (qO (jH jV (pv 0) jC)) rfl ⟨rfl,trivial⟩ ⟨⟨rfl,rfl,rfl,_,rfl⟩,trivial⟩ (fun _ _ _ _=>(qN rfl)) (fun _ _ _ _=>qB) (fun _ _ _ _=>(jF ar hr (jA (kT (jA jO (jA (pv 0) jB))) (jA (pv 1) jB))))) jB))))) jP) (jE (jJ (jK (aCe rfl) rfl M.sum (show lm "sum" = some (.builtin "sum") from by ac_rfl) (jA (qC ["_law_name","_law_inner"] ["_law_shapes_here"] [1] rfl (qO (jH jV (jH jW (pv 1) (jH jV (pv 0) jC)) jC)) rfl ⟨rfl,trivial⟩ ⟨⟨rfl,rfl,rfl,_,rfl⟩,trivial⟩ (fun _ _ _ _=>(yY (K:=K) (n:=2) rfl rfl (jX (qN rfl) (jX (cP rfl) qH)))) (fun _ _ _ _=>qB) (fun _ _ _ _=>(jF ar hr (jA (pv 1) (jA (pv 2) jB))))) jB))))))),?_⟩;have back : 1<=r->∃r',r=r'+1:=fun h=>⟨r-1,by omega⟩;cases id hlk with
 | @num a w h1=>exact⟨_,rfl,a,_,_,_,rfl,rfl,h1,rfl,rfl,_,rfl,kR ⟨_,rfl,a,_,_,_,rfl,rfl,h1,rfl,q _ (jI.refl _)⟩⟩
 | @many a b n k h1 h2 =>
  have hv' : 1<=r:=hv;obtain⟨r,rfl⟩:=back hv';have hlv:k.lv=0:=by rcases hf.2.2 with⟨w,rfl,_⟩|⟨i,rfl,_⟩ <;> rfl
  refine⟨_,rfl,a,_,_,_,rfl,rfl,h1,rfl,rfl,_,rfl,jU ⟨_,rfl,a,_,_,_,rfl,rfl,h1,rfl,rfl,_,rfl,kR ⟨_,rfl,a,_,_,_,rfl,rfl,h1,rfl,_,rfl,a,_,_,_,rfl,rfl,h1,rfl,_,rfl,b,sl,k,S,rfl,hk.sub,(by omega),hf.sub,h2,hlx,hg,fun H' g=>?_⟩⟩⟩;refine⟨_,_,rfl,rfl,.inl ⟨by have:=hf.2.1;omega,by have:=hf.2.1;omega⟩,?_⟩;have q':=q H' g;rw[show vSz (Kd.many n k) (tabs S)=n*vSz k (tabs S) from rfl,Int.natCast_mul]at q';exact q'
 | @pick a l is h1 h2 =>
  have hs:=hf.1;have hs4:=hf.2.1;have hne:is≠[]:=fun z=>by rw[z]at hs;exact absurd hs (by decide)
  have hr3 : 3<=r:=by
   cases is with
   |nil=>exact absurd rfl hne
   |cons i _=>have:=hk i (Ω ..);omega
  obtain⟨r,rfl⟩:=back (by omega);have zl:(is.map fun n:Nat=>V.int n).length=is.length:=δ _;refine⟨_,rfl,a,_,_,_,rfl,rfl,h1,rfl,rfl,_,rfl,jU ⟨_,rfl,a,_,_,_,rfl,rfl,h1,rfl,rfl,_,rfl,jU ⟨_,rfl,a,_,_,_,rfl,rfl,h1,rfl,rfl,_,rfl,kR ⟨_,rfl,a,_,_,_,rfl,rfl,h1,rfl,l,rfl,⟨_,h2⟩,xW (xs:=is.map fun n:Nat=>V.int n) (fun j ys H'=>jI H H'/\ys=((is.take j).map fun i=>V.int (vSz (.nest i) (tabs S)))) ⟨jI.refl _,rfl⟩ (fun j ys H' _ z=>⟨z.1.seq h2,by rw[z.2,δ,Δ];exact jz _ _⟩) (kQ (by omega)) (fun j x ys H' hx z=>?_) (fun ys H' z p hp=>?_)⟩⟩⟩⟩
  ·obtain⟨g,rfl⟩:=z;obtain⟨i,hi,rfl⟩:=oU hx;have him:=μ hi;refine⟨_,rfl,xD,fun t ht=>?_⟩;clear 1 t H3 g3 k3 ht;exact⟨_,rfl,t,sl,.nest i,S,rfl,(by have:=hk i him;show 2*i+2<=r;omega),iy _,hf.2.2.2 i him,.nest (SqT.of k3),hlx.same (g.trans g3),hg,fun H4 g4=>⟨⟨(g.trans g3).trans g4,(vB hi).symm⟩,_,rfl⟩⟩
  ·obtain⟨g,rfl⟩:=z;have g2:=vY hp (.lst ((is.take (is.map fun n:Nat=>V.int n).length).map fun i=>V.int (vSz (.nest i) (tabs S))));have kp:upd H' p (.lst ((is.take (is.map fun n:Nat=>V.int n).length).map fun i=>V.int (vSz (.nest i) (tabs S)))) p=some (.lst (((is.map fun i=>vSz (.nest i) (tabs S)).map fun n:Nat=>(n:Int)).map V.int)):=by
    rw[jQ,zl,kO,jw,jw];rfl
   have q':=q _ (g.trans g2);refine⟨p,(is.map fun i=>vSz (.nest i) (tabs S)).map fun n:Nat=>(n:Int),rfl,SqL.of kp,(by simpa using hne),fun m h5 h6=>?_⟩;rw[aHn h5 h6];refine⟨_,_,rfl,rfl,?_⟩;rw[show vSz (Kd.pick is) (tabs S)=1+xE (is.map fun i=>vSz (.nest i) (tabs S)) from rfl,vb]at q';exact q'
 | @nest a i h1 =>
  have hi:i<S.length:=hf;have hr2 : 2*i+2<=r:=hk;obtain⟨r,rfl⟩:=back (by omega);obtain⟨as,s,l,ps,m1,m2,m3,m4,m5⟩:=hlx.at hi;have hS:S[i]?=some S[i]:=θ hi;have hfit:=hg.fit i _ hS;have htab:=gR hS fun f hf=>(hfit f hf).1.below;have zl:(ps.map V.ref).length=S[i].2.length:=by rw[δ];exact m5.len
  refine⟨_,rfl,a,_,_,_,rfl,rfl,h1,rfl,rfl,_,rfl,jU ⟨_,rfl,a,_,_,_,rfl,rfl,h1,rfl,rfl,_,rfl,jU ⟨_,rfl,a,_,_,_,rfl,rfl,h1,rfl,rfl,_,rfl,jU ⟨_,rfl,_,rfl,a,_,_,_,rfl,rfl,h1,rfl,sl,_,_,_,rfl,rfl,m1,xR m2,s,_,_,_,rfl,rfl,m3,rfl,l,rfl,⟨_,m4⟩,fE (xs:=ps.map V.ref) (fun j ys H'=>jI H H'/\ys=((S[i].2.take j).map fun f=>V.int (vSz f.2 (tabs S)))) ⟨jI.refl _,rfl⟩ (fun j ys H' _ z=>⟨z.1.seq m4,by rw[z.2,δ,Δ];exact jz _ _⟩) (kQ (by have:=hg.few i _ hS;omega)) (fun j x ys H' os ho hx z=>?_) (fun ys H' z p hp=>?_)⟩⟩⟩⟩
  ·obtain⟨g,rfl⟩:=z;obtain⟨o1,o2,rfl⟩:=wK ho;obtain⟨u,hu,rfl⟩:=qE hx;obtain⟨nm',kd',kk,hfs,ht,hko⟩:=m5.get hu;have hm:=hfit _ (μ hfs);exact⟨u,_,rfl,g.tp ht,rfl,_,_,rfl,_,_,rfl,rfl,_,rfl,_,rfl,kk,sl,kd',S,rfl,hm.1.rk.mono (by omega),(by have:=kd'.lv_le;omega),hm.1.mono (pk hi),hko.same g,hlx.same g,hg,fun H2 g2=>⟨⟨g.trans g2,(vB hfs).symm⟩,[_,_],rfl,rfl⟩⟩
  ·obtain⟨g,rfl⟩:=z;have g2:=vY hp (.lst ((S[i].2.take (ps.map V.ref).length).map fun f=>V.int (vSz f.2 (tabs S))));have kp:upd H' p (.lst ((S[i].2.take (ps.map V.ref).length).map fun f=>V.int (vSz f.2 (tabs S)))) p=some (.lst (((S[i].2.map fun f=>vSz f.2 (tabs S)).map fun n:Nat=>(n:Int)).map V.int)):=by
    rw[jQ,zl,kO,jw,jw];rfl
   have q':=q _ (g.trans g2);refine⟨p,(S[i].2.map fun f=>vSz f.2 (tabs S)).map fun n:Nat=>(n:Int),rfl,SqL.of kp,?_⟩;rw[sumI];rw[show vSz (.nest i) (tabs S)=(S[i].2.map fun f=>vSz f.2 (tabs S)).sum from htab.1]at q';exact q'
theorem uA(F:Fun K "_law_depth" "_law_depth" eA f fd)(az:j7 "_law_depth" (tU K vDp r)):j4 ["_law_kind_here","_law_shapes_here"] (tU K vDp (r+1)):=by
 w_cond wN;obtain⟨a,sl,kd,S,rfl,hk,hv,hf,hlk,hlx,hg,q⟩:=h;refine⟨_,(jD (kK (jS kW (jH jV (pv 0) jC) jO) (jE (jJ jC)) jP) (jD (kK (jS kW (jH jV (pv 0) jC) jO) (jE (jJ (jF az hr (jA (jH jV (pv 0) jC) (jA (pv 1) jB))))) jP) (jD (kK (jS kW (jH jV (pv 0) jC) jO) (jE (jJ (jK (zV rfl) rfl M.max boot_max (jA (qC ["_law_at"] ["_law_shapes_here"] [1] rfl (qO (jH jV (pv 0) jC)) rfl ⟨rfl,trivial⟩ ⟨⟨rfl,rfl,rfl,_,rfl⟩,trivial⟩ (fun _ _ _ _=>(qN rfl)) (fun _ _ _ _=>qB) (fun _ _ _ _=>(jF az hr (jA (kT (jA jO (jA (pv 0) jB))) (jA (pv 1) jB))))) jB)))) jP) (jE (jJ (jY qJ jC (jK (zV rfl) rfl M.max boot_max (jA (qC ["_law_name","_law_inner"] ["_law_shapes_here"] [1] rfl (qO (jH jV (jH jW (pv 1) (jH jV (pv 0) jC)) jC)) rfl ⟨rfl,trivial⟩ ⟨⟨rfl,rfl,rfl,_,rfl⟩,trivial⟩ (fun _ _ _ _=>(yY (K:=K) (n:=2) rfl rfl (jX (qN rfl) (jX (cP rfl) qH)))) (fun _ _ _ _=>qB) (fun _ _ _ _=>(jF az hr (jA (pv 1) (jA (pv 2) jB))))) jB)))))))),?_⟩;have back : 1<=r->∃r',r=r'+1:=fun h=>⟨r-1,by omega⟩;cases id hlk with
 | @num a w h1=>exact⟨_,rfl,a,_,_,_,rfl,rfl,h1,rfl,rfl,_,rfl,kR (q _ (jI.refl _))⟩
 | @many a b n k h1 h2 =>
  have hv' : 1<=r:=hv;obtain⟨r,rfl⟩:=back hv';have hlv:k.lv=0:=by rcases hf.2.2 with⟨w,rfl,_⟩|⟨i,rfl,_⟩ <;> rfl
  refine⟨_,rfl,a,_,_,_,rfl,rfl,h1,rfl,rfl,_,rfl,jU ⟨_,rfl,a,_,_,_,rfl,rfl,h1,rfl,rfl,_,rfl,kR ⟨_,rfl,a,_,_,_,rfl,rfl,h1,rfl,_,rfl,b,sl,k,S,rfl,hk.sub,(by omega),hf.sub,h2,hlx,hg,fun H' g=>?_⟩⟩⟩;exact q H' g
 | @pick a l is h1 h2 =>
  have hs:=hf.1;have hs4:=hf.2.1;have hne:is≠[]:=fun z=>by rw[z]at hs;exact absurd hs (by decide)
  have hr3 : 3<=r:=by
   cases is with
   |nil=>exact absurd rfl hne
   |cons i _=>have:=hk i (Ω ..);omega
  obtain⟨r,rfl⟩:=back (by omega);have zl:(is.map fun n:Nat=>V.int n).length=is.length:=δ _;refine⟨_,rfl,a,_,_,_,rfl,rfl,h1,rfl,rfl,_,rfl,jU ⟨_,rfl,a,_,_,_,rfl,rfl,h1,rfl,rfl,_,rfl,jU ⟨_,rfl,a,_,_,_,rfl,rfl,h1,rfl,rfl,_,rfl,kR ⟨_,rfl,a,_,_,_,rfl,rfl,h1,rfl,l,rfl,⟨_,h2⟩,xW (xs:=is.map fun n:Nat=>V.int n) (fun j ys H'=>jI H H'/\ys=((is.take j).map fun i=>V.int (vDp (.nest i) (tabs S)))) ⟨jI.refl _,rfl⟩ (fun j ys H' _ z=>⟨z.1.seq h2,by rw[z.2,δ,Δ];exact jz _ _⟩) (kQ (by omega)) (fun j x ys H' hx z=>?_) (fun ys H' z p hp=>?_)⟩⟩⟩⟩
  ·obtain⟨g,rfl⟩:=z;obtain⟨i,hi,rfl⟩:=oU hx;have him:=μ hi;refine⟨_,rfl,xD,fun t ht=>?_⟩;clear 1 t H3 g3 k3 ht;exact⟨_,rfl,t,sl,.nest i,S,rfl,(by have:=hk i him;show 2*i+2<=r;omega),iy _,hf.2.2.2 i him,.nest (SqT.of k3),hlx.same (g.trans g3),hg,fun H4 g4=>⟨⟨(g.trans g3).trans g4,(vB hi).symm⟩,_,rfl⟩⟩
  ·obtain⟨g,rfl⟩:=z;have g2:=vY hp (.lst ((is.take (is.map fun n:Nat=>V.int n).length).map fun i=>V.int (vDp (.nest i) (tabs S))));have kp:upd H' p (.lst ((is.take (is.map fun n:Nat=>V.int n).length).map fun i=>V.int (vDp (.nest i) (tabs S)))) p=some (.lst (((is.map fun i=>vDp (.nest i) (tabs S)).map fun n:Nat=>(n:Int)).map V.int)):=by
    rw[jQ,zl,kO,jw,jw];rfl
   have q':=q _ (g.trans g2);refine⟨p,(is.map fun i=>vDp (.nest i) (tabs S)).map fun n:Nat=>(n:Int),rfl,SqL.of kp,(by simpa using hne),fun m h5 h6=>?_⟩;rw[aHn h5 h6];exact q'
 | @nest a i h1 =>
  have hi:i<S.length:=hf;have hr2 : 2*i+2<=r:=hk;obtain⟨r,rfl⟩:=back (by omega);obtain⟨as,s,l,ps,m1,m2,m3,m4,m5⟩:=hlx.at hi;have hS:S[i]?=some S[i]:=θ hi;have hfit:=hg.fit i _ hS;have htab:=gR hS fun f hf=>(hfit f hf).1.below;have zl:(ps.map V.ref).length=S[i].2.length:=by rw[δ];exact m5.len
  refine⟨_,rfl,a,_,_,_,rfl,rfl,h1,rfl,rfl,_,rfl,jU ⟨_,rfl,a,_,_,_,rfl,rfl,h1,rfl,rfl,_,rfl,jU ⟨_,rfl,a,_,_,_,rfl,rfl,h1,rfl,rfl,_,rfl,jU ⟨_,rfl,_,rfl,a,_,_,_,rfl,rfl,h1,rfl,sl,_,_,_,rfl,rfl,m1,xR m2,s,_,_,_,rfl,rfl,m3,rfl,l,rfl,⟨_,m4⟩,fE (xs:=ps.map V.ref) (fun j ys H'=>jI H H'/\ys=((S[i].2.take j).map fun f=>V.int (vDp f.2 (tabs S)))) ⟨jI.refl _,rfl⟩ (fun j ys H' _ z=>⟨z.1.seq m4,by rw[z.2,δ,Δ];exact jz _ _⟩) (kQ (by have:=hg.few i _ hS;omega)) (fun j x ys H' os ho hx z=>?_) (fun ys H' z p hp=>?_)⟩⟩⟩⟩
  ·obtain⟨g,rfl⟩:=z;obtain⟨o1,o2,rfl⟩:=wK ho;obtain⟨u,hu,rfl⟩:=qE hx;obtain⟨nm',kd',kk,hfs,ht,hko⟩:=m5.get hu;have hm:=hfit _ (μ hfs);exact⟨u,_,rfl,g.tp ht,rfl,_,_,rfl,_,_,rfl,rfl,_,rfl,_,rfl,kk,sl,kd',S,rfl,hm.1.rk.mono (by omega),(by have:=kd'.lv_le;omega),hm.1.mono (pk hi),hko.same g,hlx.same g,hg,fun H2 g2=>⟨⟨g.trans g2,(vB hfs).symm⟩,[_,_],rfl,rfl⟩⟩
  ·obtain⟨g,rfl⟩:=z;have g2:=vY hp (.lst ((S[i].2.take (ps.map V.ref).length).map fun f=>V.int (vDp f.2 (tabs S))));have kp:upd H' p (.lst ((S[i].2.take (ps.map V.ref).length).map fun f=>V.int (vDp f.2 (tabs S)))) p=some (.lst (((S[i].2.map fun f=>vDp f.2 (tabs S)).map fun n:Nat=>(n:Int)).map V.int)):=by
    rw[jQ,zl,kO,jw,jw];rfl
   have q':=q _ (g.trans g2);refine⟨p,(S[i].2.map fun f=>vDp f.2 (tabs S)).map fun n:Nat=>(n:Int),rfl,SqL.of kp,(by simpa using hg.ne i _ hS),fun m h5 h6=>?_⟩;rw[aHn h5 h6];refine⟨_,_,rfl,rfl,?_⟩;rw[show vDp (.nest i) (tabs S)=1+xE (S[i].2.map fun f=>vDp f.2 (tabs S)) from htab.2.1,vb]at q';exact q'
theorem uK(F:Fun K "_law_units" "_law_units" eK f fd)(bt:j7 "_law_units" (spLU K r))(ar:j7 "_law_size" (tU K vSz (r+1)))(am:j7 "_law_joined" spLJ):j4 ["_law_kind_here","_law_shapes_here","_law_path"] (spLU K (r+1)):=by
 w_cond xH;obtain⟨a,sl,p,kd,S,rfl,hp,hk,hv,hf,hlk,hlx,hg,q⟩:=h;refine⟨_,(jD (kK (jS kW (jH jV (pv 0) jC) jO) (jE (jJ (kU (jA (kT (jA (pv 2) (jA (jH jV (pv 0) jC) (jA jO jB)))) jB)))) jP) (jD (kK (jS kW (jH jV (pv 0) jC) jO) (jE (jJ (kU (jA (kT (jA (jF am hr (jA (pv 2) (jA jO jB))) (jA jC (jA jO jB)))) (jA (kT (jA (pv 2) (jA (jY zZ (jF ar hr (jA (pv 0) (jA (pv 1) jB))) jC) (jA jO jB)))) jB))))) jP) (jD (jT 3 xH.nd (kU jB)) (jD (kK (jS kW (jH jV (pv 0) jC) jO) (jE (xG jx rfl (vD rfl M.range (jA (jH jV (pv 0) jC) jB)) (kS 4 xH.nd) (jE (jT 3 xH.nd (jY yS (pv 3) (jF bt hr (jA (jH jV (pv 0) jC) (jA (pv 1) (jA (jF am hr (jA (pv 2) (jA (qQ yG rfl M.str boot_str (jA (pv 4) jB)) jB))) jB))))))))) (jE (xG jx rfl (qO (jH jV (jH jW (pv 1) (jH jV (pv 0) jC)) jC)) (xP rfl (jX (kS 5 xH.nd) (jX (kS 6 xH.nd) qH))) (jE (jT 3 xH.nd (jY yS (pv 3) (jF bt hr (jA (pv 6) (jA (pv 1) (jA (jF am hr (jA (pv 2) (jA (pv 5) jB))) jB)))))))))) (jE (jJ (pv 3))))))),?_⟩;have back : 1<=r->∃r',r=r'+1:=fun h=>⟨r-1,by omega⟩;have bd:=Kd.size_bd hg.sz (by decide) hf;have lens:((∃i,kd=.nest i)\/∃n q,kd=.many n q)->∀j,(((kd.parts S).take j).flatMap fun f=>un f.2 S (pj p f.1)).length<=6000:=fun hF j=>by
  have h1:(un kd S p).length<=_:=(hg.kd hf).2 p;rw[Kd.parts_un hg hf hF]at h1
  conv at h1=>lhs;rw[←lh j (kd.parts S)]
  rw[qe,ι]at h1;omega
 have pjl:∀y:Str,y.length<=6->(pj p y).length<=p.length+7:=fun y hy=>by
  have e1:(ε ".").length=1:=rfl;unfold pj
  split
  ·omega
  ·rw[kc,kc];omega
 cases id hlk with
 | @num a w h1 =>
  refine⟨_,rfl,a,_,_,_,rfl,rfl,h1,rfl,rfl,_,rfl,kR ⟨_,rfl,_,rfl,a,_,_,_,rfl,rfl,h1,rfl,sJ,fun t ht=>?_⟩⟩;generalize e1:upd H t _=H1;obtain⟨g1,k1⟩:=qA e1 ht;refine⟨aV,fun l hl=>?_⟩;clear 1 l H2 g2 k2 hl;exact q l H2 (g1.trans g2) (g1.free hl) ⟨[t],k2,.cons (g2.tp (SqT.of k1)) .nil⟩
 | @pick a l is h1 h2 =>
  refine⟨_,rfl,a,_,_,_,rfl,rfl,h1,rfl,rfl,_,rfl,jU ⟨_,rfl,a,_,_,_,rfl,rfl,h1,rfl,rfl,_,rfl,kR ⟨_,rfl,p,_,rfl,(by omega),(by decide),(by decide),sJ,fun t1 ht1=>?_⟩⟩⟩;generalize e1:upd H t1 _=H1;obtain⟨g1,k1⟩:=qA e1 ht1;refine⟨_,rfl,_,rfl,_,rfl,a,sl,.pick is,S,rfl,hk,hv,hf,hlk.same g1,hlx.same g1,hg,fun H2 g2=>⟨_,_,rfl,rfl,sJ,fun t2 ht2=>?_⟩⟩;clear 1 t2 H3 g3 k3 ht2;refine⟨xD,fun lf hl=>?_⟩;clear 1 lf H4 g4 k4 hl;have ez:((vSz (Kd.pick is) (tabs S):Nat):Int)-1=((xE (is.map fun i=>(tabs S).sz.getD i 0):Nat):Int):=by
   rw[show vSz (Kd.pick is) (tabs S)=1+xE (is.map fun i=>(tabs S).sz.getD i 0) from rfl];omega
  have k3':H3 t2=some (.tup [.str p,.int ((vSz (Kd.pick is) (tabs S):Nat)-1),.str (ε "pick")]):=k3;rw[ez]at k3';exact q lf H4 (((g1.trans g2).trans g3).trans g4) (((g1.trans g2).trans g3).free hl) ⟨[t1,t2],k4,.cons (((g2.trans g3).trans g4).tp (SqT.of k1)) (.cons (g4.tp (SqT.of k3')) .nil)⟩
 | @many a b n k h1 h2 =>
  have hv' : 1<=r:=hv;obtain⟨r,rfl⟩:=back hv';have hn6:n<=6:=hf.2.1;have hlv:k.lv=0:=by rcases hf.2.2 with⟨w,rfl,_⟩|⟨i,rfl,_⟩ <;> rfl
  refine⟨_,rfl,a,_,_,_,rfl,rfl,h1,rfl,rfl,_,rfl,jU ⟨_,rfl,a,_,_,_,rfl,rfl,h1,rfl,rfl,_,rfl,jU ⟨bH,fun l0 hl0=>?_⟩⟩⟩;generalize e1:upd H l0 _=H1;obtain⟨g1,k1⟩:=qA e1 hl0;refine⟨_,rfl,a,_,_,_,rfl,rfl,g1.tp h1,rfl,rfl,_,rfl,kR ⟨_,rfl,a,_,_,_,rfl,rfl,g1.tp h1,rfl,n,rfl,by omega,by omega,yR (n:=n) (fun j σ H'=>∃(o4 o5 o6:Option V) (lf:Addr),σ = [some (.ref a),some (.ref sl),some (.str p),some (.ref lf),o4,o5,o6]/\jI H H'/\H lf=none/\UL K H' lf ((((Kd.many n k).parts S).take j).flatMap fun f=>un f.2 S (pj p f.1))) ⟨_,_,_,l0,rfl,g1,hl0,[],k1,.nil⟩ (fun j σ H' hj z=>?_) (fun σ H' z=>?_)⟩⟩
  ·obtain⟨o4,o5,o6,lf,rfl,g,hlf,us,ku,ur⟩:=z;have hps:((Kd.many n k).parts S)[j]?=some (ε (toString j),k):=by
    show((jg n).map _)[j]?=_;rw[iq,rh hj];rfl
   obtain⟨p1,p2,p3,p4⟩:=Kd.parts_ok hg hf hk (μ hps);refine⟨_,rfl,_,rfl,a,_,_,_,rfl,rfl,g.tp h1,rfl,_,rfl,_,rfl,_,rfl,_,rfl,yf (yV (by omega)) (by decide),p,ε (toString ((0:Int)+(j:Nat))),rfl,by omega,?_,?_,b,sl,pj p (ε (toString ((0:Int)+(j:Nat)))),k,S,rfl,?_,p1,by omega,p2,h2.same g,hlx.same g,hg,fun l3 H3 g3 hl3 u3=>?_⟩
   ·rw[mw];exact Θ p4 (by decide)
   ·rw[mw];exact p3
   ·rw[mw];have:=pjl (ε (toString j)) p4;show(pj p (ε (toString j))).length+_<=_;omega
   rw[mw]at u3;obtain⟨us3,k3,ur3⟩:=u3;have ku3:=g3 _ _ ku;have h6:=lens (.inr ⟨_,_,rfl⟩) (j+1);rw[eU hps,ι,←ur.len,show(un k S (pj p (ε (toString j)))).length=us3.length from ur3.len.symm]at h6;refine⟨lf,l3,_,_,rfl,rfl,ku3,k3,(by rw[jk,δ,δ];omega),fun l4 hl4=>?_⟩;clear 1 l4 H4 g4 k4 hl4;refine⟨_,_,_,l4,rfl,(g.trans g3).trans g4,(g.trans g3).free hl4,us++us3,by rw[χ];exact k4,?_⟩;rw[eU hps];exact(ur.same (g3.trans g4)).app (ur3.same g4)
  ·obtain⟨o4,o5,o6,lf,rfl,g,hlf,u⟩:=z;refine⟨_,rfl,q lf H' g hlf ?_⟩;rw[Kd.parts_un hg hf (.inr ⟨_,_,rfl⟩)];rw[lq (by show((jg n).map _).length<=n;rw[δ,jm];exact ν _)]at u;exact u
 | @nest a i h1 =>
  have hi:i<S.length:=hf;have hr2 : 2*i+2<=r:=hk;obtain⟨r,rfl⟩:=back (by omega);obtain⟨as,s,l,ps,m1,m2,m3,m4,m5⟩:=hlx.at hi;have hS:S[i]?=some S[i]:=θ hi;have ep:(Kd.nest i).parts S=S[i].2:=by show(S.getD i _).2=_;rw[ω,hS];rfl
  refine⟨_,rfl,a,_,_,_,rfl,rfl,h1,rfl,rfl,_,rfl,jU ⟨_,rfl,a,_,_,_,rfl,rfl,h1,rfl,rfl,_,rfl,jU ⟨bH,fun l0 hl0=>?_⟩⟩⟩;generalize e1:upd H l0 _=H1;obtain⟨g1,k1⟩:=qA e1 hl0;refine⟨_,rfl,a,_,_,_,rfl,rfl,g1.tp h1,rfl,rfl,_,rfl,jU ⟨_,rfl,_,rfl,a,_,_,_,rfl,rfl,g1.tp h1,rfl,sl,_,_,_,rfl,rfl,g1.seq m1,xR m2,s,_,_,_,rfl,rfl,g1.tp m3,rfl,l,rfl,⟨_,g1.seq m4⟩,xM (xs:=ps.map V.ref) (fun j σ H'=>∃(o4 o5 o6:Option V) (lf:Addr),σ = [some (.ref a),some (.ref sl),some (.str p),some (.ref lf),o4,o5,o6]/\jI H H'/\H lf=none/\UL K H' lf ((((Kd.nest i).parts S).take j).flatMap fun f=>un f.2 S (pj p f.1))) ⟨_,_,_,l0,rfl,g1,hl0,[],k1,.nil⟩ (fun j σ H' _ z=>?_) (fun j x σ H' hx z=>?_) (fun σ H' z=>?_)⟩⟩
  ·obtain⟨o4,o5,o6,lf,rfl,g,_⟩:=z;exact g.seq m4
  ·obtain⟨o4,o5,o6,lf,rfl,g,hlf,us,ku,ur⟩:=z;obtain⟨t,ht,rfl⟩:=qE hx;obtain⟨nm',kd',kk,hfs,htt,hko⟩:=m5.get ht;have hps:((Kd.nest i).parts S)[j]?=some (nm',kd'):=by rw[ep];exact hfs
   obtain⟨p1,p2,p3,p4⟩:=Kd.parts_ok hg hf hk (μ hps);have p4':nm'.length<=6:=p4;have:=pjl nm' p4';refine⟨t,_,rfl,g.tp htt,rfl,_,_,rfl,_,_,rfl,rfl,_,rfl,_,rfl,_,rfl,_,rfl,_,rfl,p,nm',rfl,by omega,by omega,p3,kk,sl,pj p nm',kd',S,rfl,by omega,p1,(by have:=kd'.lv_le;omega),p2,hko.same g,hlx.same g,hg,fun l3 H3 g3 hl3 zq=>?_⟩;obtain⟨us3,k3,ur3⟩:=zq;have ku3:=g3 _ _ ku;have h6:=lens (.inl ⟨_,rfl⟩) (j+1);rw[eU hps,ι,←ur.len,←ur3.len]at h6;refine⟨lf,l3,_,_,rfl,rfl,ku3,k3,(by rw[jk,δ,δ];omega),fun l4 hl4=>?_⟩;clear 1 l4 H4 g4 k4 hl4;refine⟨_,_,_,l4,rfl,(g.trans g3).trans g4,(g.trans g3).free hl4,us++us3,by rw[χ];exact k4,?_⟩;rw[eU hps];exact(ur.same (g3.trans g4)).app (ur3.same g4)
  ·obtain⟨o4,o5,o6,lf,rfl,g,hlf,u⟩:=z;refine⟨_,rfl,q lf H' g hlf ?_⟩;rw[Kd.parts_un hg hf (.inl ⟨_,rfl⟩)];rw[lq (by rw[ep,δ,m5.len];exact ν _)]at u;exact u
theorem aAc{r:Nat}(F:Fun K "_law_fits" "_law_fits" fK f fd)(ar:j7 "_law_size" (tU K vSz (r+1)))(bt:j7 "_law_units" (spLU K (r+1)))(az:j7 "_law_depth" (tU K vDp (r+1))):j4 ["_law_shapes_here"] (aKl K r):=by
 w_cond mQ;obtain⟨sl,S,n,rfl,hn,hlx,hg,hr1,h8,q⟩:=h;refine⟨_,(jD (jT 1 mQ.nd (kT (jA jO (jA (jY zZ (jK kF rfl M.len ja (jA (pv 0) jB)) jC) jB)))) (jD (kK (PW.pt (xL (jS fC (jF ar hr (jA (pv 1) (jA (pv 0) jB))) jC) (xX (jS fC (jK kF rfl M.len ja (jA (jF bt hr (jA (pv 1) (jA (pv 0) (jA jO jB)))) jB)) jC)))) (jE (jJ yJ)) jP) (jE (jJ (qK cZ (jF az hr (jA (pv 1) (jA (pv 0) jB))) jC (vG _)))))),?_⟩;obtain⟨as,ha,hW⟩:=id hlx;have hal:((as.map V.ref).length:Int)-1=((n:Nat):Int):=by rw[δ,hW.len,hn];omega
 refine⟨_,rfl,sl,_,rfl,.inl ha,_,_,rfl,rfl,xD,fun t ht=>?_⟩;clear 1 t H1 g1 k0 ht;have k1:H1 t=some (.tup [.str (ε "shape"),.int (((as.map V.ref).length:Int)-1)]):=k0;rw[hal]at k1;have hnS:(Kd.nest n).Fit S.length:=by show n<S.length;omega
 have lk:LK K H1 t (.nest n):=.nest (SqT.of k1);refine⟨_,rfl,_,rfl,t,sl,.nest n,S,rfl,hr1,iy _,hnS,lk,hlx.same g1,hg,fun H2 g2=>⟨_,_,rfl,rfl,_,rfl,yB (fun c=>qU rfl (q false H2 (g1.trans g2) (fun z=>by cases z))) (fun c=>?_)⟩⟩;refine⟨_,rfl,_,rfl,t,sl,Str.empty,.nest n,S,rfl,(by show 0+8*r<=200;omega),hr1,iy _,hnS,lk.same g2,hlx.same (g1.trans g2),hg,fun l H3 g3 hl ⟨us,ku,ur⟩=>⟨l,_,rfl,.inl (SqL.of ku),_,_,rfl,rfl,_,rfl,yB (fun c2=>q false H3 ((g1.trans g2).trans g3) (fun z=>by cases z)) (fun c2=>?_)⟩⟩;refine⟨_,rfl,_,rfl,t,sl,.nest n,S,rfl,hr1,iy _,hnS,lk.same (g2.trans g3),hlx.same ((g1.trans g2).trans g3),hg,fun H4 g4=>⟨_,_,rfl,rfl,?_⟩⟩;refine q _ H4 (((g1.trans g2).trans g3).trans g4) fun c3=>?_;have c1':¬ (64:Int)<((vSz (Kd.nest n) (tabs S):Nat):Int):=fun z=>c (decide_eq_true z);have c2':¬ (40:Int)<(((us.map V.ref).length:Nat):Int):=fun z=>c2 (decide_eq_true z);have c3':((vDp (Kd.nest n) (tabs S):Nat):Int)<=4:=of_decide_eq_true c3;rw[δ,ur.len]at c2';exact⟨by show vSz (Kd.nest n) (tabs S)<=64;omega,by omega,by show vDp (Kd.nest n) (tabs S)<=4;omega⟩
theorem aAe{k:Nat}(F:Fun K "_law_kind" "_law_kind" fU f fd)(ac:j7 "_law_take" fL):j4 ["_law_box_here","_law_known"] (aPg K):=by
 w_cond aO;obtain⟨p,n,xs,rfl,hn8,hs,hpx,hal,q⟩:=h;refine⟨_,(jD (jT 2 aO.nd (jF ac hr (jA (pv 0) (jA jC jB)))) (jD (jT 3 aO.nd (jY qJ jC (jF ac hr (jA (pv 0) (jA jC jB))))) (jD (kK (PW.pt (xL (jS aGe (pv 2) jC) (xX (jS kW (pv 1) jC)))) (jE (jJ (jH jW (kU (jA (kT (jA jO (jA (pv 3) jB))) (jA (kT (jA jO (jA (jY qJ jC (jF ac hr (jA (pv 0) (jA jC jB)))) (jA (kT (jA jO (jA (pv 3) jB))) jB)))) jB))) (qQ mG rfl M.int boot_int (jA (qK kW (pv 2) jC (vG _)) jB))))) jP) (jD (jT 4 aO.nd (jF ac hr (jA (pv 0) (jA (pv 1) jB)))) (jD (kK (jS aGe (pv 2) jC) (jE (jJ (kT (jA jO (jA (pv 4) jB))))) jP) (jD (kK (jS kW (pv 2) jC) (jE (jJ (kT (jA jO (jA (jY qJ jC (jF ac hr (jA (pv 0) (jA jC jB)))) (jA (kT (jA jO (jA (pv 4) jB))) jB)))))) jP) (jD (kK (jS kW (pv 1) jC) (jE (jJ (kT (jA jO (jA (pv 3) jB))))) jP) (jE (jJ (kT (jA jO (jA (qC ["_law_k"] ["_law_known","_law_at"] [1,4] rfl (vD rfl M.range (jA (jK (sW rfl) rfl M.min boot_min (jA (pv 1) (jA (jY qJ jC (jF ac hr (jA (pv 0) (jA jC jB)))) jB))) jB)) rfl ⟨rfl,⟨rfl,trivial⟩⟩ ⟨⟨rfl,rfl,rfl,_,rfl⟩,⟨⟨rfl,rfl,rfl,_,rfl⟩,trivial⟩⟩ (fun _ _ _ _=>(qN rfl)) (fun _ _ _ _=>qB) (fun _ _ _ _=>(jY zK (jY qJ (pv 2) (pv 0)) (pv 1)))) jB)))))))))))),?_⟩;refine⟨_,rfl,p,8,rfl,by decide,by decide,hs,fun v1 H1 hv1 d1=>⟨_,rfl,p,4,rfl,by decide,by decide,d1.1,fun v2 H2 hv2 d2=>⟨_,_,rfl,rfl,?_⟩⟩⟩;have dd:=d1.trans d2;have al2:=Al.drawn hal dd;have ew:(1:Int)+(v2:Nat)=((1+v2:Nat):Int):=by omega
 have tup:∀{H0 H1:Hp}{t:Addr}{o:HO},Al xs H0->H0 t=none->upd H0 t o=H1->Al xs H1/\jI H0 H1/\offs xs H1 t=some o:=fun al ht e=>by
  obtain⟨g,k⟩:=qA e ht;exact⟨al.same g,g,kP (al.new ht) k⟩
 dsimp only[aQ];refine joinC (decide (v1<3\/n=0)) (H':=H2) ?_ (fun Q' hQ=>?_)
 ·by_cases hc:v1<3\/n=0
  ·refine qU (decide_eq_true hc) ⟨_,rfl,xD,fun t1 ht1=>?_⟩;generalize e3:upd H2 t1 _=H3;obtain⟨al3,g3,k3⟩:=tup al2 ht1 e3;refine⟨_,rfl,p,6,rfl,by decide,by decide,jI.st3 g3 d2.1,fun v3 H4 hv3 d4=>⟨_,_,rfl,rfl,_,rfl,xD,fun t2 ht2=>?_⟩⟩;have al4:=Al.drawn al3 d4;have k34:=d4.offs hpx _ _ k3;generalize e5:upd H4 t2 _=H5;obtain⟨al5,g5,k5⟩:=tup al4 ht2 e5;refine⟨sJ,fun t3 ht3=>?_⟩;generalize e6:upd H5 t3 _=H6;obtain⟨al6,g6,k6⟩:=tup al5 ht3 e6;refine⟨xD,fun l hl=>?_⟩;clear 1 l H7 g7 k7 hl;have D7:Drawn p H H7:=(((dd.keep g3).trans d4).keep ((g5.trans g6).trans g7));have s57:jI (offs xs H5) (offs xs H7):=kH (g6.trans g7);have s67:jI (offs xs H6) (offs xs H7):=kH g7;have s47:jI (offs xs H4) (offs xs H7):=kH ((g5.trans g6).trans g7);rw[ew]at k34 k5;have e3':(1:Int)+(v3:Nat)=((1+v3:Nat):Int):=by omega
   (try dsimp only at k6)
   rw[e3']at k6
   by_cases h2:v1=2
   ·refine⟨_,rfl,rfl,_,rfl,l,_,_,.ref t3,rfl,rfl,SqL.of k7,(by rw[if_pos (by rw[h2];decide)];rfl),q t3 (.many (1+v3) (.num (1+v2))) H7 D7 ⟨by omega,by omega,.inl ⟨1+v2,rfl,by omega,by omega⟩⟩ (.many (SqT.of (s67 _ _ k6)) (.num (SqT.of (s57 _ _ k5))))⟩
   ·refine⟨_,rfl,rfl,_,rfl,l,_,_,.ref t1,rfl,rfl,SqL.of k7,(by rw[if_neg (by simp;omega)];rfl),q t1 (.num (1+v2)) H7 D7 ⟨by omega,by omega⟩ (.num (SqT.of (s47 _ _ k34)))⟩
  ·have hv3 : 3<=v1:=by omega
   have hn0 : 0<n:=by omega
   refine qZ (by rw[decide_eq_false hc];decide) ⟨_,rfl,_,rfl,p,n,rfl,by omega,by omega,dd.1,fun v3 H3 hv3' d3=>?_⟩;have d23:=dd.trans d3;have al3:=Al.drawn al2 d3;refine⟨_,rfl,_,_,rfl,rfl,_,rfl,yB (fun c=>?_) (fun c=>?_)⟩
   ·refine⟨_,rfl,xD,fun t ht=>?_⟩;generalize e4:upd H3 t _=H4;obtain⟨al4,g4,k4⟩:=tup al3 ht e4;exact q t (.nest v3) H4 (d23.keep g4) (by show v3<n;omega) (.nest (SqT.of k4))
   ·refine⟨_,rfl,rfl,_,rfl,yB (fun c=>?_) (fun c=>?_)⟩
    ·refine⟨_,rfl,p,6,rfl,by decide,by decide,d3.1,fun v4 H4 hv4 d4=>⟨_,_,rfl,rfl,_,rfl,xD,fun t2 ht2=>?_⟩⟩;have al4:=Al.drawn al3 d4;generalize e5:upd H4 t2 _=H5;obtain⟨al5,g5,k5⟩:=tup al4 ht2 e5;refine⟨sJ,fun t3 ht3=>?_⟩;generalize e6:upd H5 t3 _=H6;obtain⟨al6,g6,k6⟩:=tup al5 ht3 e6;have e4':(1:Int)+(v4:Nat)=((1+v4:Nat):Int):=by omega
     (try dsimp only at k6)
     rw[e4']at k6;exact q t3 (.many (1+v4) (.nest v3)) H6 ((d23.trans d4).keep (g5.trans g6)) ⟨by omega,by omega,.inr ⟨v3,rfl,by omega⟩⟩ (.many (SqT.of k6) (.nest (SqT.of (kH g6 _ _ k5))))
    ·refine⟨_,rfl,rfl,_,rfl,yB (fun c=>?_) (fun c=>?_)⟩
     ·refine⟨_,rfl,xD,fun t ht=>?_⟩;generalize e4:upd H3 t _=H4;obtain⟨al4,g4,k4⟩:=tup al3 ht e4;rw[ew]at k4;exact q t (.num (1+v2)) H4 (d23.keep g4) ⟨by omega,by omega⟩ (.num (SqT.of k4))
     ·have hn1:n≠1:=fun z=>c (by rw[z];decide);refine⟨_,rfl,_,rfl,p,3,rfl,by decide,by decide,d3.1,fun v4 H4 hv4 d4=>⟨_,_,rfl,rfl,_,_,rfl,?_⟩⟩;have al4:=Al.drawn al3 d4;obtain⟨m,hm,hm2,hm4,hmn⟩ : ∃m:Nat,(if (2:Int)+(v4:Nat)<(n:Nat) then (2:Int)+(v4:Nat) else (n:Nat))=(m:Nat)/\2<=m/\m<=4/\m<=n:=by
       by_cases z:(2:Int)+(v4:Nat)<(n:Nat)
       ·exact⟨2+v4,by rw[if_pos z];omega,by omega,by omega,by omega⟩
       ·exact⟨n,by rw[if_neg z],by omega,by omega,ν _⟩
      refine⟨_,rfl,(by rw[hm];omega),(by rw[hm];omega),?_⟩;rw[hm];refine yW (n:=m) (fun j ys H'=>H'=H4/\ys=((jg j).map fun k=>(v3+k) % n).map fun i:Nat=>V.int i) ⟨rfl,rfl⟩ (fun j ys H' _ z=>by rw[z.2,δ,δ,jm];exact ν _) (kQ (by omega)) (fun j ys H' hj z=>?_) (fun ys H' z l hl=>?_)
      ·obtain⟨rfl,rfl⟩:=z;refine⟨_,rfl,_,rfl,_,_,rfl,rfl,_,rfl,_,_,rfl,rfl,(by show(0:Int)<(n:Nat);omega),⟨rfl,?_⟩,_,rfl⟩;rw[va,χ,χ]
       congr 1
       show[V.int (((v3:Nat)+(0+(j:Nat))) % (n:Nat))]=[V.int (((v3+j) % n:Nat):Int)]
       congr 2
       rw[mw,←vb]
       first|exact(Int.natCast_emod _ _).symm|exact(Int.ofNat_emod _ _).symm|rfl
      ·obtain⟨rfl,rfl⟩:=z;generalize e5:upd H' l _=H5;obtain⟨al5,g5,k5⟩:=tup al4 hl e5;refine⟨xD,fun t ht=>?_⟩;generalize e6:upd H5 t _=H6;obtain⟨al6,g6,k6⟩:=tup al5 ht e6;refine q t (.pick ((jg m).map fun k=>(v3+k) % n)) H6 ((d23.trans d4).keep (g5.trans g6)) ⟨by rw[δ,jm];exact hm2,by rw[δ,jm];exact hm4,aGl hmn,fun i hi=>?_⟩ (.pick (SqT.of k6) (SqL.of (kH g6 _ _ k5)));obtain⟨k,_,rfl⟩:=jf.mp hi;exact Nat.mod_lt _ hn0
 ·refine⟨_,rfl,_,_,rfl,rfl,_,rfl,yB (fun c=>?_) (fun c=>?_)⟩
  ·have c':(v1:Int)<3:=of_decide_eq_true c;rw[decide_eq_true (show v1<3\/n=0 from .inl (by omega))]at hQ;exact hQ
  ·have c':¬ (v1:Int)<3:=fun z=>c (decide_eq_true z);refine⟨_,rfl,rfl,_,rfl,?_⟩;rw[show decide (V.int (n:Nat)=V.int 0)=decide (v1<3\/n=0) by
    by_cases z:n=0
    ·rw[decide_eq_true (show v1<3\/n=0 from .inr z),z];decide
    ·rw[decide_eq_false (show ¬ (v1<3\/n=0) by omega),decide_eq_false];intro e;injection e with e;omega]
   exact hQ
theorem lU(F:Fun K "_law_kind_text" "_law_kind_text" zH f fd)(bf:j7 "_law_kind_text" (spKT K r)):j4 ["_law_kind_here","_law_shapes_here"] (spKT K (r+1)):=by
 w_cond lN;obtain⟨a,sl,kd,S,rfl,hlv,hf,hn,hlk,hlx,q⟩:=h;refine⟨_,(jD (kK (jS kW (jH jV (pv 0) jC) jO) (jE (jJ (jY qM jO (qQ yG rfl M.str boot_str (jA (jH jV (pv 0) jC) jB))))) jP) (jD (kK (jS kW (jH jV (pv 0) jC) jO) (jE (jJ (jY qM (jY qM (jY qM jO (qQ yG rfl M.str boot_str (jA (jH jV (pv 0) jC) jB))) jO) (jF bf hr (jA (jH jV (pv 0) jC) (jA (pv 1) jB)))))) jP) (jD (kK (jS kW (jH jV (pv 0) jC) jO) (jE (jJ (zP se yv yw pC jO (jA (jY yS (kU (jA jO jB)) (qC ["_law_at"] ["_law_shapes_here"] [1] rfl (qO (jH jV (pv 0) jC)) rfl ⟨rfl,trivial⟩ ⟨⟨rfl,rfl,rfl,_,rfl⟩,trivial⟩ (fun _ _ _ _=>(qN rfl)) (fun _ _ _ _=>qB) (fun _ _ _ _=>(jH (aEx K rfl) (jH (aAr K rfl) (pv 1) (pv 0)) jC)))) jB)))) jP) (jE (jJ (jH jV (jH jW (pv 1) (jH jV (pv 0) jC)) jC)))))),?_⟩;have lg:∀i:Nat,i<=9->(((i:Nat):Int)).natAbs.log2<1920:=fun i hi=>yf (yV (by omega)) (by decide);have jc:∀(x:Str) (ys:List Str),ys≠[]->jo L2.spS (x::ys)=x++L2.spS++jo L2.spS ys:=fun x ys h=>lE h;obtain⟨w6,w5⟩:=eW hn hf;cases id hlk with
 | @num a w h1 =>
  have hw:w<=4:=hf.2;have d2:=(dig (w:=w) (by omega)).2.1;refine⟨_,rfl,a,_,_,_,rfl,rfl,h1,rfl,rfl,_,rfl,kR ⟨_,rfl,a,_,_,_,rfl,rfl,h1,rfl,_,rfl,lg w (by omega),_,_,rfl,rfl,(by show 4+(ε (toString ((w:Nat):Int))).length<=ρ;rw[d2];decide),?_⟩⟩;have q':=q H (jI.refl _);rw[show(Kd.num w).words (kL S)=[ε "num",ε (toString ((w:Nat):Int))] from rfl,jc _ _ (by simp)]at q';exact q'
 | @many a b n k h1 h2 =>
  have hn6:n<=6:=hf.2.1;have d2:=(dig (w:=n) (by omega)).2.1;have hlk0:k.lv=0:=by rcases hf.2.2 with⟨w,rfl,_⟩|⟨i,rfl,_⟩ <;> rfl
  have kl:(jo L2.spS (k.words (kL S))).length<=100:=by
   obtain⟨v6,v5⟩:=eW hn hf.sub;have h3:(jo L2.spS (k.words (kL S))).length<=_:=pE (c:=32) (m:=6) v6;omega
  refine⟨_,rfl,a,_,_,_,rfl,rfl,h1,rfl,rfl,_,rfl,jU ⟨_,rfl,a,_,_,_,rfl,rfl,h1,rfl,rfl,_,rfl,kR ⟨_,rfl,a,_,_,_,rfl,rfl,h1,rfl,_,rfl,lg n (by omega),_,_,rfl,rfl,(by show 4+(ε (toString ((n:Nat):Int))).length<=ρ;rw[d2];decide),_,_,rfl,rfl,(by rw[jk,kc];show 4+(ε (toString ((n:Nat):Int))).length+1<=_;omega),_,rfl,a,_,_,_,rfl,rfl,h1,rfl,_,rfl,b,sl,k,S,rfl,(by rw[hlk0];have : 1<r+1:=hlv;omega),hf.sub,hn,h2,hlx,fun H' g=>⟨_,_,rfl,rfl,(by rw[jk,kc,kc];show 4+(ε (toString ((n:Nat):Int))).length+1+_<=_;omega),?_⟩⟩⟩⟩;have q':=q H' g;rw[show(Kd.many n k).words (kL S)=ε "row" :: ε (toString ((n:Nat):Int))::k.words (kL S) from rfl,jc _ _ (by simp),jc _ _ (Kd.words_ne _ _)]at q';rw[wj,wj];rw[wj,wj,←wj (ε "row")]at q';exact q'
 | @pick a l is h1 h2 =>
  have hs4:=hf.2.1;have zl:(is.map fun n:Nat=>V.int n).length=is.length:=δ _;refine⟨_,rfl,a,_,_,_,rfl,rfl,h1,rfl,rfl,_,rfl,jU ⟨_,rfl,a,_,_,_,rfl,rfl,h1,rfl,rfl,_,rfl,jU ⟨_,rfl,a,_,_,_,rfl,rfl,h1,rfl,rfl,_,rfl,kR ⟨rfl,aV,fun l1 hl1=>?_⟩⟩⟩⟩;clear 1 l1 H1 g1 k1 hl1;refine⟨_,rfl,a,_,_,_,rfl,rfl,g1.tp h1,rfl,l,rfl,⟨_,g1.seq h2⟩,xW (xs:=is.map fun n:Nat=>V.int n) (fun j ys H'=>H'=H1/\ys=((is.take j).map (kL S)).map V.str) ⟨rfl,rfl⟩ (fun j ys H' _ z=>⟨by rw[z.1];exact g1.seq h2,by rw[z.2,δ,δ,Δ];exact jz _ _⟩) (kQ (by omega)) (fun j x ys H' hx z=>?_) (fun ys H' z p hp=>?_)⟩
  ·obtain⟨rfl,rfl⟩:=z;obtain⟨i,hi,rfl⟩:=oU hx;have hiS:=hf.2.2.2 i (μ hi);obtain⟨as,s,l',ps,m1,m2,m3,m4,m5⟩:=hlx.at hiS;refine⟨_,rfl,_,rfl,sl,_,_,_,rfl,rfl,g1.seq m1,xR m2,s,_,_,_,rfl,rfl,g1.tp m3,rfl,⟨rfl,?_⟩,_,rfl⟩;rw[vB hi,χ,vF (θ hiS)];rfl
  ·obtain⟨rfl,rfl⟩:=z;rw[zl,kO];clear 1 p H2 g2 k2 hp;refine⟨l1,p,_,_,rfl,rfl,g2 _ _ k1,k2,(by rw[jk,δ,δ];simp;omega),fun l3 hl3=>?_⟩;clear 1 l3 H3 g3 k3 hl3;refine⟨_,l3,ε "pick" :: is.map (kL S),rfl,rfl,SqL.of k3,?_,q H3 ((g1.trans g2).trans g3)⟩;have hsum:((ε "pick" :: is.map (kL S)).map (·.length)).sum<=(ε "pick" :: is.map (kL S)).length*6:=lD w6;have hl5:(ε "pick" :: is.map (kL S)).length<=5:=w5;have h1l:(ε " ").length=1:=rfl;rw[h1l];omega
 | @nest a i h1 =>
  obtain⟨as,s,l',ps,m1,m2,m3,m4,m5⟩:=hlx.at hf;have q':=q H (jI.refl _);rw[show jo L2.spS ((Kd.nest i).words (kL S))=kL S i from rfl,vF (θ hf)]at q';exact⟨_,rfl,a,_,_,_,rfl,rfl,h1,rfl,rfl,_,rfl,jU ⟨_,rfl,a,_,_,_,rfl,rfl,h1,rfl,rfl,_,rfl,jU ⟨_,rfl,a,_,_,_,rfl,rfl,h1,rfl,rfl,_,rfl,jU ⟨_,rfl,_,rfl,a,_,_,_,rfl,rfl,h1,rfl,sl,_,_,_,rfl,rfl,m1,xR m2,s,_,_,_,rfl,rfl,m3,rfl,q'⟩⟩⟩⟩
theorem aCm(F:Fun K "_law_text" "_law_text" fR f fd)(bf:j7 "_law_kind_text" (spKT K 2)):j4 ["_law_shapes_here"] (spTx K):=by
 w_cond yE;obtain⟨sl,S,rfl,hlx,hW,hne,q⟩:=h;refine⟨_,(jD (jT 1 yE.nd (kU jB)) (jD (xG jx rfl (qO (pv 0)) (xP rfl (jX (kS 2 yE.nd) (jX (kS 3 yE.nd) qH))) (jD (vO (zP jq mj mm yD (pv 1) (jA (jY qM jO (pv 2)) jB))) (jE (xG jx rfl (qO (pv 3)) (xP rfl (jX (kS 4 yE.nd) (jX (kS 5 yE.nd) qH))) (jE (vO (zP jq mj mm yD (pv 1) (jA (jY qM (jY qM (pv 4) jO) (jF bf hr (jA (pv 5) (jA (pv 0) jB)))) jB)))))))) (jE (jJ (zP se yv yw pC jO (jA (pv 1) jB)))))),?_⟩;obtain⟨as,ha,hLW⟩:=id hlx;obtain⟨h30,hrow,_⟩:=aLi hW hne;have hn:=aCy hW.nm;have jc:∀(x:Str) (ys:List Str),ys≠[]->jo L2.spS (x::ys)=x++L2.spS++jo L2.spS ys:=fun x ys h=>lE h;refine⟨bH,fun ll hll=>?_⟩;clear 1 ll H1 g1 k1 hll;have zl:(as.map V.ref).length=S.length:=by rw[δ];exact hLW.len
 have few:∀A:List Itm,(∃B,vH S=A++B)->A.length<=40:=fun A ⟨B,e⟩=>by rw[e,ι]at h30;omega
 refine⟨_,rfl,sl,rfl,⟨_,g1.seq ha⟩,xM (xs:=as.map V.ref) (fun i σ H'=>∃o2 o3 o4 o5,σ = [some (.ref sl),some (.ref ll),o2,o3,o4,o5]/\But ll H1 H'/\H' ll=some (.lst (((vH (S.take i)).map (rX S)).map V.str))) ⟨_,_,_,_,rfl,But.refl,k1⟩ (fun i σ H' _ z=>?_) (fun i x σ H' hx z=>?_) (fun σ H' z=>?_)⟩
 ·obtain⟨o2,o3,o4,o5,rfl,g,_⟩:=z;exact(But.from g1 hll g).seq ha
 ·obtain⟨o2,o3,o4,o5,rfl,g,kl⟩:=z;obtain⟨s,hs,rfl⟩:=qE hx;obtain⟨sh,hS,l,ps,m1,m2,m3⟩:=hLW.get hs;have hsS:=μ hS;have hi:i<S.length:=(η.mp hS).1;have gH:=But.from g1 hll g;have eS:vH S=vH (S.take i)++(iN sh++vH (S.drop (i+1))):=by
   conv=>lhs;rw[(oC hS).1]
   rw[aC];rfl
  have hnm:=hW.nm sh hsS;have hsl:=(vK hnm).2;have l1:=few (vH (S.take i)) ⟨_,eS⟩;refine⟨s,_,rfl,gH.tp m1,rfl,_,_,rfl,_,_,rfl,rfl,_,rfl,.inl ⟨rfl,_,SqL.of kl⟩,_,rfl,_,_,rfl,rfl,(by show 6+sh.1.length<=ρ;rw[jk];omega),ll,_,_,rfl,rfl,kl,(by rw[δ,δ];exact ms l1 (by decide)),?_⟩;clear 0 ll H2 g2 k2;have gg2:=g.trans g2;have er:(ε "shape " ++ sh.1:Str)=rX S (.sh sh.1):=by
   show _=jo L2.spS [ε "shape",sh.1];rw[jc _ _ (by simp)];rfl
  have k2':H2 ll=some (.lst (((vH (S.take i)++(.sh sh.1::(sh.2.take 0).map fun f=>Itm.fd f.1 f.2)).map (rX S)).map V.str)):=by
   rw[k2,χ,χ];show some (HO.lst (_++[V.str (ε "shape " ++ sh.1)]))=_;rw[er];rfl
  refine⟨_,rfl,l,rfl,⟨_,(But.from g1 hll gg2).seq m2⟩,xM (xs:=ps.map V.ref) (fun j σ H3=>∃o4 o5,σ = [some (.ref sl),some (.ref ll),some (.str sh.1),some (.ref l),o4,o5]/\But ll H1 H3/\H3 ll=some (.lst (((vH (S.take i)++(.sh sh.1::(sh.2.take j).map fun f=>Itm.fd f.1 f.2)).map (rX S)).map V.str))) ⟨_,_,rfl,gg2,k2'⟩ (fun j σ H3 _ z=>?_) (fun j x σ H3 hx z=>?_) (fun σ H3 z=>?_)⟩
  ·obtain⟨o4,o5,rfl,g3,_⟩:=z;exact(But.from g1 hll g3).seq m2
  ·obtain⟨o4,o5,rfl,g3,kl3⟩:=z;obtain⟨t,ht,rfl⟩:=qE hx;obtain⟨nm',kd',kk,hfs,htt,hko⟩:=m3.get ht;have hfm:=μ hfs;have hfit:kd'.Fit S.length:=(hW.good.fit i sh hS _ hfm).1.mono (pk hi);have hfn:=(vK (hW.fnm sh hsS _ hfm)).2;have hfn':nm'.length<=6:=hfn;have gH3:=But.from g1 hll g3;have hit:Itm.fd nm' kd'∈vH S:=by
    rw[eS];refine jh _ (nv _ (Ξ _ ?_));exact jf.mpr ⟨_,hfm,rfl⟩
   have r100:(jo L2.spS (nm'::kd'.words (kL S))).length<=100:=(hrow _ hit).1;rw[jc _ _ (Kd.words_ne _ _),kc,kc]at r100;refine⟨t,_,rfl,gH3.tp htt,rfl,_,_,rfl,_,_,rfl,rfl,_,rfl,.inl ⟨rfl,_,SqL.of kl3⟩,_,rfl,_,_,rfl,rfl,(by show nm'.length+1<=ρ;rw[jk];omega),_,rfl,_,rfl,kk,sl,kd',S,rfl,(by have:=kd'.lv_le;omega),hfit,hn,hko.same gH3,hlx.same gH3,fun H4 g4=>⟨_,_,rfl,rfl,(by rw[jk,kc];show nm'.length+1+_<=_;have:L2.spS.length=1:=rfl;omega),?_⟩⟩;have kl4:=g4 _ _ kl3;have l2:(vH (S.take i)++(.sh sh.1::(sh.2.take j).map fun f=>Itm.fd f.1 f.2)).length<=40:=few _ ⟨((sh.2.drop j).map fun f=>Itm.fd f.1 f.2)++vH (S.drop (i+1)),by
    rw[eS];unfold iN
    conv=>lhs;rw[←lh j sh.2]
    rw[χ];simp only[mi,uj]⟩
   refine⟨ll,_,_,rfl,rfl,kl4,(by rw[δ,δ];exact ms l2 (by decide)),?_⟩;clear 0 ll H5 g5 k5;refine⟨_,_,rfl,(g3.trans (But.of g4)).trans g5,?_⟩;rw[k5,vB hfs,←uj,←mi,χ (l₂:=[Itm.fd nm' kd']),χ (l₂:=List.map (rX S) [Itm.fd nm' kd'])];have er2:(nm'++ε " " ++ jo L2.spS (kd'.words (kL S)):Str)=rX S (.fd nm' kd'):=by
    show _=jo L2.spS (nm'::kd'.words (kL S));rw[jc _ _ (Kd.words_ne _ _)];rfl
   show some (HO.lst (_++[V.str (nm'++ε " " ++ jo L2.spS (kd'.words (kL S)))]))=_;rw[er2];rfl
  ·obtain⟨o4,o5,rfl,g3,kl3⟩:=z;refine⟨_,_,_,_,rfl,g3,?_⟩;rw[kl3,δ,m3.len,kO];have e6:S.take (i+1)=S.take i++[sh]:=by rw[jt,hS];rfl
   rw[e6,aC,show vH [sh]=iN sh from rm ..];rfl
 ·obtain⟨o2,o3,o4,o5,rfl,g,kl⟩:=z;rw[zl,kO]at kl;refine⟨rfl,_,rfl,_,ll,(vH S).map (rX S),rfl,rfl,SqL.of kl,?_,?_⟩
  ·have hsum:(((vH S).map (rX S)).map (·.length)).sum<=((vH S).map (rX S)).length*100:=lD fun w hw=>by
    obtain⟨it,hit,rfl⟩:=jf.mp hw;exact(hrow it hit).1
   have h1l:(ε "\n").length=1:=rfl;rw[δ]at hsum;rw[h1l,δ];omega
  ·have q':=q H' (But.from g1 hll g);rw[aKw]at q';exact q'
theorem tY(F:Fun K "_law_names" "_law_names" eJ f fd)(ac:j7 "_law_take" fL):j4 ["_law_box_here"] (aPa K):=by
 w_cond yI;obtain⟨p,rfl,hs,q⟩:=h;refine⟨_,(PSx.h (qF (xU (jT 1 yI.nd (jF ac hr (jA (pv 0) (jA jC jB))))) (qF (xU (jT 2 yI.nd (jF ac hr (jA (pv 0) (jA jC jB))))) (qF (cB (jS kW (pv 1) jC) (qF (aGv (i:=3) yI.nd rfl (Or.inr rfl) (eY (jR (kI jO) (jR (kI jO) (jR (kI jO) (jR (kI jO) (jR (kI jO) (jR (kI jO) (jR (kI jO) (jR (kI jO) (jR (kI jO) (jR (kI jO) (jR (kI jO) (jR (kI jO) vS kM) kM) kM) kM) kM) kM) kM) kM) kM) kM) kM) kM))) (qW (xQ (kI (qC ["_law_k"] ["_law_words","_law_at"] [3,2] rfl (vD rfl M.range (jA jC jB)) rfl ⟨rfl,⟨rfl,trivial⟩⟩ ⟨⟨rfl,rfl,rfl,_,rfl⟩,⟨⟨rfl,rfl,rfl,_,rfl⟩,trivial⟩⟩ (fun _ _ _ _=>(qN rfl)) (fun _ _ _ _=>qB) (fun _ _ _ _=>(jY qM (jH (aAr K rfl) (pv 1) (jY zK (jY qJ (pv 2) (pv 0)) jC)) jO))))))) jP) (qF (cB (jS kW (pv 1) jC) (qF (xU (jT 4 yI.nd (zP se yv yw pC jO (jA (qC ["_law_k"] ["_law_box_here"] [0] rfl (vD rfl M.range (jA (jF ac hr (jA (pv 0) (jA jC jB))) jB)) rfl ⟨rfl,trivial⟩ ⟨⟨rfl,rfl,rfl,_,rfl⟩,trivial⟩ (fun _ _ _ _=>(qN rfl)) (fun _ _ _ _=>qB) (fun _ _ _ _=>(jH aDi jO (jF ac hr (jA (pv 1) (jA jC jB)))))) jB)))) (qW (xQ (kI (qC ["_law_k"] ["_law_tail","_law_at"] [4,2] rfl (vD rfl M.range (jA jC jB)) rfl ⟨rfl,⟨rfl,trivial⟩⟩ ⟨⟨rfl,rfl,rfl,_,rfl⟩,⟨⟨rfl,rfl,rfl,_,rfl⟩,trivial⟩⟩ (fun _ _ _ _=>(qN rfl)) (fun _ _ _ _=>qB) (fun _ _ _ _=>(jY qM (jY qM (jH aDi jO (jY zK (jY qJ (pv 2) (pv 0)) jC)) (pv 1)) jO))))))) jP) (qW (xQ (kI (jY yS (qC ["_law_k"] ["_law_at"] [2] rfl (vD rfl M.range (jA jC jB)) rfl ⟨rfl,trivial⟩ ⟨⟨rfl,rfl,rfl,_,rfl⟩,trivial⟩ (fun _ _ _ _=>(qN rfl)) (fun _ _ _ _=>qB) (fun _ _ _ _=>(vA aGd jO vU (vT (jY qJ jC (jY zK (jY qJ (pv 1) (pv 0)) jC)))))) (kU (jA jO (jA jO (jA jO (jA jO (jA jO (jA jO jB kM) kM) kM) kM) kM) kM))))))))))),?_⟩;refine⟨_,rfl,p,3,rfl,by decide,by decide,hs,fun v1 H1 hv1 d1=>⟨_,rfl,p,12,rfl,by decide,by decide,d1.1,fun v2 H2 hv2 d2=>?_⟩⟩;have dd:=d1.trans d2;have h12:v2<12:=by omega
 refine⟨_,rfl,rfl,_,rfl,yB (fun c=>?_) (fun c=>?_)⟩
 ·refine⟨(by show 12<=ρ;decide),fun l0 hl0=>?_⟩;clear 1 l0 H3 g3 k3 hl0;have k3':H3 l0=some (.lst (w0L.map V.str)):=k3;refine⟨12,rfl,by decide,by decide,yW (n:=12) (fun j ys H'=>H'=H3/\ys=((jg j).map fun k=>(w0L.getD ((v2+k) % 12) Str.empty)++ε "q").map V.str) ⟨rfl,rfl⟩ (fun j ys H' _ z=>by rw[z.2,δ,δ,jm];exact ν _) (by decide) (fun j ys H' hj z=>?_) (fun ys H' z l hl=>?_)⟩
  ·obtain⟨rfl,rfl⟩:=z;have hlt:(v2+j) % 12<w0L.length:=Nat.mod_lt _ (by decide);have hw:w0L[(v2+j) % 12]?=some (w0L.getD ((v2+j) % 12) Str.empty):=by rw[ω,θ hlt];rfl
   have hlen:∀i:Fin 12,(w0L.getD i.val Str.empty).length<=5:=by ac_rfl
   have hl5:=hlen ⟨(v2+j) % 12,hlt⟩;refine⟨_,rfl,_,rfl,_,rfl,_,_,rfl,rfl,_,_,rfl,rfl,(by show(0:Int)<12;decide),l0,_,_,_,rfl,rfl,SqL.of k3',(by rw[show(((v2:Nat):Int)+((0:Int)+(j:Nat))) % 12=(((v2+j) % 12:Nat):Int) from modc (n:=12)];exact rC hw),_,_,rfl,rfl,(by rw[jk];have:(ε "q").length=1:=rfl;have h5:(w0L.getD ((v2+j) % 12) Str.empty).length<=5:=hl5;omega),⟨rfl,?_⟩,_,rfl⟩;rw[va,χ,χ];rfl
  ·obtain⟨rfl,rfl⟩:=z;clear 1 l H4 g4 k4 hl;exact q l (nm0 v2) H4 (dd.keep (g3.trans g4)) (dd.free (g3.free hl)) k4 (aPy h12) (nm0_c h12)
 ·refine⟨_,rfl,rfl,_,rfl,yB (fun c=>?_) (fun c=>?_)⟩
  ·refine⟨rfl,_,rfl,p,5,rfl,by decide,by decide,d2.1,fun v3 H3 hv3 d3=>⟨v3,rfl,by omega,by omega,yW (n:=v3) (fun j ys H'=>Drawn p H3 H'/\∃cs:List Nat,ys=cs.map (fun c=>V.str ⟨#[c]⟩)/\cs.length=j/\∀c∈cs,97<=c/\c<=122) ⟨Drawn.refl d3.1,[],rfl,rfl,fun c hc=>by cases hc⟩ (fun j ys H' _ z=>?_) (kQ (by omega)) (fun j ys H' hj z=>?_) (fun ys H' z l hl=>?_)⟩⟩
   ·obtain⟨_,cs,rfl,hcl,_⟩:=z;rw[δ];omega
   ·obtain⟨d4,cs,rfl,hcl,hcs⟩:=z;refine⟨_,rfl,p,13,rfl,by decide,by decide,d4.1,fun v5 H5 hv5 d5=>?_⟩;have hz:∀i:Fin 13,∃c,(ε "abdeilmnorstu").cps.toList[i.val]?=some c/\97<=c/\c<=122:=fun i=>by
     have:∀i:Fin 13,97<=(ε "abdeilmnorstu").cps.toList.getD i.val 0/\(ε "abdeilmnorstu").cps.toList.getD i.val 0<=122:=by ac_rfl
     have hl13:i.val<(ε "abdeilmnorstu").cps.toList.length:=ς i.isLt (by decide);have e:(ε "abdeilmnorstu").cps.toList[i.val]?=some ((ε "abdeilmnorstu").cps.toList.getD i.val 0):=by rw[ω,θ hl13];rfl
     exact⟨_,e,this i⟩
    obtain⟨c',hc1,hc2⟩:=hz ⟨v5,by omega⟩;refine⟨_,_,c',rfl,rfl,by decide,xB hc1,⟨d4.trans d5,cs++[c'],by rw[χ];rfl,by rw[ι,hcl];rfl,fun x hx=>?_⟩,_,rfl⟩;rcases km.mp hx with hx|hx
    ·exact hcs x hx
    ·rw[Ψ.mp hx];exact hc2
   ·obtain⟨d4,cs,rfl,hcl,hcs⟩:=z;clear 1 l H5 g5 k5 hl;have hcl4:cs.length<=4:=by omega
    have dd5:=(dd.trans (d3.trans d4)).keep g5;have k5':H5 l=some (.lst ((cs.map fun c=>(⟨#[c]⟩ : Str)).map V.str)):=by rw[k5,jw];rfl
    refine⟨_,l,cs.map fun c=>⟨#[c]⟩,rfl,rfl,SqL.of k5',?_,?_⟩
    ·rw[jw,δ];have:(cs.map ((fun x:Str=>x.length)∘fun c=>(⟨#[c]⟩ : Str))).sum<=cs.length*1:=lD fun c hc=>ν _;have h0:(ε "").length=0:=rfl;rw[h0];omega
    ·have tc:=wY cs;generalize jo (ε "") (cs.map fun c=>(⟨#[c]⟩ : Str))=tl at tc;have htl:tl.length=cs.length:=by rw[←tc];exact(nh).symm
     refine⟨12,rfl,by decide,by decide,yW (n:=12) (fun j ys H'=>H'=H5/\ys=((jg j).map fun k=>(⟨#[c1 v2 k]⟩ : Str)++tl++ε "x").map V.str) ⟨rfl,rfl⟩ (fun j ys H' _ z=>by rw[z.2,δ,δ,jm];exact ν _) (by decide) (fun j ys H' hj z=>?_) (fun ys H' z l hl=>?_)⟩
     ·obtain⟨rfl,rfl⟩:=z;have hlt:(v2+j) % 12<c1L.cps.toList.length:=ς (Nat.mod_lt _ (by decide)) (by decide);have hw:c1L.cps.toList[(v2+j) % 12]?=some (c1 v2 j):=by unfold c1;rw[ω,θ hlt];rfl
      refine⟨_,rfl,_,rfl,_,_,rfl,rfl,_,_,rfl,rfl,(by show(0:Int)<12;decide),_,_,c1 v2 j,rfl,rfl,by decide,(by rw[show(((v2:Nat):Int)+((0:Int)+(j:Nat))) % 12=(((v2+j) % 12:Nat):Int) from modc (n:=12)];exact xB hw),_,rfl,_,_,rfl,rfl,(by show 1+tl.length<=ρ;rw[jk];omega),_,_,rfl,rfl,(by rw[jk,kc];show 1+tl.length+1<=_;omega),⟨rfl,?_⟩,_,rfl⟩;rw[va,χ,χ];rfl
     ·obtain⟨rfl,rfl⟩:=z;clear 1 l H6 g6 k6 hl;exact q l (nm1 tl v2) H6 (dd5.keep g6) (dd5.free hl) k6 (aPw h12 (by omega) (by rw[tc];exact hcs)) nm1_c
  ·refine⟨6,rfl,by decide,by decide,yW (n:=6) (fun j ys H'=>H'=H2/\ys=((jg j).map fun k=>Txt.slice (ε "zyxwvu") none (some (1+(((v2+k) % 6:Nat):Int)))).map V.str) ⟨rfl,rfl⟩ (fun j ys H' _ z=>by rw[z.2,δ,δ,jm];exact ν _) (by decide) (fun j ys H' hj z=>?_) (fun ys H' z l hl=>?_)⟩
   ·obtain⟨rfl,rfl⟩:=z;refine⟨_,rfl,_,rfl,_,_,rfl,rfl,_,_,rfl,rfl,(by show(0:Int)<6;decide),_,_,rfl,rfl,_,rfl,_,rfl,by decide,⟨rfl,?_⟩,_,rfl⟩;rw[va,χ,χ,show(((v2:Nat):Int)+((0:Int)+(j:Nat))) % 6=(((v2+j) % 6:Nat):Int) from modc (n:=6)];rfl
   ·obtain⟨rfl,rfl⟩:=z;clear 1 l H3 g3 k3 hl;refine⟨(by show 6<=ρ;decide),fun l2 hl2=>?_⟩;clear 1 l2 H4 g4 k4 hl2;refine⟨l,l2,_,_,rfl,rfl,g4 _ _ k3,k4,(by rw[δ,δ,jm];show 6+6<=ρ;decide),fun l3 hl3=>?_⟩;clear 1 l3 H5 g5 k5 hl3;refine q l3 (nm2 v2) H5 (dd.keep ((g3.trans g4).trans g5)) (dd.free ((g3.trans g4).free hl3)) ?_ (aRc h12) (nm2_c h12);rw[k5];unfold nm2;rw[χ];rfl
theorem rO(F:Fun K "_law_shapes" "_law_shapes" cR f fd)(fu:j7 "_law_names" (aPa K))(ac:j7 "_law_take" fL)(gi:j7 "_law_kind" (aPg K))(gj:j7 "_law_fits" (aKl K r)):j4 ["_law_box_here","_law_most"] (spSh K r):=by
 w_cond qV;obtain⟨p,rfl,hs,hr12,h8,q⟩:=h;refine⟨_,(jD (jT 2 qV.nd (jF fu hr (jA (pv 0) jB))) (jD (jT 3 qV.nd (jF ac hr (jA (pv 0) (jA jC jB)))) (jD (jT 4 qV.nd (kU jB)) (jD (xG jx rfl (vD rfl M.range (jA (jY qJ jC (jF ac hr (jA (pv 0) (jA (pv 1) jB)))) jB)) (kS 5 qV.nd) (jD (jT 6 qV.nd (kU jB)) (jD (xG jx rfl (vD rfl M.range (jA (jY qJ jC (jF ac hr (jA (pv 0) (jA jC jB)))) jB)) (kS 7 qV.nd) (jD (jT 8 qV.nd (kT (jA (jH jW (pv 2) (jY zK (jY qJ (jY qJ (pv 3) (jY zL (pv 7) jC)) (pv 5)) jC)) (jA (jF gi hr (jA (pv 0) (jA (pv 5) jB))) jB)))) (jE (kK (kZ (jF gj hr (jA (jY yS (pv 4) (kU (jA (kT (jA (jH jW (pv 2) (pv 5)) (jA (jY yS (pv 6) (kU (jA (pv 8) jB))) jB))) jB))) jB))) (jE (vO (zP jq mj mm yD (pv 6) (jA (pv 8) jB)))) jP)))) (jD (kK (jS (aAh hr.units) (pv 6) (kU jB)) (jE (jT 6 qV.nd (kU (jA (kT (jA (jH jW (pv 2) (pv 3)) (jA (kT (jA jO (jA (jY qJ jC (jF ac hr (jA (pv 0) (jA jC jB)))) jB))) jB))) jB)))) jP) (jE (vO (zP jq mj mm yD (pv 4) (jA (kT (jA (jH jW (pv 2) (pv 5)) (jA (pv 6) jB))) jB)))))))) (jE (jJ (pv 4))))))),?_⟩;refine⟨_,rfl,p,rfl,hs,fun nl ns H1 d1 hnl knl ⟨hn12,hnd,hnb⟩ hnc=>⟨_,rfl,p,12,rfl,by decide,by decide,d1.1,fun v2 H2 hv2 d2=>⟨bH,fun sl hsl=>?_⟩⟩⟩;have nnp:nl≠p:=bU hs hnl;have knl2:=d2.2 nl _ nnp knl;clear 1 sl H3 g3 k3 hsl;have nsp:sl≠p:=bU d2.1 hsl;have nns:nl≠sl:=jL knl2 hsl;have hslH:H sl=none:=(d1.trans d2).free hsl;have nsAt:∀i,i<12->ns[i]?=some (ns.getD i Str.empty):=fun i hi=>by rw[ω,θ (by omega)];rfl
 have nsB:∀i,i<12->kY (ns.getD i Str.empty)=true:=fun i hi=>hnb _ (μ (nsAt i hi));have nsI:∀i j,i<12->j<12->ns.getD i Str.empty=ns.getD j Str.empty->i=j:=fun i j hi hj e=>by
  have hp:=qf.mp hnd;have ei:=η.mp (nsAt i hi);have ej:=η.mp (nsAt j hj);obtain⟨ai,bi⟩:=ei;obtain⟨aj,bj⟩:=ej;rcases Nat.lt_trichotomy i j with hl|hl|hl
  ·exact absurd (by rw[bi,bj];exact e) (hp i j ai aj hl)
  ·exact hl
  ·exact absurd (by rw[bi,bj];exact e.symm) (hp j i aj ai hl)
 refine⟨_,rfl,_,rfl,p,4,rfl,by decide,by decide,jI.st3 g3 d2.1,fun v3 H4 hv3 d4=>⟨_,_,rfl,rfl,_,rfl,(by omega),(by omega),?_⟩⟩;have D4:Drawn p H H4:=((d1.trans d2).keep g3).trans d4;have knl4:=d4.2 nl _ nnp (g3 _ _ knl2);have ksl4:=d4.2 sl _ nsp k3;rw[show((1:Int)+(v3:Nat)).toNat=1+v3 by omega];refine yR (n:=1+v3) (fun i σ H'=>∃(o5 o6 o7 o8:Option V) (as:List Addr) (S:List Shp),σ = [some (.ref p),some (.int 4),some (.ref nl),some (.int v2),some (.ref sl),o5,o6,o7,o8]/\St3 H' p/\(∀b o,b≠p->b≠sl->H4 b=some o->H' b=some o)/\H' sl=some (.lst (as.map V.ref))/\LW K (offs [p,sl] H') as S/\S.length=i/\S.map (·.1)=ns.take i/\Wel S/\Cln S) ⟨_,_,_,_,[],[],rfl,d4.1,fun _ _ _ _ e=>e,ksl4,.nil,rfl,rfl,Wel.nil,fun s hs=>by cases hs⟩ (fun i σ H' hi z=>?_) (fun σ H' z=>?_)
 ·obtain⟨o5,o6,o7,o8,as,S,rfl,st,fr,ksl,hLW,hSl,hSn,hWS,hCl⟩:=z;rw[mw];have hi5:i<5:=by omega
  have knl':=fr nl _ nnp nns knl4;refine⟨bH,fun fl hfl=>?_⟩;clear 1 fl H5 g5 k5 hfl;have nfp:fl≠p:=bU st hfl;have nfs:fl≠sl:=lu (jL ksl hfl);have nfn:fl≠nl:=lu (jL knl' hfl);refine⟨_,rfl,p,6,rfl,by decide,by decide,jI.st3 g5 st,fun v4 H6 hv4 d6=>⟨_,_,rfl,rfl,_,rfl,(by omega),(by omega),?_⟩⟩;have kfl6:=d6.2 fl _ nfp k5;have knl6:=d6.2 nl _ nnp (g5 _ _ knl');have ksl6:=d6.2 sl _ nsp (g5 _ _ ksl);have hsame6:jI (offs [p,sl] H') (offs [p,sl,fl] H6):=fun b o e=>by
   have hb:b∉[p,sl]:=fun z=>by unfold offs at e;rw[if_pos z]at e;cases e
   have e':H' b=some o:=jM _ _ e;have hbf:b≠fl:=jL e' hfl;have hbp:b≠p:=fun z=>hb (by rw[z];simp);refine kP (fun z=>?_) (d6.2 b o hbp (g5 _ _ e'));simp only[Φ,jp,or_false]at z hb;rcases z with z|z|z
   ·exact hb (.inl z)
   ·exact hb (.inr z)
   ·exact hbf z
  have hLW6:=hLW.same hsame6;rw[show((1:Int)+(v4:Nat)).toNat=1+v4 by omega];have nmi:=nsB i (by omega);have nmN:ns.getD i Str.empty∉S.map (·.1):=fun z=>by
   rw[hSn]at z;obtain⟨j,hj⟩:=lc.mp z;have hji:j<i:=by have:=(η.mp hj).1;rw[Δ]at this;omega
   rw[mz hji,nsAt j (by omega)]at hj;have:=nsI j i (by omega) (by omega) (lr hj);omega
  refine yR (n:=1+v4) (fun j σ H7=>∃(o7 o8:Option V) (ps:List Addr) (fs:List (Str×Kd)),σ = [some (.ref p),some (.int 4),some (.ref nl),some (.int v2),some (.ref sl),some (.int i),some (.ref fl),o7,o8]/\St3 H7 p/\(∀b o,b≠p->b≠fl->H6 b=some o->H7 b=some o)/\H7 fl=some (.lst (ps.map V.ref))/\LF K (offs [p,sl,fl] H7) ps fs/\fs.length<=j/\(∀g∈fs,(g.2.Fit S.length/\kY g.1=true)/\∃m,m<j/\g.1=ns.getD ((v2+m*5+i) % 12) Str.empty)/\(fs.map (·.1)).Nodup/\(fs≠[]->aBd (S++[(ns.getD i Str.empty,fs)]) S.length)) ⟨_,_,[],[],rfl,d6.1,fun _ _ _ _ e=>e,kfl6,.nil,ν _,(fun g hg=>by cases hg),yd,fun z=>absurd rfl z⟩ (fun j σ H7 hj z=>?_) (fun σ H7 z=>?_)
  ·obtain⟨o7,o8,ps,fs,rfl,st7,fr7,kfl7,hLF,hfl7,hfs,hfn,hsm⟩:=z;rw[mw];have knl7:=fr7 nl _ nnp (lu nfn) knl6;have ksl7:=fr7 sl _ nsp (lu nfs) ksl6;have em:(((v2:Nat):Int)+((j:Nat):Int)*5+((i:Nat):Int)) % 12=(((v2+j*5+i) % 12:Nat):Int):=by omega
   have hm12:(v2+j*5+i) % 12<12:=Nat.mod_lt _ (by decide);have al7:Al [p,sl,fl] H7:=fun b hb=>by
    simp only[Φ,jp,or_false]at hb;rcases hb with rfl|rfl|rfl
    ·exact pN st7
    ·exact⟨_,ksl7⟩
    ·exact⟨_,kfl7⟩
   refine⟨_,rfl,_,rfl,_,rfl,_,_,rfl,rfl,.inl ⟨by omega,by omega⟩,_,_,rfl,rfl,_,rfl,_,_,rfl,rfl,_,_,rfl,rfl,(by show(0:Int)<12;decide),nl,_,_,_,rfl,rfl,SqL.of knl7,(by rw[em];exact rC (nsAt _ hm12)),_,rfl,_,rfl,p,i,[p,sl,fl],rfl,by omega,st7,by simp,al7,fun a kd H8 d8 hfit lk=>?_⟩;rw[←hSl]at hfit;have al8:=Al.drawn al7 d8;refine⟨xD,fun t ht=>?_⟩;clear 1 t H9 g9 k9 ht;have al9:=al8.same g9;have kt:offs [p,sl,fl] H9 t=_:=kP (al8.new ht) k9;have s79:jI (offs [p,sl,fl] H7) (offs [p,sl,fl] H9):=(d8.offs (by simp)).trans (kH g9);have knl9:=g9 _ _ (d8.2 nl _ nnp knl7);have ksl9:=g9 _ _ (d8.2 sl _ nsp ksl7);have kfl9:=g9 _ _ (d8.2 fl _ nfp kfl7);have lk9:=lk.same (kH g9);have hLF9:=(hLF.same s79).snoc (SqT.of kt) lk9;have s69:jI (offs [p,sl,fl] H6) (offs [p,sl,fl] H9):=vL fun b o hb e=>by
    simp only[Φ,jp,or_false,not_or]at hb;exact g9 _ _ (d8.2 b o hb.1 (fr7 b o hb.1 hb.2.2 e))
   have hLW9:=hLW6.same s69;have hpl:ps.length=fs.length:=hLF.len;have hal:=hLW.len;refine⟨_,rfl,_,rfl,_,rfl,nl,_,_,_,rfl,rfl,SqL.of knl9,rC (nsAt i (by omega)),_,rfl,_,rfl,aV,fun u1 hu1=>?_⟩;clear 1 u1 HA gA kA hu1;refine⟨fl,u1,_,_,rfl,rfl,gA _ _ kfl9,kA,(by rw[jk,δ];simp;omega),fun u2 hu2=>?_⟩;clear 1 u2 HB gB kB hu2;refine⟨xD,fun u3 hu3=>?_⟩;clear 1 u3 HC gC kC hu3;refine⟨aV,fun u4 hu4=>?_⟩;clear 1 u4 HD gD kD hu4;have g9D:=((gA.trans gB).trans gC).trans gD;refine⟨sl,u4,_,_,rfl,rfl,g9D _ _ ksl9,kD,(by rw[jk,δ];simp;omega),fun u5 hu5=>?_⟩;clear 1 u5 HE gE kE hu5;have g9E:=g9D.trans gE;have sE:jI (offs [p,sl,fl] H9) HE:=jM.trans g9E;have kB':HB u2=some (.lst ((ps++[t]).map V.ref)):=by rw[kB,χ];rfl
   have lsE:LS K HE u3 (ns.getD i Str.empty,fs++[(ns.getD ((v2+j*5+i) % 12) Str.empty,kd)]):=⟨u2,ps++[t],(gD.trans gE).tp (SqT.of kC),SqL.of ((gC.trans (gD.trans gE)) _ _ kB'),hLF9.same sE⟩;have lxE:LX K HE u5 (S++[(ns.getD i Str.empty,fs++[(ns.getD ((v2+j*5+i) % 12) Str.empty,kd)])]):=⟨as++[u3],SqL.of (by rw[kE,χ];rfl),(hLW9.same sE).snoc lsE⟩;have hfs':∀f∈fs,f.2.Fit S.length/\kY f.1=true:=fun f hf=>(hfs f hf).1;have hnew:=nsB _ hm12;have hgd:=aHq (nm:=ns.getD i Str.empty) hWS hsm (by omega) hfs' (f:=(ns.getD ((v2+j*5+i) % 12) Str.empty,kd)) hfit hnew;refine⟨u5,_,S.length,rfl,(by rw[ι];rfl),lxE,hgd,(by omega),h8,fun b HF gF hb=>⟨_,rfl,?_⟩⟩;have g9F:=g9E.trans gF;have kflF:=g9F _ _ kfl9;have frF:∀b o,b≠p->b≠fl->H6 b=some o->HF b=some o:=fun b o h1 h2 e=>g9F _ _ (g9 _ _ (d8.2 b o h1 (fr7 b o h1 h2 e)));have stF:St3 HF p:=jI.st3 (g9.trans g9F) d8.1;cases b with
   |false =>
    refine jU ⟨_,_,ps,fs,rfl,stF,frF,kflF,(hLF.same s79).same (kH g9F),by omega,fun g hg=>?_,hfn,hsm⟩;obtain⟨a1,m,hm,e⟩:=hfs g hg;exact⟨a1,m,by omega,e⟩
   |true =>
    refine qU rfl ⟨_,rfl,.inl ⟨rfl,_,SqL.of kflF⟩,_,rfl,fl,_,_,rfl,rfl,kflF,(by rw[δ];exact ms (show ps.length<=6 by omega) (by decide)),?_⟩;clear 0 fl HG gG kG;have sFG:jI (offs [p,sl,fl] HF) (offs [p,sl,fl] HG):=vL fun b o hb e=>by
     simp only[Φ,jp,or_false,not_or]at hb;exact gG b o hb.2.2 e
    have hnin:ns.getD ((v2+j*5+i) % 12) Str.empty∉fs.map (·.1):=fun z=>by
     obtain⟨g,hg,eg⟩:=jf.mp z;obtain⟨_,m,hm,e⟩:=hfs g hg;rw[e]at eg;have:=nsI _ _ (Nat.mod_lt _ (by decide)) hm12 eg;omega
    obtain⟨x3,y3,z3,est⟩:=stF;refine⟨_,_,ps++[t],fs++[(ns.getD ((v2+j*5+i) % 12) Str.empty,kd)],rfl,⟨x3,y3,z3,gG p _ (lu nfp) est⟩,fun b o h1 h2 e=>gG b o h2 (frF b o h1 h2 e),by rw[kG,χ];rfl,(hLF9.same (kH g9F)).same sFG,by rw[ι,ki];omega,fun g hg=>?_,?_,fun _=>hb rfl⟩
    ·rcases km.mp hg with hg|hg
     ·obtain⟨a1,m,hm,e⟩:=hfs g hg;exact⟨a1,m,by omega,e⟩
     ·rw[Ψ.mp hg];exact⟨⟨hfit,hnew⟩,j,by omega,rfl⟩
    ·rw[χ,ym];refine⟨hfn,ul _ _,fun a ha b hb e=>hnin ?_⟩;rw[←show b=ns.getD ((v2+j*5+i) % 12) Str.empty from Ψ.mp hb,←e];exact ha
  ·obtain⟨o7,o8,ps,fs,rfl,st7,fr7,kfl7,hLF,hfl7,hfs,hfn,hsm⟩:=z;have knl7:=fr7 nl _ nnp (lu nfn) knl6;have ksl7:=fr7 sl _ nsp (lu nfs) ksl6;have s67:jI (offs [p,sl,fl] H6) (offs [p,sl,fl] H7):=vL fun b o hb e=>by
    simp only[Φ,jp,or_false,not_or]at hb;exact fr7 b o hb.1 hb.2.2 e
   have sub:jI (offs [p,sl,fl] H7) (offs [p,sl] H7):=iS fun b hb=>by
    simp only[Φ,jp,or_false]at hb ⊢;rcases hb with hb|hb
    ·exact .inl hb
    ·exact .inr (.inl hb)
   have hLW7:=(hLW6.same s67).same sub;have fr47:∀b o,b≠p->b≠sl->H' b=some o->H7 b=some o:=fun b o h1 h2 e=>fr7 b o h1 (jL e hfl) (d6.2 b o h1 (g5 _ _ e))
   (try dsimp only)
   refine aPc (fun σ' H8=>∃(o7 o8:Option V) (fl':Addr) (ps':List Addr) (fs':List (Str×Kd)),σ'=[some (.ref p),some (.int 4),some (.ref nl),some (.int v2),some (.ref sl),some (.int i),some (.ref fl'),o7,o8]/\St3 H8 p/\(∀b o,b≠p->b≠sl->H' b=some o->H8 b=some o)/\H8 sl=some (.lst (as.map V.ref))/\SqL K (offs [p,sl] H8) fl' (ps'.map V.ref)/\LF K (offs [p,sl] H8) ps' fs'/\LW K (offs [p,sl] H8) as S/\Wel (S++[(ns.getD i Str.empty,fs')])/\∀f∈fs',f.1∉bdN) (fun σ' H8 z=>?_) (fun nx hnx=>?_)
   ·obtain⟨o7,o8,fl',ps',fs',rfl,st8,fr8,ksl8,kfl8,hLF8,hLW8,hW8,hc8⟩:=z;have knl8:=fr8 nl _ nnp nns knl';refine⟨_,rfl,.inl ⟨rfl,_,SqL.of ksl8⟩,_,rfl,_,rfl,nl,_,_,_,rfl,rfl,SqL.of knl8,rC (nsAt i (by omega)),_,rfl,xD,fun t ht=>?_⟩;clear 1 t H9 g9 k9 ht;have al8:Al [p,sl] H8:=fun b hb=>by
     simp only[Φ,jp,or_false]at hb;rcases hb with rfl|rfl
     ·exact pN st8
     ·exact⟨_,ksl8⟩
    have kt:offs [p,sl] H9 t=_:=kP (al8.new ht) k9;have s89:jI (offs [p,sl] H8) (offs [p,sl] H9):=kH g9;have hls:LS K (offs [p,sl] H9) t (ns.getD i Str.empty,fs'):=⟨fl',ps',SqT.of kt,s89.seq kfl8,hLF8.same s89⟩;have ksl9:=g9 _ _ ksl8;refine⟨sl,_,_,rfl,rfl,ksl9,(by rw[δ,hLW.len];exact ms (show S.length<=5 by omega) (by decide)),?_⟩;clear 0 sl HA gA kA;have s9A:jI (offs [p,sl] H9) (offs [p,sl] HA):=vL fun b o hb e=>by
     simp only[Φ,jp,or_false,not_or]at hb;exact gA b o hb.2 e
    obtain⟨x3,y3,z3,est⟩:=jI.st3 g9 st8;refine⟨_,_,_,_,as++[t],_,rfl,⟨x3,y3,z3,gA p _ (lu nsp) est⟩,fun b o h1 h2 e=>gA b o h2 (g9 _ _ (fr8 b o h1 h2 (fr b o h1 h2 e))),by rw[kA,χ];rfl,((hLW8.same s89).snoc hls).same s9A,by rw[ι,hSl];rfl,?_,hW8,hCl.snoc (hnc _ (μ (nsAt i (by omega)))) hc8⟩;rw[χ,hSn,jt,nsAt i (by omega)];rfl
   ·refine⟨_,rfl,bH,fun e he=>?_⟩;clear 1 e H8 g8 k8 he;have st8:=jI.st3 g8 st7;refine⟨fl,e,_,rfl,rfl,SqL.of (g8 _ _ kfl7),SqL.of k8,_,rfl,yB (fun c=>?_) (fun c=>?_)⟩
    ·refine⟨_,rfl,_,rfl,nl,_,_,_,rfl,rfl,SqL.of (g8 _ _ knl7),rC (nsAt v2 (by omega)),_,rfl,p,4,rfl,by decide,by decide,st8,fun v5 H9 hv5 d9=>⟨_,_,rfl,rfl,xD,fun t1 ht1=>?_⟩⟩;have al9:Al [p,sl] H9:=fun b hb=>by
      simp only[Φ,jp,or_false]at hb;rcases hb with rfl|rfl
      ·exact pN d9.1
      ·exact⟨_,d9.2 _ _ nsp (g8 _ _ ksl7)⟩
     clear 1 t1 HA gA kA ht1;refine⟨xD,fun t2 ht2=>?_⟩;clear 1 t2 HB gB kB ht2;refine⟨aV,fun l1 hl1=>?_⟩;clear 1 l1 HC gC kC hl1;have alA:=al9.same gA;have alB:=alA.same gB;have k1:offs [p,sl] HA t1=_:=kP (al9.new ht1) kA;have k2:offs [p,sl] HB t2=_:=kP (alA.new ht2) kB;have k3:offs [p,sl] HC l1=_:=kP (alB.new hl1) kC
     (try dsimp only at k1)
     rw[show(1:Int)+(v5:Nat)=((1+v5:Nat):Int) by omega]at k1;have sAC:jI (offs [p,sl] HA) (offs [p,sl] HC):=kH (gB.trans gC);have sBC:jI (offs [p,sl] HB) (offs [p,sl] HC):=kH gC;have s7C:jI (offs [p,sl] H7) (offs [p,sl] HC):=(kH g8).trans ((d9.offs (by simp)).trans (kH ((gA.trans gB).trans gC)));have g9C:=(gA.trans gB).trans gC;have hs4:S.length<=3:=by omega
     refine hnx _ _ ⟨_,_,l1,[t2],[(ns.getD v2 Str.empty,Kd.num (1+v5))],rfl,jI.st3 g9C d9.1,fun b o h1 h2 e=>g9C _ _ (d9.2 b o h1 (g8 _ _ (fr47 b o h1 h2 e))),g9C _ _ (d9.2 _ _ nsp (g8 _ _ ksl7)),SqL.of k3,.cons (SqT.of (sBC _ _ k2)) (.num (SqT.of (sAC _ _ k1))) .nil,hLW7.same s7C,hWS.snoc nmi nmN hs4 (by simp) (by show 1<=6;decide) (fun f hf=>?_) (ul _ _) (aIg (by omega)),fun f hf=>by rw[Ψ.mp hf];exact hnc _ (μ (nsAt v2 (by omega)))⟩;rw[Ψ.mp hf];exact⟨⟨by omega,by omega⟩,nsB v2 (by omega)⟩
    ·have hps:ps≠[]:=fun z=>c (by rw[z];rfl);have hfsne:fs≠[]:=fun z=>hps (pe.mp (by rw[hLF.len,z];rfl));have hflo:offs [p,sl] H8 fl=_:=kP (by simp only[Φ,jp,or_false,not_or];exact⟨nfp,nfs⟩) (g8 _ _ kfl7);exact hnx _ _ ⟨_,_,fl,ps,fs,rfl,st8,fun b o h1 h2 e=>g8 _ _ (fr47 b o h1 h2 e),g8 _ _ ksl7,SqL.of hflo,(hLF.same sub).same (kH g8),hLW7.same (kH g8),hWS.snoc nmi nmN (by omega) hfsne (by omega) (fun f hf=>(hfs f hf).1) hfn (hsm hfsne),fun f hf=>by obtain⟨_,m,_,e⟩:=hfs f hf;rw[e];exact hnc _ (μ (nsAt _ (Nat.mod_lt _ (by decide))))⟩
 ·obtain⟨o5,o6,o7,o8,as,S,rfl,st,fr,ksl,hLW,hSl,hSn,hWS,hCl⟩:=z;have fD:Drawn p H H':=⟨st,fun b o h e=>by
   have hb:b≠sl:=jL e hslH;exact fr b o h hb (D4.2 b o h e)⟩
  exact⟨_,rfl,q sl S H' fD hslH ⟨as,SqL.of (kP (by simpa using nsp) ksl),hLW.same (iS fun b hb=>by simp only[Φ,jp,or_false]at hb ⊢;exact .inl hb)⟩ hWS (fun z=>by rw[z]at hSl;simp at hSl;omega) hCl⟩
theorem iK{k:Nat}(F:Fun K "__init__" "RoomError.__init__" yP f fd):j4 ["self","words"] (spRE K):=by
 w_cond iB;obtain⟨e,v,C',R,fI,dx,rfl,he,cx,q⟩:=h;refine⟨_,(jE (vO (aJj VI (vI (v:=.ty "ValueError") rfl M.ValueError (show lm "ValueError" = some (.type "ValueError") from by ac_rfl) rfl) (jA (pv 0) (jA (pv 1) jB))))),?_⟩;exact⟨_,rfl,_,rfl,e,v,C',R,fI,dx,rfl,he,cx,q⟩
theorem aAq{k:Nat}(F:Fun K "is_whole" "is_whole" fS f fd):j4 ["thing"] (aKv K):=by
 w_cond wW;obtain⟨x,t,rfl,ht,q⟩:=h;refine⟨_,(jE (jJ (vN (jK qP rfl M.isinstance jd (jA (pv 0) (jA (vI (v:=.ty "int") rfl M.int boot_int rfl) jB))) (xI (aJm (jK qP rfl M.isinstance jd (jA (pv 0) (jA (vI (v:=.ty "bool") rfl M.bool boot_bool rfl) jB)))))))),?_⟩;refine⟨_,rfl,x,_,t,rfl,by decide,ht,_,rfl,yB (fun c=>⟨_,rfl,x,_,t,rfl,by decide,ht,_,rfl,?_⟩) (fun c=>?_)⟩
 ·rw[isa1 c];exact q
 ·rw[isa2 c];exact q
theorem rN(F:Fun K "is_between" "is_between" bX f fd)(cm:j7 "is_whole" (aKv K)):j4 ["thing","low","high"] spIB:=by
 w_cond rL;obtain⟨v,lo,hi,rfl,h1,h2,q⟩:=h;refine⟨_,(jE (jJ (vN (jF cm hr (jA (pv 0) jB)) (xI (aAd cZ cZ (pv 1) (pv 0) (pv 2)))))),?_⟩;refine⟨_,rfl,.int v,"int",rfl,.inl rfl,_,rfl,kR ⟨_,rfl,_,rfl,_,_,rfl,rfl,_,rfl,qU (decide_eq_true h1) ⟨_,rfl,_,_,rfl,rfl,?_⟩⟩⟩;exact(congrArg (fun b=>Q (V.bl b) H) (decide_eq_true h2)).mpr q
theorem aCb{k:Nat}(F:Fun K "bound_of" "bound_of" gK f fd):j4 ["width"] spBd:=by
 w_cond aBz;obtain⟨w,rfl,hw,q⟩:=h;refine⟨_,(jE (jJ (jY wC jC (jY zL jC (pv 0))))),?_⟩;have e:∀w:Fin 5,(1:Int)*2 ^ (8*((w.val:Nat):Int)).toNat=((256 ^ w.val:Nat):Int):=by decide
 have e':=e ⟨w,by omega⟩;refine⟨_,rfl,_,_,rfl,rfl,.inl ⟨by omega,by omega⟩,_,_,rfl,rfl,⟨by omega,by omega,by omega⟩,?_⟩;dsimp only at e' ⊢;rw[e'];exact q
theorem aEd(F:Fun K "is_word" "is_word" iU f fd)(cq:j7 "bound_of" spBd)(ce:j7 "is_between" spIB):j4 ["thing","width"] spWd:=by
 w_cond aEe;obtain⟨w,v,rfl,hw,hv,q⟩:=h;refine⟨_,(jE (jJ (jF ce hr (jA (pv 0) (jA jC (jA (jY zZ (jF cq hr (jA (pv 1) jB)) jC) jB)))))),?_⟩;refine⟨_,rfl,_,rfl,w,rfl,hw,_,_,rfl,rfl,v,0,_,rfl,(by omega),?_,q⟩;have:(v:Int)<((256 ^ w:Nat):Int):=by exact_mod_cast hv
 show(v:Int)<=((256 ^ w:Nat):Int)-1;omega
theorem mR(F:Fun K "is_number_of" "is_number_of" aH f fd)(ce:j7 "is_between" spIB):j4 ["pick","thing"] (aPp (q0 0) K):=by
 w_cond mZ;obtain⟨a,j,is,sa,rfl,ho,hj,q⟩:=h;refine⟨_,(jE (jJ (jF ce hr (jA (pv 1) (jA jC (jA (jY zZ (jK kF rfl M.len ja (jA (qD (pv 0) rfl) jB)) jC) jB)))))),?_⟩;cases ho with
 |pick h1 h2 h3 h4 =>
  refine⟨_,rfl,_,rfl,a,Vd,_,_,_,rfl,h1,Ud.cl,Ud.nd,rfl,_,_,rfl,.inr h2,_,_,rfl,rfl,j,0,_,rfl,(by omega),?_,q⟩;rw[δ,h3];show(j:Int)<=(is.length:Int)-1;omega
theorem mE(F:Fun K "may_have" "may_have" gJ f fd)(KS:KdS K (q0 0))(gw:j7 "is_word" spWd)(fj:j7 "has_fields" (dC (q0 0) K r Kd.isNest))(fv:j7 "has_count" (dC (q0 0) K r Kd.isMany))(fw:j7 "is_choice" (dC (q0 0) K r Kd.isPick)):j4 ["kind","thing"] (dC (q0 0) K r aLs):=by
 w_cond aBn;obtain⟨a,x,kd,sa,S,b,rfl,hF,hk,hf,ho,hw,hW,hc,q⟩:=h;refine⟨_,(jD (kK (kZ (jK (zC (K:=K) rfl) rfl M.isinstance jd (jA (pv 0) (jA (qL (v:=.ref Va) rfl Ua.m rfl) jB)))) (jE (jJ (jF gw hr (jA (pv 1) (jA (qD (pv 0) rfl) jB))))) jP) (jD (kK (kZ (jK (zC (K:=K) rfl) rfl M.isinstance jd (jA (pv 0) (jA (qL (v:=.ref Vb) rfl Ub.m rfl) jB)))) (jE (jJ (jF fj hr (jA (pv 0) (jA (pv 1) jB))))) jP) (jD (kK (kZ (jK (zC (K:=K) rfl) rfl M.isinstance jd (jA (pv 0) (jA (qL (v:=.ref Vc) rfl Uc.m rfl) jB)))) (jE (jJ (jF fv hr (jA (pv 0) (jA (pv 1) jB))))) jP) (jE (jJ (jF fw hr (jA (pv 0) (jA (pv 1) jB)))))))),?_⟩;have no:∀{k:Kd},(∀i,k≠.nest i)->aGn S r k K H x b->∃d,Dt false K H x d/\Can S r k d/\b=true:=fun hn z=>by
  rcases z with z|⟨i,e,_⟩
  ·exact z
  ·exact absurd e (hn i)
 cases kd with
 |num w =>
  obtain⟨d,hd,hcn,rfl⟩:=no (fun i z=>by cases z) hc;obtain⟨v,rfl,hv⟩ : ∃v:Nat,d=.int v/\v<256 ^ w:=by cases r <;> exact hcn
  cases hd;refine⟨_,rfl,.ref a,Va,_,_,rfl,KS.ty ho,KS.kit _ (.num 0),_,rfl,qU rfl ?_⟩;cases ho with
  |num h1=>exact⟨_,rfl,_,rfl,a,Va,_,_,_,rfl,h1,Ua.cl,Ua.nd,rfl,w,v,rfl,hf.2,hv,q H (jI.refl _)⟩
 |nest i =>
  exact⟨_,rfl,.ref a,Va,_,_,rfl,KS.ty ho,KS.kit _ (.num 0),_,rfl,qZ ψ ⟨_,rfl,.ref a,Vb,_,_,rfl,KS.ty ho,KS.kit _ (.nest 0),_,rfl,qU rfl ⟨_,rfl,_,rfl,a,x,_,sa,S,b,rfl,rfl,hk,hf,ho,hw,hW,hc,q⟩⟩⟩
 |many n k =>
  exact⟨_,rfl,.ref a,Va,_,_,rfl,KS.ty ho,KS.kit _ (.num 0),_,rfl,qZ ψ ⟨_,rfl,.ref a,Vb,_,_,rfl,KS.ty ho,KS.kit _ (.nest 0),_,rfl,qZ ψ ⟨_,rfl,.ref a,Vc,_,_,rfl,KS.ty ho,KS.kit _ (.many 0 (.num 0)),_,rfl,qU rfl ⟨_,rfl,_,rfl,a,x,_,sa,S,b,rfl,rfl,hk,hf,ho,hw,hW,hc,q⟩⟩⟩⟩
 |pick is =>
  exact⟨_,rfl,.ref a,Va,_,_,rfl,KS.ty ho,KS.kit _ (.num 0),_,rfl,qZ ψ ⟨_,rfl,.ref a,Vb,_,_,rfl,KS.ty ho,KS.kit _ (.nest 0),_,rfl,qZ ψ ⟨_,rfl,.ref a,Vc,_,_,rfl,KS.ty ho,KS.kit _ (.many 0 (.num 0)),_,rfl,qZ ψ ⟨_,rfl,_,rfl,a,x,_,sa,S,b,rfl,rfl,hk,hf,ho,hw,hW,hc,q⟩⟩⟩⟩
theorem sH(F:Fun K "has_fields" "has_fields" cU f fd)(bg:j7 "may_have" (dC (q0 0) K r aLs)):j4 ["kind","thing"] (dC (q0 0) K (r+1) Kd.isNest):=by
 w_cond eZ;obtain⟨a,x,kd,sa,S,b,rfl,hF,hk,hf,ho,hw,hW,hc,q⟩:=h;refine⟨_,(jD (jT 2 eZ.nd (qD (qD (pv 0) rfl) rfl)) (jD (kK (PW.pt (xL (qT (kZ (jK qP rfl M.isinstance jd (jA (pv 1) (jA (vI (v:=.ty "dict") rfl M.dict boot_dict rfl) jB))))) (xX (jS dP (jK aGq rfl M.len ja (jA (pv 1) jB)) (jK kF rfl M.len ja (jA (pv 2) jB)))))) (jE (jJ yJ)) jP) (jD (kK (qT (kZ (jK (bO rfl) rfl M.all boot_all (jA (qC ["name","inner"] ["thing"] [1] rfl (fH (pv 2)) rfl ⟨rfl,trivial⟩ ⟨⟨rfl,rfl,rfl,_,rfl⟩,trivial⟩ (fun _ _ _ _=>(yY (K:=K) (n:=2) rfl rfl (jX (qN rfl) (jX (cP rfl) qH)))) (fun _ _ _ _=>qB) (fun _ _ _ _=>(aRu (aSa hr.units1 (pv 0) (pv 2))))) jB)))) (jE (jJ yJ)) jP) (jE (jJ (jK (bO rfl) rfl M.all boot_all (jA (qC ["name","inner"] ["thing"] [1] rfl (fH (pv 2)) rfl ⟨rfl,trivial⟩ ⟨⟨rfl,rfl,rfl,_,rfl⟩,trivial⟩ (fun _ _ _ _=>(yY (K:=K) (n:=2) rfl rfl (jX (qN rfl) (jX (cP rfl) qH)))) (fun _ _ _ _=>qB) (fun _ _ _ _=>(jF bg hr (jA (pv 1) (jA (iA hr.units1 (pv 2) (pv 0) (fun _ _=>rfl)) jB))))) jB))))))),?_⟩;cases id ho with
 | @nest a dx s i e h1 =>
  obtain⟨sh,hs,so⟩:=hw.at e;obtain⟨dx2,t,ps,k1,k2,k3⟩:=id so;have pn:=qS hs;have hm:=μ hs;have zl:(ps.map V.ref).length=sh.2.length:=by rw[δ];exact k3.len
  have few:=hW.good.few i sh hs;have h6:(ps.map V.ref).length<ρ:=kQ (by omega);refine⟨_,rfl,a,Vb,_,_,_,rfl,h1,Ub.cl,Ub.nd,rfl,s,Ve,_,_,_,rfl,k1,Ue.cl,Ue.nd,rfl,?_⟩;have cs:(∃t',tyN K x H t'/\b=false)\/∃ad kvs,x=.ref ad/\H ad=some (.dK kvs)/\((kvs.length≠sh.2.length/\b=false)\/(kvs.length=sh.2.length/\(((∀f∈sh.2,zX kvs (.inr f.1)=none)/\b=false)\/((∀(j:Nat) (f:Str×Kd),sh.2[j]?=some f->∃v d,zX kvs (.inr f.1)=some v/\Dt false K H v d/\Can S r f.2 d)/\b=true)))):=by
   rcases hc with⟨d,hd,hcn,rfl⟩|⟨i',ei,hb,rfl⟩
   ·obtain⟨ds,rfl,cl⟩:=(zN (.inl ⟨i,rfl⟩)).mp hcn;rw[pn]at cl hd;obtain⟨ad,xs,rfl,h2,l2,dts⟩:=lI hd cl.len;refine .inr ⟨ad,_,rfl,h2,.inr ⟨by rw[uL (by rw[δ];exact l2),δ],.inr ⟨fun j f hf=>?_,rfl⟩⟩⟩;obtain⟨d,h3,h4⟩:=cl.get hf;obtain⟨v,h5,h6⟩:=dts.get h3;exact⟨v,d,aIo (hW.fnd _ hm) (by rw[δ];exact l2) (by rw[iq,hf];rfl) h5,h6,h4⟩
   ·cases ei;rcases hb with⟨t',ht⟩|⟨ad,kvs,rfl,h2,h3⟩
    ·exact .inl ⟨t',ht,rfl⟩
    ·rw[pn]at h3
     by_cases hl:kvs.length=sh.2.length
     ·exact .inr ⟨ad,kvs,rfl,h2,.inr ⟨hl,.inl ⟨h3.resolve_left (fun z=>z hl),rfl⟩⟩⟩
     ·exact .inr ⟨ad,kvs,rfl,h2,.inl ⟨hl,rfl⟩⟩
  rcases cs with⟨t',ht,rfl⟩|⟨ad,kvs,rfl,hd,cs⟩
  ·exact⟨_,rfl,x,_,t',rfl,by decide,.inl ht,_,rfl,qU (by rw[aJr ht];rfl) (bW (q H (jI.refl _)))⟩
  refine⟨_,rfl,.ref ad,_,"dict",rfl,by decide,.inr ⟨rfl,ad,kvs,rfl,hd⟩,_,rfl,jU ⟨_,rfl,ad,kvs,rfl,hd,_,rfl,t,_,rfl,.inr k2,rfl,_,rfl,?_⟩⟩;rcases cs with⟨hl,rfl⟩|⟨hl,cs⟩
  ·exact qU (by rw[zl];simp;omega) (q H (jI.refl _))
  refine qZ (by rw[zl];simp;omega) ⟨_,rfl,t,rfl,⟨_,k2⟩,zU (xs:=ps.map V.ref) (fun j ys H'=>H'=H/\ys=((sh.2.take j).map fun f=>(zX kvs (.inr f.1)).isSome).map V.bl) ⟨rfl,rfl⟩ (fun j ys H' _ z=>⟨by rw[z.1];exact k2,by rw[z.2,δ,δ,Δ];exact jz _ _⟩) h6 (fun j x ys H' os ho' hx z=>?_) (fun ys H' z p hp=>?_)⟩
  ·obtain⟨rfl,rfl⟩:=z;obtain⟨o1,o2,rfl⟩:=wK ho';obtain⟨u,hu,rfl⟩:=qE hx;obtain⟨nm,kd,k,hf2,ht,_⟩:=k3.get hu;refine⟨u,_,rfl,ht,rfl,_,_,rfl,_,_,rfl,rfl,_,rfl,_,rfl,ad,_,rfl,cF.k (k:=.inr nm) hd,⟨rfl,?_⟩,[_,_],rfl,rfl⟩;rw[vB hf2,χ];rfl
  ·obtain⟨rfl,rfl⟩:=z;clear 1 p H1 g1 kp hp;rw[zl,kO]at kp;refine⟨p,_,rfl,SqL.of kp,_,rfl,?_⟩;rcases cs with⟨hn,rfl⟩|⟨hy,rfl⟩
   ·rw[aGx (hW.good.ne i sh hs) (fun f hf=>by rw[hn f hf];rfl)];exact qU rfl (q H1 g1)
   rw[aE (fun f hf=>by obtain⟨j,hj⟩:=lc.mp hf;obtain⟨v,d,hv,_⟩:=hy j f hj;rw[hv];rfl)];refine jU ⟨_,rfl,t,rfl,⟨_,g1.tp k2⟩,zU (xs:=ps.map V.ref) (fun j ys H2=>jI H1 H2/\ys=((sh.2.take j).map fun _=>true).map V.bl) ⟨jI.refl _,rfl⟩ (fun j ys H2 _ z=>⟨z.1.tp (g1.tp k2),by rw[z.2,δ,δ,Δ];exact jz _ _⟩) h6 (fun j x ys H2 os ho' hx z=>?_) (fun ys H2 z p2 hp2=>?_)⟩
   ·obtain⟨g2,rfl⟩:=z;obtain⟨o1,o2,rfl⟩:=wK ho';obtain⟨u,hu,rfl⟩:=qE hx;obtain⟨nm,kd,k,hf2,ht,hko⟩:=k3.get hu;obtain⟨v,d,hv,hdt,hcn⟩:=hy j _ hf2;have g12:=g1.trans g2;have hko':=hko.more (sa.drop i);rw[lh]at hko';obtain⟨p1,p2,_⟩:=Kd.parts_ok hW.good hf hk (f:=(nm,kd)) (by rw[pn];exact μ hf2);refine⟨u,_,rfl,g12.tp ht,rfl,_,_,rfl,_,_,rfl,rfl,_,rfl,_,rfl,_,rfl,ad,v,rfl,(by rw[←hv];exact cF.k (k:=.inr nm) (g12 _ _ hd)),k,v,kd,sa,S,true,rfl,rfl,p1,p2,hko'.same g12,hw.same g12,hW,.inl ⟨d,hdt.same g12,hcn,rfl⟩,fun H3 g3=>⟨⟨g2.trans g3,?_⟩,[_,_],rfl,rfl⟩⟩;rw[vB hf2,χ];rfl
   ·obtain⟨g2,rfl⟩:=z;clear 1 p2 H3 g3 kp3 hp2;rw[zl,kO]at kp3;refine⟨p2,_,rfl,SqL.of kp3,?_⟩;rw[aE (fun f hf=>rfl)];exact q H3 ((g1.trans g2).trans g3)
 |_=>cases hF
theorem uF(F:Fun K "has_count" "has_count" dH f fd)(bg:j7 "may_have" (dC (q0 0) K r aLs)):j4 ["kind","thing"] (dC (q0 0) K (r+1) Kd.isMany):=by
 w_cond uH;obtain⟨a,x,kd,sa,S,b,rfl,hF,hk,hf,ho,hw,hW,hc,q⟩:=h;refine⟨_,(jD (kK (PW.pt (xL (qT (kZ (jK qP rfl M.isinstance jd (jA (pv 1) (jA (vI (v:=.ty "list") rfl M.list xx rfl) jB))))) (xX (jS dP (jK kF rfl M.len ja (jA (pv 1) jB)) (qD (pv 0) rfl))))) (jE (jJ yJ)) jP) (jE (jJ (jK (bO rfl) rfl M.all boot_all (jA (qC ["item"] ["kind"] [0] rfl (qO (pv 1)) rfl ⟨rfl,trivial⟩ ⟨⟨rfl,rfl,rfl,_,rfl⟩,trivial⟩ (fun _ _ _ _=>(qN rfl)) (fun _ _ _ _=>qB) (fun _ _ _ _=>(jF bg hr (jA (nI (K:=K) rfl (pv 1) rfl) (jA (pv 0) jB))))) jB))))),?_⟩;cases id ho with
 | @many a dx b' n k h1 h2 =>
  rcases hc with⟨d,hd,hcn,rfl⟩|⟨i',ei,_⟩
  case inr=>cases ei
  obtain⟨ds,rfl,cl⟩:=(zN (.inr ⟨n,k,rfl⟩)).mp hcn;have hl:n=ds.length:=by have:=cl.len;rw[←this];show _=((jg n).map _).length;rw[δ,jm]
  cases hd with
  | @lst ad xs _ hx hz dts =>
   have lx:=dts.length;have hn:n<=6:=hf.2.1;refine⟨_,rfl,.ref ad,_,"list",rfl,by decide,.inl (.inl ⟨rfl,_,hx⟩),_,rfl,jU ⟨_,rfl,ad,xs,rfl,.inl hx,_,rfl,a,Vc,_,_,_,rfl,h1,Uc.cl,Uc.nd,rfl,rfl,_,rfl,qZ (by rw[lx,←hl];simp) ⟨_,rfl,ad,rfl,⟨_,hx⟩,xW (xs:=xs) (fun j ys H'=>jI H H'/\ys=((ds.take j).map fun _=>true).map V.bl) ⟨jI.refl _,rfl⟩ (fun j ys H' _ z=>⟨z.1.seq hx,by rw[z.2,δ,δ,Δ];exact jz _ _⟩) (kQ (by omega)) (fun j v ys H' hv z=>?_) (fun ys H' z p hp=>?_)⟩⟩⟩
   ·obtain⟨g,rfl⟩:=z;have hj:j<ds.length:=by rw[←lx];exact(η.mp hv).1
    have hdj:ds[j]?=some ds[j]:=θ hj;obtain⟨v',hv',hdt⟩:=dts.get hdj;rw[hv]at hv';cases hv';have hpj:((Kd.many n k).parts S)[j]?=some (ε (toString j),k):=by
     show((jg n).map _)[j]?=_;rw[iq,rh (by omega)];rfl
    obtain⟨d,hd1,hd2⟩:=cl.get hpj;rw[hdj]at hd1;cases hd1;obtain⟨p1,p2,_⟩:=Kd.parts_ok hW.good hf hk (μ hpj);refine⟨_,rfl,a,Vc,_,_,_,rfl,g _ _ h1,Uc.cl,Uc.nd,rfl,_,rfl,b',v,k,sa,S,true,rfl,rfl,p1,p2,h2.same g,hw.same g,hW,.inl ⟨_,hdt.same g,hd2,rfl⟩,fun H3 g3=>⟨⟨g.trans g3,?_⟩,_,rfl⟩⟩;rw[vB hdj,χ];rfl
   ·obtain⟨g,rfl⟩:=z;clear 1 p H3 g3 kp3 hp;rw[lx,kO]at kp3;refine⟨p,_,rfl,SqL.of kp3,?_⟩;rw[aE (fun f hf=>rfl)];exact q H3 (g.trans g3)
 |_=>cases hF
theorem uT(F:Fun K "is_choice" "is_choice" eN f fd)(dw:j7 "is_number_of" (aPp (q0 0) K))(ci:j7 "is_record" (aJn (q0 0) K r)):j4 ["kind","thing"] (dC (q0 0) K (r+1) Kd.isPick):=by
 w_cond wR;obtain⟨a,x,kd,sa,S,b,rfl,hF,hk,hf,ho,hw,hW,hc,q⟩:=h;refine⟨_,(jD (kK (PW.pt (xL (qT (kZ (jK qP rfl M.isinstance jd (jA (pv 1) (jA (vI (v:=.ty "tuple") rfl M.tuple boot_tuple rfl) jB))))) (xX (jS dP (jK kF rfl M.len ja (jA (pv 1) jB)) jC)))) (jE (jJ yJ)) jP) (jE (jJ (vN (jF dw hr (jA (pv 0) (jA (jH jV (pv 1) jC) jB))) (xI (jF ci hr (jA (jH jV (qD (pv 0) rfl) (jH jV (pv 1) jC)) (jA (jH jV (pv 1) jC) jB)))))))),?_⟩;cases id ho with
 | @pick a dx t is ss h1 h2 h3 h4 =>
  rcases hc with⟨d,hd,hcn,rfl⟩|⟨i',ei,_⟩
  case inr=>cases ei
  obtain⟨j,i,e,hi,rfl,hce⟩ : ∃(j i:Nat) (e:ο),is[j]?=some i/\d=.tuple [.int j,e]/\Can S r (.nest i) e:=hcn;cases hd with
  | @tup ad xs _ hx dts =>
   cases dts with
   |cons hd0 dts =>
    cases dts with
    | @cons x1 _ _ _ hd1 dts =>
     cases dts;cases hd0;have hj:j<is.length:=(η.mp hi).1;have hsj:ss[j]?=some ss[j]:=θ (by omega);have hsa:=h4 j i _ hi hsj;refine⟨_,rfl,.ref ad,_,"tuple",rfl,by decide,.inl (.inr ⟨rfl,_,hx⟩),_,rfl,jU ⟨_,rfl,ad,_,rfl,.inr hx,rfl,_,rfl,qZ (by simp) ⟨_,rfl,_,rfl,ad,_,_,_,rfl,rfl,hx,rfl,a,j,is,sa,rfl,ho,hj,_,rfl,qU rfl ?_⟩⟩⟩;refine⟨_,rfl,a,Vd,_,_,_,rfl,h1,Ud.cl,Ud.nd,rfl,_,rfl,ad,_,_,_,rfl,rfl,hx,rfl,t,_,_,_,rfl,rfl,h2,?_,_,rfl,ad,_,_,_,rfl,rfl,hx,rfl,ss[j],x1,i,sa,S,true,rfl,hsa,?_,hw,hW,.inl ⟨e,hd1,hce,rfl⟩,q⟩
     ·exact xR hsj
     ·have:=hk i (μ hi);omega
 |_=>cases hF
theorem gZ(F:Fun K "is_record" "is_record" dI f fd)(ak:j8 cIv (rW Vb "shape"))(bg:j7 "may_have" (dC (q0 0) K r aLs)):j4 ["shape","thing"] (aJn (q0 0) K r):=by
 w_cond uR;obtain⟨s,x,i,sa,S,b,rfl,e,hi,hw,hW,hc,q⟩:=h;refine⟨_,(jE (jJ (jF bg hr (jA (yQ Ub ak hr0 rfl qR (jA (pv 0) jB)) (jA (pv 1) jB))))),?_⟩;have hil:i<S.length:=by rw[←hw.1];exact(η.mp e).1
 refine⟨_,rfl,fun y dx hy hdx _=>⟨y,dx,.ref s,H,rfl,jQ,bJ hy hdx,hy,fun H1 g1 k1=>⟨rfl,_,rfl,y,x,.nest i,sa,S,b,rfl,rfl,hi,hil,.nest e k1,hw.same g1,hW,hc.same g1,fun H2 g2=>q H2 (g1.trans g2)⟩⟩⟩
theorem rS(F:Fun K "flat_under" "flat_under" cO f fd)(KS:KdS K (q0 0))(ap:j7 "joined" dW)(ak:j8 cIv (rW Vb "shape"))(ay:∀C sp,aGf (q0 0) K C sp->zS P w K mg base CX0 k "parted" C sp)(bh:j7 "flat_under" (spFU (q0 0) K r)):j4 ["kind","path","value"] (spFU (q0 0) K (r+1)):=by
 w_cond vW;obtain⟨a,p,x,kd,sa,S,d,r0,er,rfl,hp,hsp,hk,hf,ho,hw,hW,hd,hc,q⟩:=h;cases er;refine⟨_,(jD (kK (kZ (jK (zC (K:=K) rfl) rfl M.isinstance jd (jA (pv 0) (jA (qL (v:=.ref Va) rfl Ua.m rfl) jB)))) (jE (jJ (kU (jA (kT (jA (pv 1) (jA (pv 2) jB))) jB)))) jP) (jD (kK (kZ (jK (zC (K:=K) rfl) rfl M.isinstance jd (jA (pv 0) (jA (qL (v:=.ref Vd) rfl Ud.m rfl) jB)))) (jD (bY (pv 2) (xP rfl (jX (kS 3 vW.nd) (jX (kS 4 vW.nd) qH)))) (jD (jT 5 vW.nd (jH jV (qD (pv 0) rfl) (pv 3))) (jE (jJ (jY yS (kU (jA (kT (jA (jF ap hr (jA (pv 1) (jA jO jB))) (jA (pv 3) jB))) jB)) (jF bh hr (jA (yQ Ub ak hr0 rfl qR (jA (pv 5) jB)) (jA (jF ap hr (jA (pv 1) (jA (qD (pv 5) rfl) jB))) (jA (pv 4) jB))))))))) jP) (jD (jT 6 vW.nd (kU jB)) (jD (xG jx rfl (qO (yC (pv 0) ay hr qR)) (xP rfl (jX (kS 7 vW.nd) (jX (kS 8 vW.nd) qH))) (jE (vO (zP jq PySem.F.slot_list_extend PySem.F.type_list_extend sR (pv 6) (jA (jF bh hr (jA (pv 8) (jA (jF ap hr (jA (pv 1) (jA (pv 7) jB))) (jA (aSi (jH jW (pv 2) (pv 7)) (iA hr.units1 (pv 2) (pv 7) (fun _ _=>rfl))) jB)))) jB))))) (jE (jJ (pv 6))))))),?_⟩;have bd:∀{r:Nat}{kd':Kd}{d':ο}{p':Str},Sml p'->kd'.Rk r->kd'.Fit S.length->Can S r kd' d'->(flv S r kd' p' d').length<=6000:=fun h1 h2 h3 h4=>by
  have:=(aDt hW.good hW.nms h3 h2 h4 _ h1).1;have:=Kd.size_bd hW.good.sz (by decide) h3;omega
 rcases Kd.three kd with hpd|⟨w,rfl⟩|⟨is,rfl⟩
 ·obtain⟨n1,n2⟩:=Kd.Pd.sam hpd;refine⟨_,rfl,.ref a,Va,_,_,rfl,KS.ty ho,KS.kit _ (.num 0),_,rfl,qZ (by rw[n1];decide) ⟨_,rfl,.ref a,Vd,_,_,rfl,KS.ty ho,KS.kit _ (.pick []),_,rfl,qZ (by rw[n2];decide) ⟨bH,fun l hl=>?_⟩⟩⟩;cases r with
  |zero=>rcases hpd with⟨_,rfl⟩|⟨_,_,rfl⟩ <;> exact hc.elim
  |succ r =>
  obtain⟨ds,rfl,cl⟩:=(zN hpd).mp hc;have hb0:=bd hsp hk hf hc;rw[lW hpd p cl.len]at hb0 q;have lens:∀j,(flL (flv S r) ((kd.parts S).take j) p (ds.take j)).length<=6000:=fun j=>by
   have e1:flL (flv S r) (kd.parts S) p ds=flL (flv S r) ((kd.parts S).take j++(kd.parts S).drop j) p (ds.take j++ds.drop j):=by rw[lh,lh]
   rw[e1,nV p (by rw[Δ,Δ,cl.len]),ι]at hb0;omega
  generalize e1:upd H l _=H1;obtain⟨g1,k1⟩:=qA e1 hl;refine⟨_,rfl,tQ (sN (by simp)) hpd hf (ho.same g1) (hw.same g1) hW.good fun l2 H2 g2 hl2 zq=>?_⟩;obtain⟨tt,k2,zl,pr⟩:=zq;have kl2:=g2 _ _ k1;have n2:l2≠l:=lu (jL k1 hl2);refine⟨l2,rfl,⟨_,SqL.of k2⟩,xM (xs:=tt.map V.ref) (fun j σ H'=>∃o3 o4 o5 o7 o8,σ = [some (.ref a),some (.str p),some x,o3,o4,o5,some (.ref l),o7,o8]/\But l H2 H'/\RL K H' l (flL (flv S r) ((kd.parts S).take j) p (ds.take j))) ⟨_,_,_,_,_,rfl,But.refl,[],kl2,.nil⟩ (fun j σ H' _ z=>?_) (fun j x' σ H' hx z=>?_) (fun σ H' z=>?_)⟩
  ·obtain⟨o3,o4,o5,o7,o8,rfl,g,_⟩:=z;exact SqL.of (g _ _ n2 k2)
  ·obtain⟨o3,o4,o5,o7,o8,rfl,g,us,ku,ur⟩:=z;obtain⟨t,ht,rfl⟩:=qE hx;obtain⟨y,kd',kk,hps,hq,hko⟩:=pr _ _ ht;have gH:jI H H':=But.from (g1.trans g2) hl g;obtain⟨p1,p2,p3,p4⟩:=Kd.parts_ok hW.good hf hk (μ hps);have p4':y.length<=6:=p4;have hsy:=yU hW.nms hf (μ hps);have hyl:=xO (p:=p) p4';refine⟨t,_,rfl,g.tup kl2 hq,rfl,_,_,rfl,_,_,rfl,rfl,_,rfl,.inl ⟨rfl,_,SqL.of ku⟩,_,rfl,_,rfl,_,rfl,p,_,y,rfl,aDc hf hps,(by omega),(by omega),_,rfl,_,rfl,aRz hpd (hW.pnd hf) (hd.same gH) cl.len hps fun v d hdj hdv=>?_⟩;obtain⟨d',hd',hcd⟩:=cl.get hps;rw[hdj]at hd';cases hd';refine⟨kk,pj p y,v,kd',sa,S,d,r,rfl,rfl,(by omega),hsp.pj hsy,p1,p2,hko.but g kl2,hw.same gH,hW,hdv,hcd,fun l3 H3 g3 hl3 zq=>?_⟩;obtain⟨us3,k3,ur3⟩:=zq;have ku3:=g3 _ _ ku;have h6:=lens (j+1);rw[bP cl.len hps hdj,ι,←ur.len,←ur3.len]at h6;refine⟨l,l3,_,_,rfl,rfl,ku3,k3,(by rw[jk,δ,δ];omega),?_⟩;clear 0 l H4 g4 k4;refine⟨_,_,_,_,_,rfl,(g.trans (But.of g3)).trans g4,us++us3,by rw[χ];exact k4,?_⟩;rw[bP cl.len hps hdj];exact((ur.same g3).but g4 ku3).app (ur3.but g4 ku3)
  ·obtain⟨o3,o4,o5,o7,o8,rfl,g,u⟩:=z;rw[δ,zl,kO,cl.len,kO]at u;exact⟨_,rfl,q l H' (But.from (g1.trans g2) hl g) hl u⟩
 ·obtain⟨v,rfl,hv⟩ : ∃v:Nat,d=.int v/\v<256 ^ w:=by cases r <;> exact hc
  cases hd;have e:flv S r (.num w) p (.int v)=[(p,(v:Int))]:=by cases r <;> rfl
  rw[e]at q;refine⟨_,rfl,.ref a,Va,_,_,rfl,KS.ty ho,KS.kit _ (.num 0),_,rfl,qU rfl ⟨_,rfl,_,rfl,xD,fun t ht=>?_⟩⟩;generalize e1:upd H t _=H1;obtain⟨g1,k1⟩:=qA e1 ht;refine⟨aV,fun l hl=>?_⟩;clear 1 l H2 g2 k2 hl;exact q l H2 (g1.trans g2) (g1.free hl) ⟨[t],k2,.cons (g2.tp (SqT.of k1)) .nil⟩
 ·cases r with
  |zero=>exact hc.elim
  |succ r =>
  obtain⟨j,i,e,hi,rfl,hce⟩ : ∃(j i:Nat) (e:ο),is[j]?=some i/\d=.tuple [.int j,e]/\Can S r (.nest i) e:=hc;have eg:is.getD ((j:Int).toNat) 0=i:=by rw[nq,ω,hi];rfl
  have ef:flv S (r+1) (.pick is) p (.tuple [.int j,e])=(pj p yL,(j:Int))::flv S r (.nest i) (pj p (kL S i)) e:=by
   show _::flv S r (.nest (is.getD ((j:Int).toNat) 0)) (pj p (kL S (is.getD ((j:Int).toNat) 0))) e=_;rw[eg]
  rw[ef]at q;cases hd with
  | @tup ad xs _ hx dts =>
   cases dts with
   |cons hd0 dts =>
    cases dts with
    | @cons x1 _ _ _ hd1 dts =>
     cases dts;cases hd0;cases id ho with
     | @pick a dx t is ss h1 h2 h3 h4 =>
      have hjs:j<ss.length:=by have:=(η.mp hi).1;omega
      obtain⟨sj,hsj⟩ : ∃s,ss[j]?=some s:=⟨_,θ hjs⟩;have hsa:=h4 j i _ hi hsj;obtain⟨sh,hs,dx2,t2,ps,k1,_⟩:=hw.at hsa;have hil:i<S.length:=(η.mp hs).1;obtain⟨n6,nsm⟩:=hW.nms.nm i hil;have hki:=hk i (μ hi);have enm:kL S i=sh.1:=vF hs;have hyl:=xO (p:=p) n6;have htl:=xO (p:=p) (x:=yL) (by decide);have hb1:=bd (p':=pj p (kL S i)) (hsp.pj nsm) (show(Kd.nest i).Rk r by show 2*i+2<=r;omega) hil hce;refine⟨_,rfl,.ref a,Va,_,_,rfl,KS.ty ho,KS.kit _ (.num 0),_,rfl,qZ ψ ⟨_,rfl,.ref a,Vd,_,_,rfl,KS.ty ho,KS.kit _ (.pick []),_,rfl,qU rfl ⟨_,rfl,ad,_,rfl,hx,rfl,_,_,rfl,_,_,rfl,rfl,?_⟩⟩⟩;refine⟨_,rfl,a,Vd,_,_,_,rfl,h1,Ud.cl,Ud.nd,rfl,_,rfl,t,_,_,_,rfl,rfl,h2,xR hsj,?_⟩;refine⟨_,rfl,p,.str yL,yL,rfl,rfl,(by omega),(by decide),_,rfl,xD,fun t1 ht1=>?_⟩;generalize e1:upd H t1 _=H1;obtain⟨g1,kt1⟩:=qA e1 ht1;refine⟨aV,fun l1 hl1=>?_⟩;clear 1 l1 H2 g2 kl1 hl1;have g12:=g1.trans g2;refine⟨_,rfl,fun y dy hy hdy _=>⟨y,dy,.ref sj,H2,rfl,jQ,bJ hy hdy,hy,fun H3 g3 k3=>⟨rfl,?_⟩⟩⟩;have g13:=g12.trans g3;refine⟨_,rfl,_,rfl,sj,Ve,_,_,_,rfl,g13 _ _ k1,Ue.cl,Ue.nd,rfl,p,.str sh.1,sh.1,rfl,rfl,(by omega),(by rw[←enm];omega),_,rfl,?_⟩;rw[←enm];refine⟨y,pj p (kL S i),x1,.nest i,sa,S,e,r,rfl,rfl,(by omega),hsp.pj nsm,(by show 2*i+2<=r;omega),hil,.nest hsa k3,hw.same g13,hW,hd1.same g13,hce,fun l3 H4 g4 hl3 zq=>?_⟩;obtain⟨us,ku,ur⟩:=zq;have hul:=ur.len;refine⟨l1,l3,_,_,rfl,rfl,(g3.trans g4) _ _ kl1,ku,(by rw[jk,δ,hul];simp;omega),fun l5 hl5=>?_⟩;clear 1 l5 H5 g5 k5 hl5;exact q l5 H5 ((g13.trans g4).trans g5) ((g13.trans g4).free hl5) ⟨t1::us,k5,.cons ((((g2.trans g3).trans g4).trans g5).tp (SqT.of kt1)) (ur.same g5)⟩
theorem lJ(F:Fun K "__init__" "NoRecord.__init__" zM f fd)(df:DfI K bw ["self","words"])(dg:kJ P w K mg base CX0 k fRE bw ["self","words"] (spRE K)):j6 ["self","found"] (spXn aa ["found"]):=by
 w_cond lO
 ·obtain⟨e,xs,rfl,hl,_⟩:=h;exact congrArg (·+1) hl
 obtain⟨e,xs,rfl,hl,he,q⟩:=h;refine⟨_,(jD (vO (aHv tRE.i (qL (v:=.ref cRE) rfl tRE.m rfl) dg hr df.b .nil qR (jA (pv 0) (jA jO jB)))) (jE (aMy (pv 0) (pv 1) rfl))),?_⟩
 match xs,hl,q with
 |[x0],_,q =>
  refine⟨_,rfl,e,_,aa,cRE,ah,none,rfl,he,af.c,?_⟩;refine⟨_,rfl,_,rfl,e,aa,cRE,ah,rfl,af.c,af.n _ (by simp),.inl ⟨he,fun dx hd=>?_⟩⟩;have F1:=Fl.first (CN:=aa) (f:="found") (y:=x0) he hd;exact q dx _ F1
theorem aMp(F:Fun K "flat" "flat" aDv f fd)(ci:j7 "is_record" (aJn (q0 0) K r))(bh:j7 "flat_under" (spFU (q0 0) K (r+1)))(ak:j8 cIv (rW Vb "shape"))(ao:yF P w K mg base (CXE P w) k ah (spXn aa ["found"])):j6 ["shape","record"] (aLv (q0 0) aa K r):=by
 w_cond aNd;obtain⟨s,x,i,sa,S,rfl,e,hi,h8,hw,hW,hc⟩:=h;refine⟨_,(jD (kK (qT (kZ (jF ci hr (jA (pv 0) (jA (pv 1) jB))))) (jE (nK af ao hr0 rfl nH (jA (pv 1) jB))) jP) (jE (jJ (jF bh hr (jA (yQ Ub ak hr0 rfl qR (jA (pv 0) jB)) (jA jO (jA (pv 1) jB))))))),?_⟩;have hil:i<S.length:=by rw[←hw.1];exact(η.mp e).1
 rcases hc with⟨d,hd,hcn,q⟩|⟨hb,qx⟩
 ·refine⟨_,rfl,_,rfl,s,x,i,sa,S,true,rfl,e,hi,hw,hW,.inl ⟨d,hd,hcn,rfl⟩,fun H1 g1=>⟨_,rfl,jU ⟨_,rfl,fun y dx hy hdx _=>⟨y,dx,.ref s,H1,rfl,jQ,bJ hy hdx,hy,fun H2 g2 k2=>⟨rfl,_,rfl,?_⟩⟩⟩⟩⟩;have g12:=g1.trans g2;exact⟨y,Str.empty,x,.nest i,sa,S,d,r,rfl,rfl,(by show 0+8*(r+1)<=200;omega),rfl,hi,hil,.nest e k2,hw.same g12,hW,hd.same g12,hcn,fun l H3 g3 hl u=>q l H3 (g12.trans g3) (g12.free hl) u⟩
 ·exact⟨_,rfl,_,rfl,s,x,i,sa,S,false,rfl,e,hi,hw,hW,.inr ⟨i,rfl,hb,rfl⟩,fun H1 g1=>⟨_,rfl,qU rfl ⟨je,_,rfl,(by show 1<=1000;decide),fun e he=>⟨e,[_],rfl,rfl,jQ,fun dx H1 F=>⟨rfl,e,some dx,rfl,F.ae,(by obtain⟨g9,he9,x9⟩:=yO (g1) he F;exact qx e _ g9 he9 x9)⟩⟩⟩⟩⟩
theorem aHh(F:Fun K "is_row" "is_row" oX f fd)(cm:j7 "is_whole" (aKv K)):j4 ["thing"] (aPd K):=by
 w_cond aHd;obtain⟨x,d,rfl,hd,q⟩:=h;refine⟨_,(jE (jJ (vN (jK qP rfl M.isinstance jd (jA (pv 0) (jA (vI (v:=.ty "tuple") rfl M.tuple boot_tuple rfl) jB))) (vN (qK kW (jK kF rfl M.len ja (jA (pv 0) jB)) jC (vG _)) (vN (jK qP rfl M.isinstance jd (jA (jH jV (pv 0) jC) (jA (vI (v:=.ty "str") rfl M.str boot_str rfl) jB))) (xI (jF cm hr (jA (jH jV (pv 0) jC) jB)))))))),?_⟩;have ty:=hd.ty;have no:tyD d ≠ "tuple"->gP d=false:=fun z=>by cases d <;> first|rfl|exact absurd rfl z
 cases hd with
 | @tup a xs ds hx hds =>
  refine⟨_,rfl,.ref a,_,"tuple",rfl,by decide,.inl ty,_,rfl,kR ⟨_,rfl,a,xs,rfl,.inr hx,rfl,_,rfl,?_⟩⟩;have lx:=hds.length
  by_cases h2:xs.length=2
  ·refine qU (by rw[h2];rfl) ?_;cases hds with
   |nil=>cases h2
   |cons d0 hds=>cases hds with
    |nil=>cases h2
    |cons d1 hds=>cases hds with
     |cons _ _=>simp at h2
     |nil =>
      rw[aKk]at q;refine⟨_,rfl,a,_,_,_,rfl,rfl,hx,rfl,_,_,_,rfl,by decide,.inl d0.ty,_,rfl,yB (fun c=>?_) (fun c=>?_)⟩
      ·exact⟨_,rfl,a,_,_,_,rfl,rfl,hx,rfl,_,_,rfl,.inl d1.ty,by rw[c,ue]at q;exact q⟩
      ·rw[qz.mpr c,qt]at q;exact q
  ·refine qZ (by simp;omega) ?_;have:gP (.tuple ds)=false:=by
    match ds,lx with
    |[],_=>rfl
    |[x],_=>cases x <;> rfl
    |[_,_],z=>exact absurd z h2
    |x::y::_::_,_=>cases x <;> cases y <;> rfl
   rw[this]at q;exact q
 |non=>exact⟨_,rfl,_,_,"NoneType",rfl,by decide,.inl ty,_,rfl,jU q⟩
 |bl b=>exact⟨_,rfl,_,_,"bool",rfl,by decide,.inl ty,_,rfl,jU q⟩
 |int i=>exact⟨_,rfl,_,_,"int",rfl,by decide,.inl ty,_,rfl,jU q⟩
 |str z=>exact⟨_,rfl,_,_,"str",rfl,by decide,.inl ty,_,rfl,jU q⟩
 |lst _ _=>exact⟨_,rfl,_,_,"list",rfl,by decide,.inl ty,_,rfl,jU q⟩
theorem pK(F:Fun K "number_from" "number_from" aZ f fd)(ao:yF P w K mg base (CXE P w) k ah (spXn aa ["found"])):j6 ["path","bound","rows","at"] (aPf aa K):=by
 w_cond oS;obtain⟨p,b,rl,i,ds,rfl,hr',q,qx⟩:=h;refine⟨_,(jD (kK (PW.pt (xL (jS op_ge (pv 3) (jK kF rfl M.len ja (jA (pv 2) jB))) (xL (jS dP (jH jV (jH jW (pv 2) (pv 3)) jC) (pv 0)) (xX (qT (iO cZ aGe jC (jH jV (jH jW (pv 2) (pv 3)) jC) (pv 1))))))) (jE (nK af ao hr0 rfl nH (jA (pv 2) jB))) jP) (jE (jJ (jH jV (jH jW (pv 2) (pv 3)) jC)))),?_⟩
 by_cases hi:i<ds.length
 ·obtain⟨xs,t,p0,v0,hx,lx,hxi,ht,ed⟩:=hr'.row hi;have IX:∀{Q':VK},Q' (.ref t) H->aGp K (.ref rl) (.int i) H Q':=fun z=>⟨rl,xs,i,_,rfl,rfl,hx,xB hxi,z⟩;rw[ed]at q qx;refine⟨_,rfl,_,rfl,rl,xs,rfl,.inl hx,_,_,rfl,rfl,_,rfl,qZ (by rw[lx];simp;omega) ⟨_,rfl,_,rfl,rl,xs,i,_,rfl,rfl,hx,xB hxi,t,_,_,_,rfl,rfl,ht,rfl,_,rfl,rfl,_,rfl,yB (fun c=>?_) (fun c=>?_)⟩⟩
  ·refine bW ?_;have hn:nx p b (xJ (p0,v0)::ds.drop (i+1))=none:=if_neg (fun z=>by rw[show p0=p from z.1]at c;simp at c);exact⟨je,_,rfl,(by show 1<=1000;decide),fun e he=>⟨e,[_],rfl,rfl,jQ,fun dx H1 F=>⟨rfl,e,some dx,rfl,F.ae,(by obtain⟨g9,he9,x9⟩:=yO (jI.refl _) he F;exact qx hn e _ g9 he9 x9)⟩⟩⟩
  ·have cp:p0=p:=by simpa using c
   subst cp;have no:¬ (0<=v0/\v0<b)->nx p0 b (xJ (p0,v0)::ds.drop (i+1))=none:=fun z=>if_neg (fun y=>z y.2);refine⟨_,rfl,_,rfl,rl,xs,i,_,rfl,rfl,hx,xB hxi,t,_,_,_,rfl,rfl,ht,rfl,_,_,rfl,rfl,_,rfl,yB (fun c1=>?_) (fun c1=>?_)⟩
   ·refine⟨_,rfl,_,_,rfl,rfl,_,rfl,?_⟩
    by_cases c2:v0<b
    ·refine qZ (by simpa using c2) ⟨_,rfl,_,rfl,rl,xs,i,_,rfl,rfl,hx,xB hxi,t,_,_,_,rfl,rfl,ht,rfl,q v0 (uV (by simpa using c1) c2)⟩
    ·exact qU (by simpa using c2) ⟨je,_,rfl,(by show 1<=1000;decide),fun e he=>⟨e,[_],rfl,rfl,jQ,fun dx H1 F=>⟨rfl,e,some dx,rfl,F.ae,(by obtain⟨g9,he9,x9⟩:=yO (jI.refl _) he F;exact qx (no (fun z=>c2 z.2)) e _ g9 he9 x9)⟩⟩⟩
   ·exact⟨_,rfl,qU rfl ⟨je,_,rfl,(by show 1<=1000;decide),fun e he=>⟨e,[_],rfl,rfl,jQ,fun dx H1 F=>⟨rfl,e,some dx,rfl,F.ae,(by obtain⟨g9,he9,x9⟩:=yO (jI.refl _) he F;exact qx (no (fun z=>c1 (by simpa using z.1))) e _ g9 he9 x9)⟩⟩⟩⟩
 ·obtain⟨⟨xs,hx,hds⟩,hrw,few⟩:=id hr';have hn:nx p b (ds.drop i)=none:=by rw[List.drop_of_length_le (by omega)];rfl
  exact⟨_,rfl,_,rfl,rl,xs,rfl,.inl hx,_,_,rfl,rfl,_,rfl,qU (by rw[hds.length];simp;omega) (bW ⟨je,_,rfl,(by show 1<=1000;decide),fun e he=>⟨e,[_],rfl,rfl,jQ,fun dx H1 F=>⟨rfl,e,some dx,rfl,F.ae,(by obtain⟨g9,he9,x9⟩:=yO (jI.refl _) he F;exact qx hn e _ g9 he9 x9)⟩⟩⟩)⟩
theorem aBv(F:Fun K "gathered" "gathered" fZ f fd)(KS:KdS K (q0 0))(ay:∀C sp,aGf (q0 0) K C sp->zS P w K mg base CX0 k "parted" C sp):j4 ["kind","values"] (spGa (q0 0) K):=by
 w_cond aBw;obtain⟨a,vl,kd,sa,S,xs,ds,ys,rfl,hpd,hf,ho,hw,hW,al,nvl,hv,hdt,hl,q⟩:=h;refine⟨_,(jD (kK (kZ (jK (zC (K:=K) rfl) rfl M.isinstance jd (jA (pv 0) (jA (qL (v:=.ref Vc) rfl Uc.m rfl) jB)))) (jE (jJ (pv 1))) jP) (jE (jJ (wX ["name","inner","value"] [] [] rfl (aMq rfl M.zip (jA (yC (pv 0) ay hr qR) (jA (pv 1) jB))) rfl trivial trivial (fun _ _ _ _=>(yY (K:=K) (n:=2) rfl rfl (jX (yY (K:=K) (n:=2) rfl rfl (jX (qN rfl) (jX (cP rfl) qH))) (jX (nX (i:=2) (show List.Nodup (["name","inner","value"]:List Str) from by ac_rfl) rfl (Or.inl rfl)) qH)))) (fun _ _ _ _=>qB) (fun _ _ _ _=>(pv 0)) (fun _ _ _ _=>(pv 2)))))),?_⟩;rcases id hpd with⟨i,rfl⟩|⟨n,k,rfl⟩
 ·refine⟨_,rfl,.ref a,Vc,_,_,rfl,KS.ty ho,KS.kit _ (.many 0 (.num 0)),_,rfl,qZ ψ ?_⟩;refine⟨false,false,_,rfl,tQ (sN (by simp)) hpd hf ho hw hW.good fun l2 H2 g2 hl2 zq=>?_⟩;obtain⟨tt,k2,zl,pr⟩:=zq;have kv2:=g2 _ _ hv;have lx:xs.length=ds.length:=hdt.length;have zx:xs.length=(tt.map V.ref).length:=by rw[δ,lx,zl,hl]
  have e0:(((Kd.nest i).parts S).map (·.1)).length=xs.length:=by rw[δ,lx,hl]
  refine⟨_,rfl,l2,vl,_,_,rfl,SqL.of k2,SqL.of kv2,aEi (fun D j zs H'=>jI H2 H'/\H2 D=none/\H' D=some (.dK zs)/\zs=kz ((((Kd.nest i).parts S).map (·.1)).take j) (xs.take j)) zx (fun D hD=>⟨(jI.refl H2).putn hD,hD,jQ,rfl⟩) (fun D j zs H' _ z=>⟨z.1.seq (SqL.of k2),z.1.seq (SqL.of kv2)⟩) (fun D j x y zs H' p os ho' hx hy z hp=>?_) (fun D zs H' z=>?_)⟩
  ·obtain⟨g,hD,kD,rfl⟩:=z;obtain⟨t,ht,rfl⟩:=qE hx;obtain⟨y',kd',kk,hps,hq,hko⟩:=pr _ _ ht;obtain⟨o1,o2,o3,rfl⟩:=len3 ho';clear 1 p H3 g3 k3 hp;have nk:(((Kd.nest i).parts S).map (·.1))[j]?=some y':=by rw[iq,hps];rfl
   refine⟨p,_,rfl,SqT.of k3,rfl,_,_,rfl,t,_,rfl,(g.trans g3).tp hq,rfl,?_⟩;refine⟨_,_,rfl,_,_,rfl,rfl,_,_,rfl,rfl,_,rfl,_,rfl,.inr y',rfl,g3 _ _ kD,?_,⟨(g.trans g3).putn hD,hD,jQ,aQj (hW.pnd hf i rfl) e0 nk hy⟩,[_,_,_],rfl,rfl⟩;have h6:((Kd.nest i).parts S).length<=6:=by
    have hs:S[i]?=some S[i]:=θ (show i<S.length from hf);rw[qS hs];exact hW.good.few i _ hs
   rw[uL (by rw[Δ,Δ,e0]),Δ,δ];exact ms (Θ (Nat.min_le_right _ _) h6) (by decide)
  ·obtain⟨g,hD,kD,rfl⟩:=z;rw[←zx,kO,←e0,kO]at kD;have nD:D∉ys:=(al.same g2).new hD;exact q (.ref D) H' (g2.trans g) (aDs (kP nD kD) (hl.trans lx.symm) (hdt.same (kH (g2.trans g)))) (.inr fun b eb=>by cases eb;exact g2.free hD)
 ·exact⟨_,rfl,.ref a,Vc,_,_,rfl,KS.ty ho,KS.kit _ (.many 0 (.num 0)),_,rfl,qU rfl ⟨_,rfl,q _ H (jI.refl _) (.lst (SqL.of (kP nvl hv)) (fun z=>nomatch z) hdt) (.inl rfl)⟩⟩
theorem sK(F:Fun K "value_from" "value_from" cV f fd)(KS:KdS K (q0 0))(cu:Cal P w K mg base (CXE P w) k "number_from" (aPf aa K))(cq:j7 "bound_of" spBd)(ap:j7 "joined" dW)(ak:j8 cIv (rW Vb "shape"))(ay:∀C sp,aGf (q0 0) K C sp->zS P w K mg base CX0 k "parted" C sp)(gm:j7 "gathered" (spGa (q0 0) K))(bo:Cal P w K mg base (CXE P w) k "value_from" (spVF (q0 0) aa K r)):j6 ["kind","path","rows","at"] (spVF (q0 0) aa K (r+1)):=by
 w_cond qI;obtain⟨a,p,rl,i,kd,sa,S,ds,r0,ys,er,rfl,hp,hk,hf,ho,hw,hW,hrw,al,q,qx⟩:=h;cases er;refine⟨_,(jD (kK (kZ (jK (zC (K:=K) rfl) rfl M.isinstance jd (jA (pv 0) (jA (qL (v:=.ref Va) rfl Ua.m rfl) jB)))) (jE (jJ (kT (jA (aI cu hr rfl (aAv fun _ _ _ z=>z) (jA (pv 1) (jA (jF cq hr (jA (qD (pv 0) rfl) jB)) (jA (pv 2) (jA (pv 3) jB))))) (jA (jY qJ (pv 3) jC) jB))))) jP) (jD (kK (kZ (jK (zC (K:=K) rfl) rfl M.isinstance jd (jA (pv 0) (jA (qL (v:=.ref Vd) rfl Ud.m rfl) jB)))) (jD (jT 4 qI.nd (aI cu hr rfl (aAv fun _ _ _ z=>z) (jA (jF ap hr (jA (pv 1) (jA jO jB))) (jA (jK kF rfl M.len ja (jA (qD (pv 0) rfl) jB)) (jA (pv 2) (jA (pv 3) jB)))))) (jD (jT 5 qI.nd (jH jV (qD (pv 0) rfl) (pv 4))) (jD (bY (aI bo hr rfl (aAv fun _ _ _ z=>z) (jA (yQ Ub ak hr0 rfl qR (jA (pv 5) jB)) (jA (jF ap hr (jA (pv 1) (jA (qD (pv 5) rfl) jB))) (jA (pv 2) (jA (jY qJ (pv 3) jC) jB))))) (xP rfl (jX (kS 6 qI.nd) (jX (kS 7 qI.nd) qH)))) (jE (jJ (kT (jA (kT (jA (pv 4) (jA (pv 6) jB))) (jA (pv 7) jB)))))))) jP) (jD (jT 8 qI.nd (kU jB)) (jD (jT 7 qI.nd (pv 3)) (jD (xG ownE rfl (qO (yC (pv 0) ay hr qR)) (xP rfl (jX (kS 9 qI.nd) (jX (kS 10 qI.nd) qH))) (jD (bY (aI bo hr rfl (aAv fun _ _ _ z=>z) (jA (pv 10) (jA (jF ap hr (jA (pv 1) (jA (pv 9) jB))) (jA (pv 2) (jA (pv 7) jB))))) (xP rfl (jX (kS 11 qI.nd) (jX (kS 7 qI.nd) qH)))) (jE (vO (zP jq mj mm yD (pv 8) (jA (pv 11) jB)))))) (jE (jJ (kT (jA (jF gm hr (jA (pv 0) (jA (pv 8) jB))) (jA (pv 7) jB)))))))))),?_⟩;rcases Kd.three kd with hpd|⟨w,rfl⟩|⟨is,rfl⟩
 ·obtain⟨n1,n2⟩:=Kd.Pd.sam hpd;refine⟨_,rfl,.ref a,Va,_,_,rfl,KS.ty ho,KS.kit _ (.num 0),_,rfl,qZ (by rw[n1];decide) ⟨_,rfl,.ref a,Vd,_,_,rfl,KS.ty ho,KS.kit _ (.pick []),_,rfl,qZ (by rw[n2];decide) ⟨bH,fun l hl=>?_⟩⟩⟩;cases r with
  |zero=>exact(fO hpd hk).elim
  |succ r =>
  rw[iV hpd]at q qx;clear 1 l H1 g1 k1 hl;have few:(kd.parts S).length<=6:=by
   rcases hpd with⟨j,rfl⟩|⟨n,k,rfl⟩
   ·have hs:S[j]?=some S[j]:=θ (show j<S.length from hf);rw[qS hs];exact hW.good.few j _ hs
   ·show((jg n).map _).length<=6;rw[δ,jm];exact hf.2.1
  refine⟨_,rfl,_,rfl,tQ (sN (by simp)) hpd hf (ho.same g1) (hw.same g1) hW.good fun l2 H2 g2 hl2 zq=>?_⟩;obtain⟨tt,k2,zl,pr⟩:=zq;have kl2:=g2 _ _ k1;have n2:l2≠l:=lu (jL k1 hl2);have nly:l∉ys:=al.new hl;have alB:∀{H':Hp}{zs:List V},But l H2 H'->H' l=some (.lst zs)->Al (l::ys) H':=fun {H' zs} g kl b hb=>by
   rcases Φ.mp hb with rfl|hb
   ·exact⟨_,kl⟩
   ·obtain⟨o,ho'⟩:=al b hb;exact⟨o,g b o (fun z=>nly (z ▸ hb)) ((g1.trans g2) _ _ ho')⟩
  refine⟨l2,rfl,⟨_,SqL.of k2⟩,xM (xs:=tt.map V.ref) (fun j σ H'=>∃o4 o5 o6 o9 o10 o11 es m zs,σ = [some (.ref a),some (.str p),some (.ref rl),some (.int i),o4,o5,o6,some (.int ((i+m:Nat):Int)),some (.ref l),o9,o10,o11]/\But l H2 H'/\H' l=some (.lst zs)/\Dts false K (offs (l::ys) H') zs es/\rdL (rdv S r) ((kd.parts S).take j) p (ds.drop i)=some (es,m)) ⟨_,_,_,_,_,_,[],0,[],rfl,But.refl,kl2,.nil,rfl⟩ (fun j σ H' _ z=>?_) (fun j x' σ H' hx z=>?_) (fun σ H' z=>?_)⟩
  ·obtain⟨o4,o5,o6,o9,o10,o11,es,m,zs,rfl,g,_⟩:=z;exact SqL.of (g _ _ n2 k2)
  ·obtain⟨o4,o5,o6,o9,o10,o11,es,m,zs,rfl,g,kl,hdt,hrd⟩:=z;obtain⟨t,ht,rfl⟩:=qE hx;obtain⟨y,kd',kk,hps,hq,hko⟩:=pr _ _ ht;have gH:jI H H':=But.from (g1.trans g2) hl g;obtain⟨p1,p2,p3,p4⟩:=Kd.parts_ok hW.good hf hk (μ hps);have p4':y.length<=6:=p4;have hyl:=xO (p:=p) p4';obtain⟨nx1,nx2⟩:=rA hps hrd;have edr:ds.drop (i+m)=(ds.drop i).drop m:=by rw[vz]
   have hzl:zs.length<=6:=by have h1:=hdt.length;have h2:=nW hrd;rw[Δ]at h2;omega
   refine⟨t,_,rfl,g.tup kl2 hq,rfl,_,_,rfl,_,_,rfl,rfl,_,rfl,_,rfl,_,rfl,p,_,y,rfl,aDc hf hps,(by omega),(by omega),_,rfl,_,rfl,kk,pj p y,rl,i+m,kd',sa,S,ds,r,l::ys,rfl,rfl,(by omega),p1,p2,hko.but g kl2,hw.same gH,hW,hrw.same gH,alB g kl,fun d m' hrv t' v H3 g3 ht' hdv hfr=>?_,fun hno=>?_⟩
   ·rw[edr]at hrv;refine⟨t',_,rfl,ht',rfl,_,_,rfl,_,_,rfl,rfl,_,rfl,.inl ⟨rfl,_,SqL.of (g3 _ _ kl)⟩,_,rfl,l,_,_,rfl,rfl,g3 _ _ kl,ms hzl (by decide),?_⟩;clear 0 l H4 g4 k4;have s34:jI (offs (l::ys) H3) (offs (l::ys) H4):=vL fun b o hb e=>g4 b o (fun z=>hb (by rw[z];simp)) e;refine⟨o4,o5,o6,some (stV kd j y),some (.ref kk),some v,es++[d],m+m',zs++[v],?_,(g.trans (But.of g3)).trans g4,k4,((hdt.same (kH g3)).snoc hdv).same s34,nx2 d m' hrv⟩;rw[show i+(m+m')=i+m+m' by omega];rfl
   ·rw[edr]at hno;exact(qx (by rw[nx1 hno];rfl)).from gH
  ·obtain⟨o4,o5,o6,o9,o10,o11,es,m,zs,rfl,g,kl,hdt,hrd⟩:=z;rw[δ,zl,kO]at hrd;have gH:jI H H':=But.from (g1.trans g2) hl g;have alH:Al ys H':=al.same gH;refine⟨_,rfl,_,rfl,a,l,kd,sa,S,zs,es,ys,rfl,hpd,hf,ho.same gH,hw.same gH,hW,alH,nly,kl,hdt.same (iS fun b hb=>Ξ _ hb),(nW hrd).symm,fun v H5 g5 hdv hv=>⟨_,rfl,xD,fun t ht=>?_⟩⟩;clear 1 t H6 g6 k6 ht;refine q _ m (by rw[hrd];rfl) t v H6 ((gH.trans g5).trans g6) (SqT.of k6) (hdv.same (kH g6)) ?_;rcases hv with rfl|hv
   ·intro b eb;cases eb;exact hl
   ·exact fun b eb=>gH.free (hv b eb)
 ·have e:rdv S r (.num w) p (ds.drop i)=(nx p (256 ^ w) (ds.drop i)).map fun v=>(.int v,1):=by cases r <;> rfl
  rw[e]at q qx;cases id ho with
  |num h1 =>
   refine⟨_,rfl,.ref a,Va,_,_,rfl,KS.ty ho,KS.kit _ (.num 0),_,rfl,qU rfl ⟨_,rfl,_,rfl,a,Va,_,_,_,rfl,h1,Ua.cl,Ua.nd,rfl,w,rfl,hf.2,_,rfl,_,rfl,p,_,rl,i,ds,rfl,hrw,fun v hv=>?_,fun hn=>?_⟩⟩
   ·have hv':nx p (256 ^ w) (ds.drop i)=some v:=by simpa using hv
    rw[hv']at q;refine⟨_,rfl,_,_,rfl,rfl,xD,fun t ht=>?_⟩;clear 1 t H1 g1 k1 ht;exact q (.int v) 1 rfl t (.int v) H1 g1 (SqT.of k1) (.int v) (fun b eb=>by cases eb)
   ·have hn':nx p (256 ^ w) (ds.drop i)=none:=by simpa using hn
    rw[hn']at qx;exact qx rfl
 ·cases r with
  |zero=>exact(tx _ (hk _ (md (show 0<is.length by have:=hf.1;omega)))).elim
  |succ r =>
  cases id ho with
  | @pick a dx t is ss h1 h2 h3 h4 =>
   have htl:=xO (p:=p) (x:=yL) (by decide);have er:rdv S (r+1) (.pick is) p (ds.drop i)=(nx (pj p yL) is.length (ds.drop i)).bind fun j=>(rdv S r (.nest (is.getD j.toNat 0)) (pj p (kL S (is.getD j.toNat 0))) ((ds.drop i).drop 1)).map fun x=>(.tuple [.int j,x.1],1+x.2):=rfl;rw[er]at q qx;refine⟨_,rfl,.ref a,Va,_,_,rfl,KS.ty ho,KS.kit _ (.num 0),_,rfl,qZ ψ ⟨_,rfl,.ref a,Vd,_,_,rfl,KS.ty ho,KS.kit _ (.pick []),_,rfl,qU rfl ⟨_,rfl,p,.str yL,yL,rfl,rfl,(by omega),(by decide),_,rfl,a,Vd,_,_,_,rfl,h1,Ud.cl,Ud.nd,rfl,t,_,rfl,.inr h2,_,rfl,_,rfl,?_⟩⟩⟩;refine⟨pj p yL,_,rl,i,ds,rfl,hrw,fun v hv=>?_,fun hno=>?_⟩
   ·rw[δ,h3]at hv;obtain⟨v0,v1,rest,ed⟩:=eR hv;obtain⟨j,rfl⟩:=qy v0;have hjl:j<is.length:=by exact_mod_cast v1
    obtain⟨i',hi'⟩ : ∃s,is[j]?=some s:=⟨_,θ hjl⟩;obtain⟨sj,hsj⟩ : ∃s,ss[j]?=some s:=⟨_,θ (h3 ▸ hjl)⟩;have hsa:=h4 j i' _ hi' hsj;obtain⟨sh,hs,dx2,t2,ps,k1,_⟩:=hw.at hsa;have hil:i'<S.length:=(η.mp hs).1;obtain⟨n6,nsm⟩:=hW.nms.nm i' hil;have hki:=hk i' (μ hi');have enm:kL S i'=sh.1:=vF hs;have hyl:=xO (p:=p) n6;have eg:is.getD ((j:Int).toNat) 0=i':=by rw[nq,ω,hi'];rfl
    rw[hv]at q qx;simp only[wg]at q qx;rw[eg,vz]at q qx;refine⟨_,rfl,a,Vd,_,_,_,rfl,h1,Ud.cl,Ud.nd,rfl,_,rfl,t,_,_,_,rfl,rfl,h2,xR hsj,_,rfl,fun y dy hy hdy _=>⟨y,dy,.ref sj,H,rfl,jQ,bJ hy hdy,hy,fun H3 g3 k3=>⟨rfl,?_⟩⟩⟩;refine⟨_,rfl,_,rfl,sj,Ve,_,_,_,rfl,g3 _ _ k1,Ue.cl,Ue.nd,rfl,p,.str sh.1,sh.1,rfl,rfl,(by omega),(by rw[←enm];omega),_,rfl,_,rfl,_,_,rfl,rfl,?_⟩;rw[←enm];refine⟨y,pj p (kL S i'),rl,i+1,.nest i',sa,S,ds,r,ys,rfl,rfl,(by omega),(by show 2*i'+2<=r;omega),hil,.nest hsa k3,hw.same g3,hW,hrw.same g3,al.same g3,fun d m hrv t' v H4 g4 ht' hdv hfr=>?_,fun hno=>?_⟩
    ·refine⟨t',_,rfl,ht',rfl,_,_,rfl,_,_,rfl,rfl,_,rfl,_,rfl,xD,fun t5 ht5=>?_⟩;clear 1 t5 H5 g5 k5 ht5;refine⟨_,rfl,xD,fun t6 ht6=>?_⟩;clear 1 t6 H6 g6 k6 ht6;have n5:t5∉ys:=((al.same g3).same g4).new ht5;refine q (.tuple [.int j,d]) (1+m) (by rw[hrv];rfl) t6 (.ref t5) H6 (((g3.trans g4).trans g5).trans g6) ?_ (.tup (SqT.of (kP n5 (g6 _ _ k5))) (.cons (.int _) (.cons (hdv.same (kH (g5.trans g6))) .nil))) (fun b eb=>by cases eb;exact(g3.trans g4).free ht5);rw[show i+(1+m)=i+1+m by omega];exact SqT.of k6
    ·exact(qx (by rw[hno];rfl)).from g3
   ·rw[δ,h3]at hno;rw[hno]at qx;exact qx rfl
theorem aEk{r:Nat}(F:Fun K "of_flat" "of_flat" lS f fd)(ic:j7 "is_row" (aPd K))(bo:Cal P w K mg base (CXE P w) k "value_from" (spVF (q0 0) aa K (r+1)))(ak:j8 cIv (rW Vb "shape"))(ao:yF P w K mg base (CXE P w) k ah (spXn aa ["found"])):j6 ["shape","rows"] (spOF (q0 0) aa K r):=by
 w_cond gI;obtain⟨s,x,i,sa,S,d,rfl,e,hi,h8,hw,hW,hd,hsz,q,qx⟩:=h;refine⟨_,(jD (kK (PW.pt (xL (qT (kZ (jK qP rfl M.isinstance jd (jA (pv 1) (jA (vI (v:=.ty "list") rfl M.list xx rfl) jB))))) (xX (qT (kZ (jK (bO rfl) rfl M.all boot_all (jA (qC ["row"] [] [] rfl (qO (pv 1)) rfl trivial trivial (fun _ _ _ _=>(qN rfl)) (fun _ _ _ _=>qB) (fun _ _ _ _=>(jF ic hr (jA (pv 0) jB)))) jB))))))) (jE (nK af ao hr0 rfl nH (jA (pv 1) jB))) jP) (jD (bY (aI bo hr rfl (aAv fun _ _ _ z=>z) (jA (yQ Ub ak hr0 rfl qR (jA (pv 0) jB)) (jA jO (jA (pv 1) (jA jC jB))))) (xP rfl (jX (kS 2 gI.nd) (jX (kS 3 gI.nd) qH)))) (jD (kK (jS dP (pv 3) (jK kF rfl M.len ja (jA (pv 1) jB))) (jE (nK af ao hr0 rfl nH (jA (pv 1) jB))) jP) (jE (jJ (pv 2)))))),?_⟩;have hil:i<S.length:=by rw[←hw.1];exact(η.mp e).1
 rcases hd with hd|⟨⟨ad,kvs,rfl,hk⟩,ps,rfl⟩
 case inr=>exact⟨_,rfl,.ref ad,_,"dict",rfl,by decide,.inr ⟨rfl,ad,kvs,rfl,hk⟩,_,rfl,kR (bW ⟨je,_,rfl,(by show 1<=1000;decide),fun e he=>⟨e,[_],rfl,rfl,jQ,fun dx H1 F=>⟨rfl,e,some dx,rfl,F.ae,(by obtain⟨g9,he9,x9⟩:=yO (jI.refl _) he F;exact qx rfl e _ g9 he9 x9)⟩⟩⟩)⟩
 have ty:=hd.ty;cases hd with
 |non=>exact⟨_,rfl,_,_,"NoneType",rfl,by decide,.inl ty,_,rfl,kR (bW ⟨je,_,rfl,(by show 1<=1000;decide),fun e he=>⟨e,[_],rfl,rfl,jQ,fun dx H1 F=>⟨rfl,e,some dx,rfl,F.ae,(by obtain⟨g9,he9,x9⟩:=yO (jI.refl _) he F;exact qx rfl e _ g9 he9 x9)⟩⟩⟩)⟩
 |bl b=>exact⟨_,rfl,_,_,"bool",rfl,by decide,.inl ty,_,rfl,kR (bW ⟨je,_,rfl,(by show 1<=1000;decide),fun e he=>⟨e,[_],rfl,rfl,jQ,fun dx H1 F=>⟨rfl,e,some dx,rfl,F.ae,(by obtain⟨g9,he9,x9⟩:=yO (jI.refl _) he F;exact qx rfl e _ g9 he9 x9)⟩⟩⟩)⟩
 |int n=>exact⟨_,rfl,_,_,"int",rfl,by decide,.inl ty,_,rfl,kR (bW ⟨je,_,rfl,(by show 1<=1000;decide),fun e he=>⟨e,[_],rfl,rfl,jQ,fun dx H1 F=>⟨rfl,e,some dx,rfl,F.ae,(by obtain⟨g9,he9,x9⟩:=yO (jI.refl _) he F;exact qx rfl e _ g9 he9 x9)⟩⟩⟩)⟩
 |str z=>exact⟨_,rfl,_,_,"str",rfl,by decide,.inl ty,_,rfl,kR (bW ⟨je,_,rfl,(by show 1<=1000;decide),fun e he=>⟨e,[_],rfl,rfl,jQ,fun dx H1 F=>⟨rfl,e,some dx,rfl,F.ae,(by obtain⟨g9,he9,x9⟩:=yO (jI.refl _) he F;exact qx rfl e _ g9 he9 x9)⟩⟩⟩)⟩
 |tup _ _=>exact⟨_,rfl,_,_,"tuple",rfl,by decide,.inl ty,_,rfl,kR (bW ⟨je,_,rfl,(by show 1<=1000;decide),fun e he=>⟨e,[_],rfl,rfl,jQ,fun dx H1 F=>⟨rfl,e,some dx,rfl,F.ae,(by obtain⟨g9,he9,x9⟩:=yO (jI.refl _) he F;exact qx rfl e _ g9 he9 x9)⟩⟩⟩)⟩
 | @lst rl xs ds hx hds =>
  have lx:=hds.length;have few:=hsz ds rfl;refine⟨_,rfl,.ref rl,_,"list",rfl,by decide,.inl ty,_,rfl,jU ⟨_,rfl,rl,rfl,⟨_,hx⟩,xW (xs:=xs) (fun j zs H'=>H'=H/\zs=((ds.take j).map gP).map V.bl) ⟨rfl,rfl⟩ (fun j zs H' _ z=>⟨by rw[z.1];exact hx,by rw[z.2,δ,δ,Δ];exact jz _ _⟩) (kQ (by omega)) (fun j v zs H' hv z=>?_) (fun zs H' z p hp=>?_)⟩⟩
  ·obtain⟨rfl,rfl⟩:=z;obtain⟨dj,hdj,hdv⟩:=hds.get hv;refine⟨_,rfl,v,dj,rfl,hdv,⟨rfl,?_⟩,_,rfl⟩;rw[vB hdj,χ];rfl
  ·obtain⟨rfl,rfl⟩:=z;clear 1 p H1 g1 kp hp;rw[lx,kO]at kp;refine⟨p,_,rfl,SqL.of kp,_,rfl,?_⟩
   by_cases hall:∀d∈ds,gP d=true
   ·rw[aE hall];refine jU ⟨_,rfl,fun y dy hy hdy _=>⟨y,dy,.ref s,H1,rfl,jQ,bJ hy hdy,hy,fun H2 g2 k2=>⟨rfl,_,rfl,?_⟩⟩⟩;have g12:=g1.trans g2;have eq0:oY S r i (.list ds)=(rdv S r (.nest i) Str.empty ds).bind fun x=>if x.2=ds.length then some x.1 else none:=rfl
    rw[eq0]at q qx;refine⟨y,Str.empty,rl,0,.nest i,sa,S,ds,r,[],rfl,rfl,(by show 0+8*(r+1)<=200;omega),hi,hil,.nest e k2,hw.same g12,hW,⟨⟨xs,g12.seq hx,hds.same g12⟩,hall,few⟩,(fun b hb=>by cases hb),fun d m hrv t v H3 g3 ht hdv hfr=>?_,fun hno=>?_⟩
    ·rw[yh]at hrv;rw[hrv]at q qx;have g13:=g12.trans g3;refine⟨t,_,rfl,ht,rfl,_,_,rfl,_,_,rfl,rfl,_,rfl,_,rfl,rl,xs,rfl,.inl (g13.seq hx),rfl,_,rfl,?_⟩
     by_cases hm:m=ds.length
     ·exact qZ (by rw[lx];simp;omega) ⟨_,rfl,q d (if_pos hm) v H3 g13 (hdv.same jM) (fun b eb=>g12.free (hfr b eb))⟩
     ·exact qU (by rw[lx];simp;omega) ⟨je,_,rfl,(by show 1<=1000;decide),fun e he=>⟨e,[_],rfl,rfl,jQ,fun dx H1 F=>⟨rfl,e,some dx,rfl,F.ae,(by obtain⟨g9,he9,x9⟩:=yO (g13) he F;exact qx (if_neg hm) e _ g9 he9 x9)⟩⟩⟩
    ·rw[yh]at hno;exact(qx (by rw[hno];rfl)).from g12
   ·have hf':(ds.map gP).all id=false:=qz.mpr fun z=>hall fun d hd=>ji.mp z _ (jf.mpr ⟨d,hd,rfl⟩);rw[hf'];exact qU rfl ⟨je,_,rfl,(by show 1<=1000;decide),fun e he=>⟨e,[_],rfl,rfl,jQ,fun dx H1 F=>⟨rfl,e,some dx,rfl,F.ae,(by obtain⟨g9,he9,x9⟩:=yO (g1) he F;exact qx (aKp hall) e _ g9 he9 x9)⟩⟩⟩
theorem tT{k:Nat}(F:Fun K "_law_whole" "_law_whole" dE f fd):j4 ["_law_found"] (aKv K):=by
 w_cond uZ;obtain⟨x,t,rfl,ht,q⟩:=h;refine⟨_,(jE (jJ (vN (jK qP rfl M.isinstance jd (jA (pv 0) (jA (vI (v:=.ty "int") rfl M.int boot_int rfl) jB))) (xI (aJm (jK qP rfl M.isinstance jd (jA (pv 0) (jA (vI (v:=.ty "bool") rfl M.bool boot_bool rfl) jB)))))))),?_⟩;refine⟨_,rfl,x,_,t,rfl,by decide,ht,_,rfl,yB (fun c=>⟨_,rfl,x,_,t,rfl,by decide,ht,_,rfl,?_⟩) (fun c=>?_)⟩
 ·rw[isa1 c];exact q
 ·rw[isa2 c];exact q
theorem aBg(F:Fun K "_law_word" "_law_word" gN f fd)(ac:j7 "_law_take" fL):j4 ["_law_box_here","_law_width"] aPr:=by
 w_cond mL;obtain⟨p,w,rfl,h1,h4,hs,q⟩:=h;refine⟨_,(PSx.h (qF (xU (jT 2 mL.nd (jY zZ (jY wC jC (jY zL jC (pv 1))) jC))) (qW (xQ (hJ (jR (kI jC) (jR (kI (pv 2)) (jR (kI jC) (jR (kI (jY zK jC (jY qJ (pv 2) jC))) (jR (kI (jF ac hr (jA (pv 0) (jA (jY qJ (pv 2) jC) jB)))) (jR (kI (jF ac hr (jA (pv 0) (jA (jY qJ (pv 2) jC) jB)))) vS aEw) aEw) fN) kM) yX) kM) (kI (jF ac hr (jA (pv 0) (jA jC jB)))) (fun _ _=>rfl)))))),?_⟩;have e:∀w:Fin 5,(1:Int)*2 ^ (8*((w.val:Nat):Int)).toNat=((256 ^ w.val:Nat):Int)/\256 ^ w.val<=4294967296/\(1<=w.val->256<=256 ^ w.val):=by decide
 obtain⟨e',b1,b2⟩:=e ⟨w,by omega⟩;have b2':=b2 h1;dsimp only at e' b1 b2';generalize 256 ^ w=M at *;refine⟨_,rfl,_,_,rfl,rfl,.inl ⟨by omega,by omega⟩,_,_,rfl,rfl,⟨by omega,by omega,by omega⟩,_,_,rfl,rfl,?_⟩
 (try dsimp only)
 rw[e'];have eM:(M:Int)-1+1=M:=by omega
 refine⟨_,rfl,_,rfl,_,_,rfl,rfl,_,_,rfl,rfl,(by rw[eM];omega),_,rfl,_,rfl,_,_,rfl,rfl,p,_,rfl,(by rw[eM];omega),(by rw[eM];omega),hs,fun v1 H1 hv1 d1=>⟨_,rfl,_,rfl,_,_,rfl,rfl,p,_,rfl,(by rw[eM];omega),(by rw[eM];omega),d1.1,fun v2 H2 hv2 d2=>⟨(by show 6<=ρ;decide),fun ml hml=>?_⟩⟩⟩;clear 1 ml H3 g3 k3 hml;have nm:ml≠p:=bU d2.1 hml;refine⟨_,rfl,p,6,rfl,by decide,by decide,jI.st3 g3 d2.1,fun v3 H4 hv3 d4=>?_⟩;have k4:=d4.2 ml _ nm k3;have D4:Drawn p H H4:=((d1.trans d2).keep g3).trans d4;have m256:∃n:Nat,(256:Int) % (M-1+1)=n/\n<M:=⟨256 % M,by rw[eM];exact(Int.natCast_emod 256 M).symm,Nat.mod_lt _ (by omega)⟩;obtain⟨n3,e3',l3⟩:=m256;obtain⟨n,hat,hn⟩ : ∃n:Nat,atI [V.int 0,V.int ((M:Int)-1),V.int 1,V.int (256 % ((M:Int)-1+1)),V.int v1,V.int v2] (v3:Int)=some (.int n)/\n<M:=by
  rw[e3',show(M:Int)-1=((M-1:Nat):Int) by omega]
  match v3,hv3 with
  |0,_=>exact⟨0,rfl,by omega⟩
  |1,_=>exact⟨M-1,rfl,by omega⟩
  |2,_=>exact⟨1,rfl,by omega⟩
  |3,_=>exact⟨n3,rfl,l3⟩
  |4,_=>exact⟨v1,rfl,by omega⟩
  |5,_=>exact⟨v2,rfl,by omega⟩
  |n+6,h=>exact absurd h (by omega)
 exact⟨ml,_,_,_,rfl,rfl,SqL.of k4,hat,q n H4 hn D4⟩
theorem aAo(F:Fun K "_law_flat" "_law_flat" fP f fd)(am:j7 "_law_joined" spLJ)(bp:j7 "_law_flat" (aFy K r)):j4 ["_law_kind_here","_law_shapes_here","_law_path","_law_value"] (aFy K (r+1)):=by
 w_cond vR;obtain⟨a,sl,p,x,kd,S,d,r0,er,rfl,hp,hsp,hk,hf,hlk,hlx,hW,hd,hc,q⟩:=h;cases er;refine⟨_,(jD (kK (jS kW (jH jV (pv 0) jC) jO) (jE (jJ (kU (jA (kT (jA (pv 2) (jA (pv 3) jB))) jB)))) jP) (jD (jT 4 vR.nd (kU jB)) (jD (kK (jS kW (jH jV (pv 0) jC) jO) (jD (xG jx rfl (vD rfl M.range (jA (jH jV (pv 0) jC) jB)) (kS 5 vR.nd) (jE (jT 4 vR.nd (jY yS (pv 4) (jF bp hr (jA (jH jV (pv 0) jC) (jA (pv 1) (jA (jF am hr (jA (pv 2) (jA (qQ yG rfl M.str boot_str (jA (pv 5) jB)) jB))) (jA (jH jW (pv 3) (pv 5)) jB))))))))) (jE (jJ (pv 4)))) jP) (jD (kK (jS kW (jH jV (pv 0) jC) jO) (jD (jT 6 vR.nd (jH jW (jH jV (pv 0) jC) (jH jV (pv 3) jC))) (jD (jT 7 vR.nd (jF bp hr (jA (kT (jA jO (jA (pv 6) jB))) (jA (pv 1) (jA (jF am hr (jA (pv 2) (jA (jH jV (jH jW (pv 1) (pv 6)) jC) jB))) (jA (jH jV (pv 3) jC) jB)))))) (jE (jJ (jY yS (kU (jA (kT (jA (jF am hr (jA (pv 2) (jA jO jB))) (jA (jH jV (pv 3) jC) jB))) jB)) (pv 7)))))) jP) (jD (xG jx rfl (qO (jH jV (jH jW (pv 1) (jH jV (pv 0) jC)) jC)) (xP rfl (jX (kS 8 vR.nd) (jX (kS 7 vR.nd) qH))) (jE (jT 4 vR.nd (jY yS (pv 4) (jF bp hr (jA (pv 7) (jA (pv 1) (jA (jF am hr (jA (pv 2) (jA (pv 8) jB))) (jA (iA hr.units1 (pv 3) (pv 8) (fun _ _=>rfl)) jB))))))))) (jE (jJ (pv 4)))))))),?_⟩;have bd:∀{r:Nat}{kd':Kd}{d':ο}{p':Str},Sml p'->kd'.Rk r->kd'.Fit S.length->Can S r kd' d'->(flv S r kd' p' d').length<=6000:=fun h1 h2 h3 h4=>by
  have:=(aDt hW.good hW.nms h3 h2 h4 _ h1).1;have:=Kd.size_bd hW.good.sz (by decide) h3;omega
 have lens:kd.Pd->∀{r:Nat}{ds:List ο},aL (Can S r) (kd.parts S) ds->(flL (flv S r) (kd.parts S) p ds).length<=6000->∀j,(flL (flv S r) ((kd.parts S).take j) p (ds.take j)).length<=6000:=fun hpd {r ds} cl hb0 j=>by
  have e1:flL (flv S r) (kd.parts S) p ds=flL (flv S r) ((kd.parts S).take j++(kd.parts S).drop j) p (ds.take j++ds.drop j):=by rw[lh,lh]
  rw[e1,nV p (by rw[Δ,Δ,cl.len]),ι]at hb0;omega
 cases id hlk with
 | @num a w h1 =>
  obtain⟨v,rfl,hv⟩ : ∃v:Nat,d=.int v/\v<256 ^ w:=by cases r <;> exact hc
  cases hd;have e:flv S r (.num w) p (.int v)=[(p,(v:Int))]:=by cases r <;> rfl
  rw[e]at q;refine⟨_,rfl,a,_,_,_,rfl,rfl,h1,rfl,rfl,_,rfl,kR ⟨_,rfl,_,rfl,xD,fun t ht=>?_⟩⟩;generalize e1:upd H t _=H1;obtain⟨g1,k1⟩:=qA e1 ht;refine⟨aV,fun l hl=>?_⟩;clear 1 l H2 g2 k2 hl;exact q l H2 (g1.trans g2) (g1.free hl) ⟨[t],k2,.cons (g2.tp (SqT.of k1)) .nil⟩
 | @pick a l is h1 h2 =>
  cases r with
  |zero=>exact hc.elim
  |succ r =>
  obtain⟨j,i,e,hi,rfl,hce⟩ : ∃(j i:Nat) (e:ο),is[j]?=some i/\d=.tuple [.int j,e]/\Can S r (.nest i) e:=hc;have eg:is.getD ((j:Int).toNat) 0=i:=by rw[nq,ω,hi];rfl
  have ef:flv S (r+1) (.pick is) p (.tuple [.int j,e])=(pj p yL,(j:Int))::flv S r (.nest i) (pj p (kL S i)) e:=by
   show _::flv S r (.nest (is.getD ((j:Int).toNat) 0)) (pj p (kL S (is.getD ((j:Int).toNat) 0))) e=_;rw[eg]
  rw[ef]at q;cases hd with
  | @tup ad xs _ hx dts =>
   cases dts with
   |cons hd0 dts =>
    cases dts with
    | @cons x1 _ _ _ hd1 dts =>
     cases dts;cases hd0;have hil:i<S.length:=hf.2.2.2 i (μ hi);have hS:S[i]?=some S[i]:=θ hil;obtain⟨n6,nsm⟩:=hW.nms.nm i hil;have hki:=hk i (μ hi);have enm:kL S i=S[i].1:=vF hS;have hyl:=xO (p:=p) n6;have htl:=xO (p:=p) (x:=yL) (by decide);have nl : 1<=S[i].1.length:=(vK (hW.nm _ (md hil))).1;obtain⟨as,s,l',ps,m1,m2,m3,m4,m5⟩:=hlx.at hil;have hb1:=bd (p':=pj p (kL S i)) (hsp.pj nsm) (show(Kd.nest i).Rk r by show 2*i+2<=r;omega) hil hce;refine⟨_,rfl,a,_,_,_,rfl,rfl,h1,rfl,rfl,_,rfl,jU ⟨bH,fun l0 hl0=>?_⟩⟩;generalize e1:upd H l0 _=H1;obtain⟨g1,k1⟩:=qA e1 hl0;refine⟨_,rfl,a,_,_,_,rfl,rfl,g1.tp h1,rfl,rfl,_,rfl,jU ⟨_,rfl,a,_,_,_,rfl,rfl,g1.tp h1,rfl,rfl,_,rfl,kR ⟨_,rfl,a,_,_,_,rfl,rfl,g1.tp h1,rfl,_,rfl,ad,_,_,_,rfl,rfl,g1.tp hx,rfl,l,_,_,_,rfl,rfl,g1.seq h2,aEj hi,?_⟩⟩⟩;refine⟨_,rfl,xD,fun tk htk=>?_⟩;clear 1 tk H2 g2 k2 htk;have g12:=g1.trans g2;refine⟨_,rfl,_,rfl,_,rfl,_,rfl,sl,_,_,_,rfl,rfl,g12.seq m1,xR m2,s,_,_,_,rfl,rfl,g12.tp m3,rfl,p,S[i].1,rfl,by omega,(by rw[←enm];omega),nl,_,rfl,ad,_,_,_,rfl,rfl,g12.tp hx,rfl,?_⟩;rw[←enm];refine⟨tk,sl,pj p (kL S i),x1,.nest i,S,e,r,rfl,rfl,(by omega),hsp.pj nsm,(by show 2*i+2<=r;omega),hil,.nest (SqT.of k2),hlx.same g12,hW,hd1.same g12,hce,fun l3 H3 g3 hl3 zq=>?_⟩;obtain⟨us,ku,ur⟩:=zq;have hul:=ur.len;have g13:=g12.trans g3;refine⟨_,rfl,p,yL,rfl,by omega,by decide,by decide,_,rfl,ad,_,_,_,rfl,rfl,g13.tp hx,rfl,xD,fun t1 ht1=>?_⟩;clear 1 t1 H4 g4 k4 ht1;refine⟨aV,fun l1 hl1=>?_⟩;clear 1 l1 H5 g5 k5 hl1;refine⟨_,rfl,l1,l3,_,_,rfl,rfl,k5,(g4.trans g5) _ _ ku,(by rw[jk,δ,hul];simp;omega),fun l6 hl6=>?_⟩;clear 1 l6 H6 g6 k6 hl6;exact q l6 H6 (((g13.trans g4).trans g5).trans g6) (((g13.trans g4).trans g5).free hl6) ⟨t1::us,k6,.cons ((g5.trans g6).tp (SqT.of k4)) (ur.same ((g4.trans g5).trans g6))⟩
 | @many a b n k h1 h2 =>
  cases r with
  |zero=>exact(fO (.inr ⟨_,_,rfl⟩) hk).elim
  |succ r =>
  have hpd:(Kd.many n k).Pd:=.inr ⟨_,_,rfl⟩;have hn6:n<=6:=hf.2.1;have hb0:=bd hsp hk hf hc;obtain⟨ds,rfl,cl⟩:=(zN hpd).mp hc;rw[lW hpd p cl.len]at hb0 q;have lens':=lens hpd cl hb0;cases hd with
  | @lst ad xs _ hx hz dts =>
  refine⟨_,rfl,a,_,_,_,rfl,rfl,h1,rfl,rfl,_,rfl,jU ⟨bH,fun l0 hl0=>?_⟩⟩;generalize e1:upd H l0 _=H1;obtain⟨g1,k1⟩:=qA e1 hl0;refine⟨_,rfl,a,_,_,_,rfl,rfl,g1.tp h1,rfl,rfl,_,rfl,kR ⟨_,rfl,a,_,_,_,rfl,rfl,g1.tp h1,rfl,n,rfl,by omega,by omega,yR (n:=n) (fun j σ H'=>∃(o5 o6 o7 o8:Option V) (lf:Addr),σ = [some (.ref a),some (.ref sl),some (.str p),some (.ref ad),some (.ref lf),o5,o6,o7,o8]/\jI H H'/\H lf=none/\RL K H' lf (flL (flv S r) (((Kd.many n k).parts S).take j) p (ds.take j))) ⟨_,_,_,_,l0,rfl,g1,hl0,[],k1,.nil⟩ (fun j σ H' hj z=>?_) (fun σ H' z=>?_)⟩⟩
  ·obtain⟨o5,o6,o7,o8,lf,rfl,g,hlf,us,ku,ur⟩:=z;have hps:((Kd.many n k).parts S)[j]?=some (ε (toString j),k):=by
    show((jg n).map _)[j]?=_;rw[iq,rh hj];rfl
   obtain⟨p1,p2,p3,p4⟩:=Kd.parts_ok hW.good hf hk (μ hps);have p4':(ε (toString j)).length<=6:=p4;obtain⟨d',hdj,hcd⟩:=cl.get hps;obtain⟨v,hv,hdv⟩:=dts.get hdj;have hyl:=xO (p:=p) p4';refine⟨_,rfl,_,rfl,a,_,_,_,rfl,rfl,g.tp h1,rfl,_,rfl,_,rfl,_,rfl,_,rfl,yf (yV (by omega)) (by decide),p,ε (toString ((0:Int)+(j:Nat))),rfl,by omega,(by rw[mw];exact Θ p4' (by decide)),(by rw[mw];exact p3),_,rfl,_,rfl,ad,xs,_,v,rfl,rfl,g.seq hx,(by rw[mw];exact xB hv),?_⟩;rw[mw];refine⟨b,sl,pj p (ε (toString j)),v,k,S,d',r,rfl,rfl,(by omega),hsp.pj (yU hW.nms hf (μ hps)),p1,p2,h2.same g,hlx.same g,hW,hdv.same g,hcd,fun l3 H3 g3 hl3 zq=>?_⟩;obtain⟨us3,k3,ur3⟩:=zq;have ku3:=g3 _ _ ku;have h6:=lens' (j+1);rw[bP cl.len hps hdj,ι,←ur.len,←ur3.len]at h6;refine⟨lf,l3,_,_,rfl,rfl,ku3,k3,(by rw[jk,δ,δ];omega),fun l4 hl4=>?_⟩;clear 1 l4 H4 g4 k4 hl4;refine⟨_,_,_,_,l4,rfl,(g.trans g3).trans g4,(g.trans g3).free hl4,us++us3,by rw[χ];exact k4,?_⟩;rw[bP cl.len hps hdj];exact(ur.same (g3.trans g4)).app (ur3.same g4)
  ·obtain⟨o5,o6,o7,o8,lf,rfl,g,hlf,u⟩:=z;have en:n=ds.length:=by rw[←cl.len];show _=((jg n).map _).length;rw[δ,jm]
   rw[lq (by rw[cl.len,←en];exact ν _),lq (by rw[←en];exact ν _)]at u;exact⟨_,rfl,q lf H' g hlf u⟩
 | @nest a i h1 =>
  cases r with
  |zero=>exact(fO (.inl ⟨_,rfl⟩) hk).elim
  |succ r =>
  have hpd:(Kd.nest i).Pd:=.inl ⟨_,rfl⟩;have hi:i<S.length:=hf;have hS:S[i]?=some S[i]:=θ hi;have ep:=qS hS;obtain⟨as,s,l,ps,m1,m2,m3,m4,m5⟩:=hlx.at hi;have hb0:=bd hsp hk hf hc;obtain⟨ds,rfl,cl⟩:=(zN hpd).mp hc;rw[lW hpd p cl.len]at hb0 q;have lens':=lens hpd cl hb0;refine⟨_,rfl,a,_,_,_,rfl,rfl,h1,rfl,rfl,_,rfl,jU ⟨bH,fun l0 hl0=>?_⟩⟩;generalize e1:upd H l0 _=H1;obtain⟨g1,k1⟩:=qA e1 hl0;refine⟨_,rfl,a,_,_,_,rfl,rfl,g1.tp h1,rfl,rfl,_,rfl,jU ⟨_,rfl,a,_,_,_,rfl,rfl,g1.tp h1,rfl,rfl,_,rfl,jU ⟨_,rfl,_,rfl,a,_,_,_,rfl,rfl,g1.tp h1,rfl,sl,_,_,_,rfl,rfl,g1.seq m1,xR m2,s,_,_,_,rfl,rfl,g1.tp m3,rfl,l,rfl,⟨_,g1.seq m4⟩,xM (xs:=ps.map V.ref) (fun j σ H'=>∃(o5 o6 o7 o8:Option V) (lf:Addr),σ = [some (.ref a),some (.ref sl),some (.str p),some x,some (.ref lf),o5,o6,o7,o8]/\jI H H'/\H lf=none/\RL K H' lf (flL (flv S r) (((Kd.nest i).parts S).take j) p (ds.take j))) ⟨_,_,_,_,l0,rfl,g1,hl0,[],k1,.nil⟩ (fun j σ H' _ z=>?_) (fun j x' σ H' hx z=>?_) (fun σ H' z=>?_)⟩⟩⟩
  ·obtain⟨o5,o6,o7,o8,lf,rfl,g,_⟩:=z;exact g.seq m4
  ·obtain⟨o5,o6,o7,o8,lf,rfl,g,hlf,us,ku,ur⟩:=z;obtain⟨t,ht,rfl⟩:=qE hx;obtain⟨nm',kd',kk,hfs,htt,hko⟩:=m5.get ht;have hps:((Kd.nest i).parts S)[j]?=some (nm',kd'):=by rw[ep];exact hfs
   obtain⟨p1,p2,p3,p4⟩:=Kd.parts_ok hW.good hf hk (μ hps);have p4':nm'.length<=6:=p4;have hyl:=xO (p:=p) p4';obtain⟨d',hdj,hcd⟩:=cl.get hps;obtain⟨ad,xs,rfl,h2,l2,dts⟩:=lI hd cl.len;obtain⟨v,hv,hdv⟩:=dts.get hdj;refine⟨t,_,rfl,g.tp htt,rfl,_,_,rfl,_,_,rfl,rfl,_,rfl,_,rfl,_,rfl,_,rfl,_,rfl,p,nm',rfl,by omega,by omega,p3,_,rfl,_,rfl,ad,v,rfl,(by rw[←aIo (hW.pnd hf i rfl) (by rw[δ];exact l2) (by rw[iq,hps];rfl) hv];exact cF.k (k:=.inr nm') (g _ _ h2)),kk,sl,pj p nm',v,kd',S,d',r,rfl,rfl,(by omega),hsp.pj (yU hW.nms hf (μ hps)),p1,p2,hko.same g,hlx.same g,hW,hdv.same g,hcd,fun l3 H3 g3 hl3 ⟨us3,k3,ur3⟩=>?_⟩;have ku3:=g3 _ _ ku;have h6:=lens' (j+1);rw[bP cl.len hps hdj,ι,←ur.len,←ur3.len]at h6;refine⟨lf,l3,_,_,rfl,rfl,ku3,k3,(by rw[jk,δ,δ];omega),fun l4 hl4=>?_⟩;clear 1 l4 H4 g4 k4 hl4;refine⟨_,_,_,_,l4,rfl,(g.trans g3).trans g4,(g.trans g3).free hl4,us++us3,by rw[χ];exact k4,?_⟩;rw[bP cl.len hps hdj];exact(ur.same (g3.trans g4)).app (ur3.same g4)
  ·obtain⟨o5,o6,o7,o8,lf,rfl,g,hlf,u⟩:=z;have en:(ps.map V.ref).length=ds.length:=by rw[←cl.len,ep,δ,m5.len]
   rw[en,kO,←cl.len,kO]at u;exact⟨_,rfl,q lf H' g hlf u⟩
theorem aCi(F:Fun K "_law_next" "_law_next" gO f fd)(fz:j7 "_law_whole" (aKv K)):j4 ["_law_left","_law_path","_law_most"] (spNx K):=by
 w_cond mD;obtain⟨l,p,b,ds,ys,rfl,hly,al,⟨xs,hx,hds,few⟩,hsh,hps,q⟩:=h;refine⟨_,(jD (kK (jS (aAh hr.units) (pv 0) (kU jB)) (jE (jJ vE)) jP) (jD (jT 3 mD.nd (zP jq PySem.F.slot_list_pop PySem.F.type_list_pop aJk (pv 0) (jA jC jB))) (jD (kK (PW.pt (xL (qT (kZ (jK qP rfl M.isinstance jd (jA (pv 3) (jA (vI (v:=.ty "tuple") rfl M.tuple boot_tuple rfl) jB))))) (xL (jS dP (jK kF rfl M.len ja (jA (pv 3) jB)) jC) (xL (jS (aDn hr.units) (jH jV (pv 3) jC) (pv 1)) (xX (qT (kZ (jF fz hr (jA (jH jV (pv 3) jC) jB))))))))) (jE (jJ vE)) jP) (jD (kK (qT (iO cZ cZ jC (jH jV (pv 3) jC) (pv 2))) (jE (jJ vE)) jP) (jE (jJ (kU (jA (jH jV (pv 3) jC) jB)))))))),?_⟩;refine⟨_,rfl,bH,fun e he=>?_⟩;clear 1 e H1 g1 k1 he;refine⟨l,e,xs,rfl,rfl,SqL.of (g1 _ _ hx),SqL.of k1,_,rfl,?_⟩;cases hds with
 |nil=>exact qU rfl (q .non H1 (But.of g1) ⟨[],g1 _ _ hx,.nil,iy _⟩ (.inl ⟨rfl,rfl⟩))
 | @cons x xs d ds hd hds =>
  refine qZ (by simp) ⟨_,rfl,.inl ⟨rfl,_,SqL.of (g1 _ _ hx)⟩,l,_,0,0,x,rfl,rfl,g1 _ _ hx,(by decide),(by decide),seqIndex_of (by decide) (by simp),rfl,?_⟩;clear 0 l H2 g2 k2;have k2':H2 l=some (.lst xs):=k2;have s02:jI (offs ys H) (offs ys H2):=(kH g1).trans (vL fun b o hb z=>g2 b o (fun y=>hb (y ▸ hly)) z);have g02:But l H H2:=(But.of g1).trans g2;have hd2:Dat K H2 x d:=(hd.same s02).same jM;have fin:∀{H3:Hp},jI H2 H3->LfA K ys H3 l ds:=fun {H3} g3=>⟨xs,g3 _ _ k2',(hds.same s02).same (kH g3),by simp at few;omega⟩;have ty:=hd2.ty;have no:∀{H3:Hp},jI H2 H3->(∀v,d=xJ (p,v)->¬ (0<=v/\v<b))->Q .non H3:=fun {H3} g3 hn=>q .non H3 (g02.trans (But.of g3)) (fin g3) (.inl ⟨nx_no hn,rfl⟩);have hshd:=hsh d (Ω ..);cases hd2 with
  | @tup a zs es hz hes =>
   have lz:=hes.length;refine⟨_,rfl,.ref a,_,"tuple",rfl,by decide,.inl ty,_,rfl,jU ⟨_,rfl,a,zs,rfl,.inr hz,rfl,_,rfl,?_⟩⟩
   by_cases h2:zs.length=2
   ·refine qZ (by rw[h2];simp) ?_;cases hes with
    |nil=>cases h2
    |cons d0 hes=>cases hes with
     |nil=>cases h2
     |cons d1 hes=>cases hes with
      |cons _ _=>simp at h2
      |nil =>
       rename_i x0 c0 x1 c1;refine⟨_,rfl,a,_,_,_,rfl,rfl,hz,rfl,_,rfl,c0,.str p,d0,.str p,aHo hshd c0 (by simp),hps,_,rfl,?_⟩
       by_cases hc0:c0=.str p
       ·subst hc0;cases d0;rw[aFm.mpr rfl];refine jU ⟨_,rfl,a,_,_,_,rfl,rfl,hz,rfl,x1,_,rfl,.inl d1.ty,_,rfl,?_⟩
        by_cases hi:∃v,c1=.int v
        ·obtain⟨v,rfl⟩:=hi;cases d1;refine qZ (by show ¬ (!("int" == "int"))=true;decide) ⟨_,rfl,a,_,_,_,rfl,rfl,hz,rfl,_,_,rfl,rfl,_,rfl,yB (fun y1=>?_) (fun y1=>?_)⟩
         ·refine⟨_,rfl,_,_,rfl,rfl,_,rfl,?_⟩;have y1' : 0<=v:=by simpa using y1
          by_cases y2:v<b
          ·refine qZ (by simp;omega) ⟨_,rfl,a,_,_,_,rfl,rfl,hz,rfl,aV,fun t ht=>?_⟩;clear 1 t H3 g3 k3 ht;refine q (.ref t) H3 (g02.trans (But.of g3)) (fin g3) (.inr ⟨v,t,uV y1' y2,rfl,?_,k3⟩);cases ez:H t with
           |none=>rfl
           |some o =>
            by_cases ht':t=l
            ·rw[ht',k2']at ht;cases ht
            ·rw[g02 t o ht' ez]at ht;cases ht
          ·exact qU (by simp;omega) (no (jI.refl _) (fun u eu=>by cases eu;omega))
         ·exact⟨_,rfl,qU rfl (no (jI.refl _) (fun u eu=>by cases eu;intro z;exact y1 (by simpa using z.1)))⟩
        ·refine qU ?_ (no (jI.refl _) (fun u eu=>by cases eu;exact absurd ⟨_,rfl⟩ hi));cases c1 <;> first|rfl|exact absurd ⟨_,rfl⟩ hi
       ·have hf:ο.eqv c0 (.str p)=false:=qz.mpr fun z=>hc0 (aFm.mp z);rw[hf];exact qU rfl (bW (no (jI.refl _) (fun u eu=>by cases eu;exact absurd rfl hc0)))
   ·refine qU (by simp;omega) (bW (no (jI.refl _) (fun u eu=>?_)));cases eu;exact absurd lz h2
  |non=>exact⟨_,rfl,_,_,"NoneType",rfl,by decide,.inl ty,_,rfl,kR (bW (no (jI.refl _) (fun u eu=>by cases eu)))⟩
  |bl b=>exact⟨_,rfl,_,_,"bool",rfl,by decide,.inl ty,_,rfl,kR (bW (no (jI.refl _) (fun u eu=>by cases eu)))⟩
  |int n=>exact⟨_,rfl,_,_,"int",rfl,by decide,.inl ty,_,rfl,kR (bW (no (jI.refl _) (fun u eu=>by cases eu)))⟩
  |str z=>exact⟨_,rfl,_,_,"str",rfl,by decide,.inl ty,_,rfl,kR (bW (no (jI.refl _) (fun u eu=>by cases eu)))⟩
  |lst _ _=>exact⟨_,rfl,_,_,"list",rfl,by decide,.inl ty,_,rfl,kR (bW (no (jI.refl _) (fun u eu=>by cases eu)))⟩
theorem aAb(F:Fun K "_law_read" "_law_read" gU f fd)(dn:j7 "_law_next" (spNx K))(am:j7 "_law_joined" spLJ)(bq:j7 "_law_read" (spLR K r)):j4 ["_law_kind_here","_law_shapes_here","_law_path","_law_left"] (spLR K (r+1)):=by
 w_cond qY;obtain⟨a,sl,l,p,kd,S,ds,r0,ys,er,rfl,hp,hsp,hly,al,hk,hf,hlkO,hlxO,hW,hlf,hsh,q⟩:=h;cases er;refine⟨_,(jD (kK (jS kW (jH jV (pv 0) jC) jO) (jE (jJ (jF dn hr (jA (pv 3) (jA (pv 2) (jA (jY zZ (jY wC jC (jY zL jC (jH jV (pv 0) jC))) jC) jB)))))) jP) (jD (kK (jS kW (jH jV (pv 0) jC) jO) (jD (jT 4 qY.nd (jF dn hr (jA (pv 3) (jA (jF am hr (jA (pv 2) (jA jO jB))) (jA (jY zZ (jK kF rfl M.len ja (jA (jH jV (pv 0) jC) jB)) jC) jB))))) (jD (kK (jS pW (pv 4) vE) (jE (jJ vE)) jP) (jD (jT 5 qY.nd (jH jW (jH jV (pv 0) jC) (jH jW (pv 4) jC))) (jD (jT 6 qY.nd (jF bq hr (jA (kT (jA jO (jA (pv 5) jB))) (jA (pv 1) (jA (jF am hr (jA (pv 2) (jA (jH jV (jH jW (pv 1) (pv 5)) jC) jB))) (jA (pv 3) jB)))))) (jD (kK (jS pW (pv 6) vE) (jE (jJ vE)) jP) (jE (jJ (kU (jA (kT (jA (jH jW (pv 4) jC) (jA (jH jW (pv 6) jC) jB))) jB))))))))) jP) (jD (kK (jS kW (jH jV (pv 0) jC) jO) (jD (jT 7 qY.nd (kU jB)) (jD (xG jx rfl (vD rfl M.range (jA (jH jV (pv 0) jC) jB)) (kS 8 qY.nd) (jD (jT 6 qY.nd (jF bq hr (jA (jH jV (pv 0) jC) (jA (pv 1) (jA (jF am hr (jA (pv 2) (jA (qQ yG rfl M.str boot_str (jA (pv 8) jB)) jB))) (jA (pv 3) jB)))))) (jD (kK (jS pW (pv 6) vE) (jE (jJ vE)) jP) (jE (vO (zP jq mj mm yD (pv 7) (jA (jH jW (pv 6) jC) jB))))))) (jE (jJ (kU (jA (pv 7) jB)))))) jP) (jD (jT 9 qY.nd oB) (jD (xG jx rfl (qO (jH jV (jH jW (pv 1) (jH jV (pv 0) jC)) jC)) (xP rfl (jX (kS 10 qY.nd) (jX (kS 11 qY.nd) qH))) (jD (jT 6 qY.nd (jF bq hr (jA (pv 11) (jA (pv 1) (jA (jF am hr (jA (pv 2) (jA (pv 10) jB))) (jA (pv 3) jB)))))) (jD (kK (jS pW (pv 6) vE) (jE (jJ vE)) jP) (jE (aFj hr.units1 (pv 9) (pv 10) (jH jW (pv 6) jC) rfl))))) (jE (jJ (kU (jA (pv 9) jB))))))))),?_⟩;have hlx:=hlxO.same jM;have drops:∀{m:Nat},∀d∈ds.drop m,ke d=true:=fun {m} d hd=>hsh d (List.mem_of_mem_drop hd);cases id hlkO with
 | @num a w h1O =>
  have h1:=jM.tp h1O;have e:∀w:Fin 5,(1:Int)*2 ^ (8*((w.val:Nat):Int)).toNat=((256 ^ w.val:Nat):Int):=by decide
  have e':=e ⟨w,by have:=hf.2;omega⟩;dsimp only at e';have er:rdv S r (.num w) p ds=(nx p (256 ^ w) ds).map fun v=>(.int v,1):=by cases r <;> rfl
  rw[er]at q;refine⟨_,rfl,a,_,_,_,rfl,rfl,h1,rfl,rfl,_,rfl,kR ⟨_,rfl,_,rfl,_,rfl,a,_,_,_,rfl,rfl,h1,rfl,_,_,rfl,rfl,.inl ⟨by have:=hf.2;omega,by have:=hf.2;omega⟩,_,_,rfl,rfl,⟨by have:=hf.2;omega,by have:=hf.2;omega,by have:=hf.2;omega⟩,_,_,rfl,rfl,?_⟩⟩
  (try dsimp only)
  rw[e'];refine⟨l,p,_,ds,ys,rfl,hly,al,hlf,hsh,hsp.ok,fun x H' g hl' hx=>q x H' g ?_⟩;rw[show(((256 ^ w:Nat):Int))=256 ^ w by simp]at hx;rcases hx with⟨hn,rfl⟩|⟨v,t,hn,rfl,ht,kt⟩
  ·obtain⟨zs,hz,_⟩:=hl';exact .inl ⟨by rw[hn];rfl,rfl,zs,hz⟩
  ·exact .inr ⟨.int v,1,.int v,t,by rw[hn];rfl,hl',rfl,ht,kP (al.new ht) kt,.int v⟩
 | @pick a ll is h1O h2O =>
  have h1:=jM.tp h1O;have h2:=jM.seq h2O;cases r with
  |zero=>exact(tx _ (hk _ (md (show 0<is.length by have:=hf.1;omega)))).elim
  |succ r =>
  have htl:=xO (p:=p) (x:=yL) (by decide);have er:rdv S (r+1) (.pick is) p ds=(nx (pj p yL) is.length ds).bind fun j=>(rdv S r (.nest (is.getD j.toNat 0)) (pj p (kL S (is.getD j.toNat 0))) (ds.drop 1)).map fun x=>(.tuple [.int j,x.1],1+x.2):=rfl;rw[er]at q;refine⟨_,rfl,a,_,_,_,rfl,rfl,h1,rfl,rfl,_,rfl,jU ⟨_,rfl,a,_,_,_,rfl,rfl,h1,rfl,rfl,_,rfl,kR ⟨_,rfl,_,rfl,p,yL,rfl,by omega,by decide,by decide,_,rfl,a,_,_,_,rfl,rfl,h1,rfl,ll,_,rfl,.inl h2,_,_,rfl,rfl,?_⟩⟩⟩;rw[δ];refine⟨l,pj p yL,is.length,ds,ys,rfl,hly,al,hlf,hsh,(hsp.pj (by unfold Sml;ac_rfl)).ok,fun x H1 g1 hlf1 hx=>?_⟩;have s1:jI (offs ys H) (offs ys H1):=vL fun b o hb e=>g1 b o (fun z=>hb (z ▸ hly)) e;rcases hx with⟨hn,rfl⟩|⟨v,tn,hv,rfl,htn,ktn⟩
  ·obtain⟨ws,hws,_⟩:=hlf1;exact⟨_,rfl,rfl,_,rfl,qU rfl (q .non H1 g1 (.inl ⟨by rw[hn];rfl,rfl,ws,hws⟩))⟩
  ·obtain⟨v0,v1,rest,ed⟩:=eR hv;obtain⟨j,rfl⟩:=qy v0;have hjl:j<is.length:=by exact_mod_cast v1
   obtain⟨i',hi'⟩ : ∃s,is[j]?=some s:=⟨_,θ hjl⟩;have hil:i'<S.length:=hf.2.2.2 i' (μ hi');have hS:S[i']?=some S[i']:=θ hil;obtain⟨n6,nsm⟩:=hW.nms.nm i' hil;have hki:=hk i' (μ hi');have enm:kL S i'=S[i'].1:=vF hS;have hyl:=xO (p:=p) n6;have nl : 1<=S[i'].1.length:=(vK (hW.nm _ (md hil))).1;have eg:is.getD ((j:Int).toNat) 0=i':=by rw[nq,ω,hi'];rfl
   rw[hv]at q;simp only[wg]at q;rw[eg]at q;obtain⟨as,s,l',ps,m1,m2,m3,m4,m5⟩:=hlxO.at hil;have al1:Al ys H1:=fun b hb=>by
    by_cases hbl:b=l
    ·obtain⟨ws,hws,_⟩:=id hlf1;exact⟨_,hbl ▸ hws⟩
    ·obtain⟨o,ho'⟩:=al b hb;exact⟨o,g1 b o hbl ho'⟩
   have ntl:tn≠l:=fun z=>by obtain⟨o,ho'⟩:=al l hly;rw[z,ho']at htn;cases htn
   refine⟨_,rfl,rfl,_,rfl,qZ (by simp) ⟨_,rfl,a,_,_,_,rfl,rfl,jM.tp (s1.tp h1O),rfl,_,rfl,tn,_,_,_,rfl,rfl,SqL.of ktn,rfl,ll,_,_,_,rfl,rfl,jM.seq (s1.seq h2O),aEj hi',?_⟩⟩;refine⟨_,rfl,xD,fun tk htk=>?_⟩;clear 1 tk H2 g2 k2 htk;have s2:=s1.trans (kH (xs:=ys) g2);refine⟨_,rfl,_,rfl,_,rfl,_,rfl,sl,_,_,_,rfl,rfl,jM.seq (s2.seq m1),xR m2,s,_,_,_,rfl,rfl,jM.tp (s2.tp m3),rfl,p,S[i'].1,rfl,by omega,(by rw[←enm];omega),nl,_,rfl,?_⟩;rw[←enm];refine⟨tk,sl,l,pj p (kL S i'),.nest i',S,ds.drop 1,r,ys,rfl,rfl,(by omega),hsp.pj nsm,hly,al1.same g2,(by show 2*i'+2<=r;omega),hil,.nest (SqT.of (kP (al1.new htk) k2)),hlxO.same s2,hW,hlf1.to (kH g2) (fun o z=>g2 _ _ z),drops,fun x H3 g3 hx3=>?_⟩;have g03:But l H H3:=(g1.trans (But.of g2)).trans g3;rcases hx3 with⟨hno,rfl,ws3,hw3⟩|⟨d,m',v,t,hrv,hlf3,rfl,ht,kt,hdv⟩
   ·exact⟨_,rfl,rfl,_,rfl,qU rfl (q .non H3 g03 (.inl ⟨by rw[hno];rfl,rfl,ws3,hw3⟩))⟩
   ·have ktn3:=g3 tn _ ntl (g2 _ _ ktn);refine⟨_,rfl,rfl,_,rfl,qZ (by simp) ⟨_,rfl,tn,_,_,_,rfl,rfl,SqL.of ktn3,rfl,_,rfl,t,_,_,_,rfl,rfl,SqL.of (jM _ _ kt),rfl,xD,fun t4 ht4=>?_⟩⟩;clear 1 t4 H4 g4 k4 ht4;refine⟨aV,fun t5 ht5=>?_⟩;clear 1 t5 H5 g5 k5 ht5;have al3:Al ys H3:=fun b hb=>by
     by_cases hbl:b=l
     ·obtain⟨ws,hws,_⟩:=id hlf3;exact⟨_,hbl ▸ hws⟩
     ·obtain⟨o,ho'⟩:=al b hb;exact⟨o,g03 b o hbl ho'⟩
    have ht5n:H t5=none:=by
     cases ez:H t5 with
     |none=>rfl
     |some o =>
      by_cases htl':t5=l
      ·obtain⟨o',ho'⟩:=(al3.same g4) l hly;rw[htl',ho']at ht5;cases ht5
      ·rw[g4 _ _ (g03 t5 o htl' ez)]at ht5;cases ht5
    refine q (.ref t5) H5 (g03.trans (But.of (g4.trans g5))) (.inr ⟨.tuple [.int j,d],1+m',.ref t4,t5,by rw[hrv];rfl,?_,rfl,ht5n,kP (al.new ht5n) k5,.tup (SqT.of (kP (al3.new ht4) (g5 _ _ k4))) (.cons (.int _) (.cons (hdv.same (kH (g4.trans g5))) .nil))⟩);rw[←vz];exact hlf3.to (kH (g4.trans g5)) (fun o z=>(g4.trans g5) _ _ z)
 | @many a b n k h1O h2O =>
  have h1:=jM.tp h1O;cases r with
  |zero=>exact(fO (.inr ⟨_,_,rfl⟩) hk).elim
  |succ r =>
  have hpd:(Kd.many n k).Pd:=.inr ⟨_,_,rfl⟩;have hn6:n<=6:=hf.2.1;rw[iV hpd]at q;refine⟨_,rfl,a,_,_,_,rfl,rfl,h1,rfl,rfl,_,rfl,jU ⟨_,rfl,a,_,_,_,rfl,rfl,h1,rfl,rfl,_,rfl,jU ⟨_,rfl,a,_,_,_,rfl,rfl,h1,rfl,rfl,_,rfl,kR ⟨bH,fun l0 hl0=>?_⟩⟩⟩⟩;clear 1 l0 H1 g1 k1 hl0;have n0y:l0∉ys:=al.new hl0;have n0l:l0≠l:=fun z=>n0y (z ▸ hly);have alB:∀{H':Hp}{zs ws:List V},cG l l0 H1 H'->H' l0=some (.lst zs)->H' l=some (.lst ws)->Al (l0::ys) H':=fun {H' zs ws} g k0 kl b hb=>by
   rcases Φ.mp hb with rfl|hb
   ·exact⟨_,k0⟩
   ·by_cases hbl:b=l
    ·exact⟨_,hbl ▸ kl⟩
    ·obtain⟨o,ho'⟩:=al b hb;exact⟨o,g b o hbl (fun z=>n0y (z ▸ hb)) (g1 _ _ ho')⟩
  refine⟨_,rfl,a,_,_,_,rfl,rfl,g1.tp h1,rfl,n,rfl,by omega,by omega,yR (n:=n) (fun j σ H'=>∃(o4 o5 o6 o8 o9 o10 o11:Option V) (es:List ο) (m:Nat) (zs:List V),σ = [some (.ref a),some (.ref sl),some (.str p),some (.ref l),o4,o5,o6,some (.ref l0),o8,o9,o10,o11]/\cG l l0 H1 H'/\H' l0=some (.lst zs)/\Dts false K (offs (l0::ys) H') zs es/\LfA K (l0::ys) H' l (ds.drop m)/\rdL (rdv S r) (((Kd.many n k).parts S).take j) p ds=some (es,m)) ⟨_,_,_,_,_,_,_,[],0,[],rfl,fun _ _ _ _ z=>z,k1,.nil,hlf.to (cG.offs g1 hl0 hly fun _ _ _ _ z=>z) (fun o z=>g1 _ _ z),rfl⟩ (fun j σ H' hj z=>?_) (fun σ H' z=>?_)⟩
  ·obtain⟨o4,o5,o6,o8,o9,o10,o11,es,m,zs,rfl,g,k0,hdt,hlf',hrd⟩:=z;have hps:((Kd.many n k).parts S)[j]?=some (ε (toString j),k):=by
    show((jg n).map _)[j]?=_;rw[iq,rh hj];rfl
   obtain⟨p1,p2,p3,p4⟩:=Kd.parts_ok hW.good hf hk (μ hps);have p4':(ε (toString j)).length<=6:=p4;have hyl:=xO (p:=p) p4';have sO:=cG.offs g1 hl0 hly g;obtain⟨nx1,nx2⟩:=rA hps hrd;obtain⟨ws,hws,_⟩:=id hlf';refine⟨_,rfl,a,_,_,_,rfl,rfl,jM.tp (sO.tp h1O),rfl,_,rfl,_,rfl,_,rfl,_,rfl,yf (yV (by omega)) (by decide),p,ε (toString ((0:Int)+(j:Nat))),rfl,by omega,(by rw[mw];exact Θ p4' (by decide)),(by rw[mw];exact p3),_,rfl,?_⟩;rw[mw];refine⟨b,sl,l,pj p (ε (toString j)),k,S,ds.drop m,r,l0::ys,rfl,rfl,(by omega),hsp.pj (yU hW.nms hf (μ hps)),Ξ _ hly,alB g k0 hws,p1,p2,h2O.same sO,hlxO.same sO,hW,hlf',drops,fun x H3 g3 hx=>?_⟩;have gB:cG l l0 H1 H3:=fun b o h1 h2 e=>g3 b o h1 (g b o h1 h2 e);have sB:jI (offs (l0::ys) H') (offs (l0::ys) H3):=vL fun b o hb e=>g3 b o (fun z=>hb (Ξ _ (z ▸ hly))) e;rcases hx with⟨hno,rfl,ws3,hw3⟩|⟨d,m',v,t,hrv,hlf3,rfl,ht,kt,hdv⟩
   ·exact⟨_,rfl,rfl,_,rfl,qU rfl (q .non H3 (gB.back g1 hl0) (.inl ⟨by rw[nx1 hno];rfl,rfl,ws3,hw3⟩))⟩
   ·have hzl:zs.length<=6:=by have z1:=hdt.length;have z2:=nW hrd;rw[Δ]at z2;have:((Kd.many n k).parts S).length=n:=(by show((jg n).map _).length=n;rw[δ,jm]);omega
    have k3:=g3 l0 _ n0l k0;refine⟨_,rfl,rfl,_,rfl,qZ (by simp) ⟨_,rfl,.inl ⟨rfl,_,SqL.of k3⟩,_,rfl,t,_,_,_,rfl,rfl,SqL.of (jM _ _ kt),rfl,l0,_,_,rfl,rfl,k3,ms hzl (by decide),?_⟩⟩;clear 0 l0 H4 g4 k4;have s34:jI (offs (l0::ys) H3) (offs (l0::ys) H4):=vL fun b o hb e=>g4 b o (fun z=>hb (by rw[z];simp)) e;refine⟨o4,o5,some (.ref t),some (.int j),o9,o10,o11,es++[d],m+m',zs++[v],rfl,fun b o h1 h2 e=>g4 b o h2 (gB b o h1 h2 e),k4,((hdt.same sB).snoc hdv).same s34,?_,nx2 d m' hrv⟩;rw[←vz];exact hlf3.to s34 (fun o z=>g4 l o (lu n0l) z)
  ·obtain⟨o4,o5,o6,o8,o9,o10,o11,es,m,zs,rfl,g,k0,hdt,hlf',hrd⟩:=z;rw[lq (by show((jg n).map _).length<=n;rw[δ,jm];exact ν _)]at hrd;refine⟨_,rfl,aV,fun t ht=>?_⟩;clear 1 t H5 g5 k5 ht;have gb:=g.back g1 hl0;have htn:H t=none:=by
    cases ez:H t with
    |none=>rfl
    |some o =>
     by_cases htl:t=l
     ·obtain⟨ws,hws,_⟩:=hlf';rw[htl,hws]at ht;cases ht
     ·rw[gb t o htl ez]at ht;cases ht
   refine q (.ref t) H5 (gb.trans (But.of g5)) (.inr ⟨.list es,m,.ref l0,t,by rw[hrd];rfl,hlf'.to (iT.trans (kH g5)) (fun o z=>g5 _ _ z),rfl,htn,kP (al.new htn) k5,.lst (SqL.of (kP n0y (g5 _ _ k0))) (fun z=>nomatch z) ((hdt.same iT).same (kH g5))⟩)
 | @nest a i h1O =>
  have h1:=jM.tp h1O;cases r with
  |zero=>exact(fO (.inl ⟨_,rfl⟩) hk).elim
  |succ r =>
  have hpd:(Kd.nest i).Pd:=.inl ⟨_,rfl⟩;have hi:i<S.length:=hf;have hS:S[i]?=some S[i]:=θ hi;have ep:=qS hS;obtain⟨as,s,lf,ps,m1,m2,m3,m4,m5⟩:=hlxO.at hi;have few:=hW.good.few i _ hS;rw[iV hpd]at q;refine⟨_,rfl,a,_,_,_,rfl,rfl,h1,rfl,rfl,_,rfl,jU ⟨_,rfl,a,_,_,_,rfl,rfl,h1,rfl,rfl,_,rfl,jU ⟨_,rfl,a,_,_,_,rfl,rfl,h1,rfl,rfl,_,rfl,jU (fun l0 hl0=>?_)⟩⟩⟩;clear 1 l0 H1 g1 k1 hl0;have n0y:l0∉ys:=al.new hl0;have n0l:l0≠l:=fun z=>n0y (z ▸ hly);have alB:∀{H':Hp}{o0 o1:HO},cG l l0 H1 H'->H' l0=some o0->H' l=some o1->Al (l0::ys) H':=fun {H' zs ws} g k0 kl b hb=>by
   rcases Φ.mp hb with rfl|hb
   ·exact⟨_,k0⟩
   ·by_cases hbl:b=l
    ·exact⟨_,hbl ▸ kl⟩
    ·obtain⟨o,ho'⟩:=al b hb;exact⟨o,g b o hbl (fun z=>n0y (z ▸ hb)) (g1 _ _ ho')⟩
  refine⟨_,rfl,_,rfl,a,_,_,_,rfl,rfl,g1.tp h1,rfl,sl,_,_,_,rfl,rfl,g1.seq (jM.seq m1),xR m2,s,_,_,_,rfl,rfl,g1.tp (jM.tp m3),rfl,lf,rfl,⟨_,g1.seq (jM.seq m4)⟩,xM (xs:=ps.map V.ref) (fun j σ H'=>∃(o4 o5 o6 o7 o8 o10 o11:Option V) (es:List ο) (m:Nat) (zs:List V),σ = [some (.ref a),some (.ref sl),some (.str p),some (.ref l),o4,o5,o6,o7,o8,some (.ref l0),o10,o11]/\cG l l0 H1 H'/\H' l0=some (.dK (kz ((((Kd.nest i).parts S).map (·.1)).take j) zs))/\zs.length=j/\Dts false K (offs (l0::ys) H') zs es/\LfA K (l0::ys) H' l (ds.drop m)/\rdL (rdv S r) (((Kd.nest i).parts S).take j) p ds=some (es,m)) ⟨_,_,_,_,_,_,_,[],0,[],rfl,fun _ _ _ _ z=>z,k1,rfl,.nil,hlf.to (cG.offs g1 hl0 hly fun _ _ _ _ z=>z) (fun o z=>g1 _ _ z),rfl⟩ (fun j σ H' _ z=>?_) (fun j x' σ H' hx z=>?_) (fun σ H' z=>?_)⟩
  ·obtain⟨o4,o5,o6,o7,o8,o10,o11,es,m,zs,rfl,g,_⟩:=z;exact jM.seq ((cG.offs g1 hl0 hly g).seq m4)
  ·obtain⟨o4,o5,o6,o7,o8,o10,o11,es,m,zs,rfl,g,k0,hzj,hdt,hlf',hrd⟩:=z;obtain⟨t0,ht0,rfl⟩:=qE hx;obtain⟨nm',kd',kk,hfs,htt,hko⟩:=m5.get ht0;have hps:((Kd.nest i).parts S)[j]?=some (nm',kd'):=by rw[ep];exact hfs
   obtain⟨p1,p2,p3,p4⟩:=Kd.parts_ok hW.good hf hk (μ hps);have p4':nm'.length<=6:=p4;have hyl:=xO (p:=p) p4';have sO:=cG.offs g1 hl0 hly g;obtain⟨nx1,nx2⟩:=rA hps hrd;obtain⟨ws,hws,_⟩:=id hlf';refine⟨t0,_,rfl,jM.tp (sO.tp htt),rfl,_,_,rfl,_,_,rfl,rfl,_,rfl,_,rfl,_,rfl,_,rfl,p,nm',rfl,by omega,by omega,p3,_,rfl,kk,sl,l,pj p nm',kd',S,ds.drop m,r,l0::ys,rfl,rfl,(by omega),hsp.pj (yU hW.nms hf (μ hps)),Ξ _ hly,alB g k0 hws,p1,p2,hko.same sO,hlxO.same sO,hW,hlf',drops,fun x H3 g3 hx3=>?_⟩;have gB:cG l l0 H1 H3:=fun b o h1 h2 e=>g3 b o h1 (g b o h1 h2 e);have sB:jI (offs (l0::ys) H') (offs (l0::ys) H3):=vL fun b o hb e=>g3 b o (fun z=>hb (Ξ _ (z ▸ hly))) e;rcases hx3 with⟨hno,rfl,ws3,hw3⟩|⟨d,m',v,t,hrv,hlf3,rfl,ht,kt,hdv⟩
   ·exact⟨_,rfl,rfl,_,rfl,qU rfl (q .non H3 (gB.back g1 hl0) (.inl ⟨by rw[nx1 hno];rfl,rfl,ws3,hw3⟩))⟩
   ·have k3:=g3 l0 _ n0l k0;have hjl:j<((Kd.nest i).parts S).length:=(η.mp hps).1;have e0:(((Kd.nest i).parts S).map (·.1)).take j=(((Kd.nest i).parts S).map (·.1)).take j:=rfl;have hkl:((((Kd.nest i).parts S).map (·.1)).take j).length=zs.length:=by rw[Δ,δ,hzj];omega
    have nk:(((Kd.nest i).parts S).map (·.1))[j]?=some nm':=by rw[iq,hps];rfl
    have enew:=aIu (v:=v) (hW.pnd hf i rfl) hzj nk;refine⟨_,rfl,rfl,_,rfl,qZ (by simp) ⟨_,rfl,t,_,_,_,rfl,rfl,SqL.of (jM _ _ kt),rfl,_,rfl,_,rfl,l0,_,rfl,.inl ⟨_,.inr nm',k3,rfl,(by rw[uL hkl,hkl,hzj];rw[ep]at hjl;exact ς hjl (Θ few (by decide))),rfl⟩,?_⟩⟩;rw[enew];clear 0 l0 H4 g4 k4;have s34:jI (offs (l0::ys) H3) (offs (l0::ys) H4):=vL fun b o hb e=>g4 b o (fun z=>hb (by rw[z];simp)) e;refine⟨o4,o5,some (.ref t),o7,o8,some (.str nm'),some (.ref kk),es++[d],m+m',zs++[v],rfl,fun b o h1 h2 e=>g4 b o h2 (gB b o h1 h2 e),k4,by rw[ι,hzj];rfl,((hdt.same sB).snoc hdv).same s34,?_,nx2 d m' hrv⟩;rw[←vz];exact hlf3.to s34 (fun o z=>g4 l o (lu n0l) z)
  ·obtain⟨o4,o5,o6,o7,o8,o10,o11,es,m,zs,rfl,g,k0,hzj,hdt,hlf',hrd⟩:=z;have en:(ps.map V.ref).length=((Kd.nest i).parts S).length:=by rw[ep,δ,m5.len]
   rw[en,kO]at hrd;rw[en,←δ (·.1),kO]at k0;refine⟨_,rfl,aV,fun t ht=>?_⟩;clear 1 t H5 g5 k5 ht;have gb:=g.back g1 hl0;have htn:H t=none:=by
    cases ez:H t with
    |none=>rfl
    |some o =>
     by_cases htl:t=l
     ·obtain⟨ws,hws,_⟩:=hlf';rw[htl,hws]at ht;cases ht
     ·rw[gb t o htl ez]at ht;cases ht
   refine q (.ref t) H5 (gb.trans (But.of g5)) (.inr ⟨.dict (iG ((Kd.nest i).parts S) es),m,.ref l0,t,by rw[hrd];rfl,hlf'.to (iT.trans (kH g5)) (fun o z=>g5 _ _ z),rfl,htn,kP (al.new htn) k5,aDs (kP n0y (g5 _ _ k0)) (by rw[hzj,en]) ((hdt.same iT).same (kH g5))⟩)
theorem aEb{r:Nat}(F:Fun K "_law_due" "_law_due" lA f fd)(bq:j7 "_law_read" (spLR K (r+1))):j4 ["_law_main","_law_shapes_here","_law_rows"] (spDu K r):=by
 w_cond fX;obtain⟨a,sl,x,i,S,d,rfl,hlk,hlx,hW,hil,hi,h8,hd,hsz,q⟩:=h;refine⟨_,(jD (kK (qT (kZ (jK qP rfl M.isinstance jd (jA (pv 2) (jA (vI (v:=.ty "list") rfl M.list xx rfl) jB))))) (jE (jJ vE)) jP) (jD (jT 3 fX.nd (qQ cJ rfl M.list xx (jA (pv 2) jB))) (jD (jT 4 fX.nd (jF bq hr (jA (pv 0) (jA (pv 1) (jA jO (jA (pv 3) jB)))))) (jD (kK (PW.pt (xL (jS pW (pv 4) vE) (xX (jS (aJd hr.units) (pv 3) (kU jB))))) (jE (jJ vE)) jP) (jE (jJ (pv 4))))))),?_⟩;rcases hd with hd|⟨⟨ad,kvs,rfl,hkv⟩,ps,rfl⟩
 case inr=>exact⟨_,rfl,.ref ad,_,"dict",rfl,by decide,.inr ⟨rfl,ad,kvs,rfl,hkv⟩,_,rfl,kR (q .non H (jI.refl _) (.inl ⟨rfl,rfl⟩))⟩
 have ty:=hd.ty;cases hd with
 |non=>exact⟨_,rfl,_,_,"NoneType",rfl,by decide,.inl ty,_,rfl,kR (q .non H (jI.refl _) (.inl ⟨rfl,rfl⟩))⟩
 |bl b=>exact⟨_,rfl,_,_,"bool",rfl,by decide,.inl ty,_,rfl,kR (q .non H (jI.refl _) (.inl ⟨rfl,rfl⟩))⟩
 |int n=>exact⟨_,rfl,_,_,"int",rfl,by decide,.inl ty,_,rfl,kR (q .non H (jI.refl _) (.inl ⟨rfl,rfl⟩))⟩
 |str z=>exact⟨_,rfl,_,_,"str",rfl,by decide,.inl ty,_,rfl,kR (q .non H (jI.refl _) (.inl ⟨rfl,rfl⟩))⟩
 |tup _ _=>exact⟨_,rfl,_,_,"tuple",rfl,by decide,.inl ty,_,rfl,kR (q .non H (jI.refl _) (.inl ⟨rfl,rfl⟩))⟩
 | @lst rl xs ds hx hds =>
  obtain⟨few,hsh⟩:=hsz ds rfl;have lx:=hds.length;have eq0:oY S r i (.list ds)=(rdv S r (.nest i) Str.empty ds).bind fun x=>if x.2=ds.length then some x.1 else none:=rfl
  rw[eq0]at q;refine⟨_,rfl,.ref rl,_,"list",rfl,by decide,.inl ty,_,rfl,jU ⟨_,rfl,rl,xs,rfl,.inl hx,fun l hl=>?_⟩⟩;clear 1 l H1 g1 k1 hl;have sO:jI H (offs [l] H1):=fun b o e=>kP (by simpa using jL e hl) (g1 _ _ e);refine⟨_,rfl,_,rfl,_,rfl,a,sl,l,Str.empty,.nest i,S,ds,r,[l],rfl,rfl,(by show 0+8*(r+1)<=200;omega),rfl,by simp,(fun b hb=>by rw[Ψ.mp hb];exact⟨_,k1⟩),hi,hil,hlk.same sO,hlx.same sO,hW,⟨xs,k1,hds.same sO,by omega⟩,hsh,fun y H2 g2 hy=>?_⟩;have g02:jI H H2:=fun b o e=>g2 b o (jL e hl) (g1 _ _ e);rcases hy with⟨hno,rfl,zs,hz⟩|⟨d,m,v,t,hrv,⟨ws,hws,hdw,_⟩,rfl,ht,kt,hdv⟩
  ·exact⟨_,rfl,rfl,_,rfl,qU rfl (bW (q .non H2 g02 (.inl ⟨by rw[hno];rfl,rfl⟩)))⟩
  ·refine⟨_,rfl,rfl,_,rfl,qZ (by simp) ⟨_,rfl,bH,fun e he=>?_⟩⟩;clear 1 e H3 g3 k3 he;refine⟨l,e,ws,rfl,rfl,SqL.of (g3 _ _ hws),SqL.of k3,_,rfl,?_⟩;rw[hrv]at q;have lw:=hdw.length;rw[zb]at lw;have hm:=(aCo hrv).1
   by_cases hmd:m=ds.length
   ·have:ws=[]:=pe.mp (by omega);subst this;exact qZ (by simp) ⟨_,rfl,q (.ref t) H3 (g02.trans g3) (.inr ⟨d,v,t,if_pos hmd,rfl,g3 _ _ (jM _ _ kt),(hdv.same jM).same g3⟩)⟩
   ·have hw0:ws≠[]:=fun z=>by rw[z]at lw;simp at lw;omega
    refine qU ?_ (q .non H3 (g02.trans g3) (.inl ⟨if_neg hmd,rfl⟩));cases ws with
    |nil=>exact absurd rfl hw0
    |cons _ _=>rfl
theorem uM{k r:Nat}(F:Fun K "_law_drawn" "_law_drawn" dF f fd)(gp:j7 "_law_word" aPr)(ac:j7 "_law_take" fL)(bb:j7 "_law_drawn" (spDr K r)):j4 ["_law_box_here","_law_kind_here","_law_shapes_here"] (spDr K (r+1)):=by
 w_cond yK;obtain⟨p,a,sl,kd,S,r0,ys,er,rfl,hs,hpy,al,hk,hf,hlkO,hlxO,hW,q⟩:=h;cases er;refine⟨_,(jD (kK (jS kW (jH jV (pv 1) jC) jO) (jE (jJ (jF gp hr (jA (pv 0) (jA (jH jV (pv 1) jC) jB))))) jP) (jD (kK (jS kW (jH jV (pv 1) jC) jO) (jE (jJ (qC ["_law_k"] ["_law_box_here","_law_shapes_here","_law_kind_here"] [0,2,1] rfl (vD rfl M.range (jA (jH jV (pv 1) jC) jB)) rfl ⟨rfl,⟨rfl,⟨rfl,trivial⟩⟩⟩ ⟨⟨rfl,rfl,rfl,_,rfl⟩,⟨⟨rfl,rfl,rfl,_,rfl⟩,⟨⟨rfl,rfl,rfl,_,rfl⟩,trivial⟩⟩⟩ (fun _ _ _ _=>(qN rfl)) (fun _ _ _ _=>qB) (fun _ _ _ _=>(jF bb hr (jA (pv 1) (jA (jH (aEx K rfl) (pv 3) jC) (jA (pv 2) jB)))))))) jP) (jD (kK (jS kW (jH jV (pv 1) jC) jO) (jD (jT 3 yK.nd (jF ac hr (jA (pv 0) (jA (jK kF rfl M.len ja (jA (jH jV (pv 1) jC) jB)) jB)))) (jE (jJ (kT (jA (pv 3) (jA (jF bb hr (jA (pv 0) (jA (kT (jA jO (jA (jH jW (jH jV (pv 1) jC) (pv 3)) jB))) (jA (pv 2) jB)))) jB)))))) jP) (jD (jT 4 yK.nd oB) (jD (xG jx rfl (qO (jH jV (jH jW (pv 2) (jH jV (pv 1) jC)) jC)) (xP rfl (jX (kS 5 yK.nd) (jX (kS 6 yK.nd) qH))) (jE (aFj hr.units1 (pv 4) (pv 5) (jF bb hr (jA (pv 0) (jA (pv 6) (jA (pv 2) jB)))) rfl))) (jE (jJ (pv 4)))))))),?_⟩;cases id hlkO with
 | @num a w h1O =>
  have h1:=jM.tp h1O;refine⟨_,rfl,a,_,_,_,rfl,rfl,h1,rfl,rfl,_,rfl,kR ⟨_,rfl,_,rfl,a,_,_,_,rfl,rfl,h1,rfl,p,w,rfl,hf.1,hf.2,hs,fun v H1 hv d1=>q (.int v) (.int v) H1 d1 (.int v) ?_ (fun b eb=>by cases eb)⟩⟩;cases r <;> exact⟨v,rfl,hv⟩
 | @pick a ll is h1O h2O =>
  have h1:=jM.tp h1O;have h2:=jM.seq h2O;cases r with
  |zero=>exact(tx _ (hk _ (md (show 0<is.length by have:=hf.1;omega)))).elim
  |succ r =>
  have hlen:=hf.2.1;have hlen2:=hf.1;refine⟨_,rfl,a,_,_,_,rfl,rfl,h1,rfl,rfl,_,rfl,jU ⟨_,rfl,a,_,_,_,rfl,rfl,h1,rfl,rfl,_,rfl,jU ⟨_,rfl,a,_,_,_,rfl,rfl,h1,rfl,rfl,_,rfl,kR ⟨_,rfl,_,rfl,a,_,_,_,rfl,rfl,h1,rfl,ll,_,rfl,.inl h2,?_⟩⟩⟩⟩;rw[δ];refine⟨p,is.length,rfl,by omega,by omega,hs,fun j H1 hj d1=>?_⟩;have hjl:j<is.length:=by exact_mod_cast hj
  obtain⟨i',hi'⟩ : ∃s,is[j]?=some s:=⟨_,θ hjl⟩;have hil:i'<S.length:=hf.2.2.2 i' (μ hi');have hki:=hk i' (μ hi');have s1:jI (offs ys H) (offs ys H1):=d1.offs hpy;have al1:=Al.drawn al d1;refine⟨_,rfl,_,rfl,_,rfl,a,_,_,_,rfl,rfl,jM.tp (s1.tp h1O),rfl,_,rfl,ll,_,_,_,rfl,rfl,jM.seq (s1.seq h2O),aEj hi',xD,fun tk htk=>?_⟩;clear 1 tk H2 g2 k2 htk;have s2:=s1.trans (kH (xs:=ys) g2);refine⟨_,rfl,p,tk,sl,.nest i',S,r,ys,rfl,rfl,jI.st3 g2 d1.1,hpy,al1.same g2,(by show 2*i'+2<=r;omega),hil,.nest (SqT.of (kP (al1.new htk) k2)),hlxO.same s2,hW,fun v d H3 d3 hdt hcn hfr=>⟨xD,fun t ht=>?_⟩⟩;clear 1 t H4 g4 k4 ht;have D3:Drawn p H H3:=(d1.keep g2).trans d3;exact q (.ref t) (.tuple [.int j,d]) H4 (D3.keep g4) (.tup (SqT.of (kP ((Al.drawn al D3).new ht) k4)) (.cons (.int _) (.cons (hdt.same (kH g4)) .nil))) ⟨j,i',d,hi',rfl,hcn⟩ (fun b eb=>by cases eb;exact D3.free ht)
 | @many a b n k h1O h2O =>
  have h1:=jM.tp h1O;cases r with
  |zero=>exact(fO (.inr ⟨_,_,rfl⟩) hk).elim
  |succ r =>
  have hpd:(Kd.many n k).Pd:=.inr ⟨_,_,rfl⟩;have hn6:n<=6:=hf.2.1;have pl:((Kd.many n k).parts S).length=n:=by show((jg n).map _).length=n;rw[δ,jm]
  refine⟨_,rfl,a,_,_,_,rfl,rfl,h1,rfl,rfl,_,rfl,jU ⟨_,rfl,a,_,_,_,rfl,rfl,h1,rfl,rfl,_,rfl,kR ⟨_,rfl,a,_,_,_,rfl,rfl,h1,rfl,n,rfl,by omega,by omega,aCp (n:=n) (fun j zs H'=>Drawn p H H'/\∃es,Dts true K (offs ys H') zs es/\aL (Can S r) (((Kd.many n k).parts S).take j) es) ⟨⟨hs,fun _ _ _ z=>z⟩,[],.nil,je⟩ (fun j zs H' hj z=>?_) (kQ (by omega)) (fun j zs H' hj z=>?_) (fun zs H' z l hl hns=>?_)⟩⟩⟩
  ·obtain⟨_,es,hdt,hcl⟩:=z;rw[hdt.length,←hcl.len,Δ];omega
  ·obtain⟨D,es,hdt,hcl⟩:=z;have hps:((Kd.many n k).parts S)[j]?=some (ε (toString j),k):=by
    show((jg n).map _)[j]?=_;rw[iq,rh hj];rfl
   obtain⟨p1,p2,_⟩:=Kd.parts_ok hW.good hf hk (μ hps);have sO:jI (offs ys H) (offs ys H'):=D.offs hpy;refine⟨_,rfl,_,rfl,a,_,_,_,rfl,rfl,jM.tp (sO.tp h1O),rfl,_,rfl,p,b,sl,k,S,r,ys,rfl,rfl,D.1,hpy,Al.drawn al D,p1,p2,h2O.same sO,hlxO.same sO,hW,fun v d H3 d3 hdv hcn hfr=>⟨⟨D.trans d3,es++[d],(hdt.same (d3.offs hpy)).snoc hdv,?_⟩,_,rfl⟩⟩;rw[jt,hps];exact hcl.app ⟨hcn,je⟩
  ·obtain⟨D,es,hdt,hcl⟩:=z;clear 1 l H3 g3 k3 hl;rw[lq (by rw[pl];exact ν _)]at hcl;exact q (.ref l) (.list es) H3 (D.keep g3) (.lst (SqL.of (kP ((Al.drawn al D).new hl) k3)) (fun _=>hns) (hdt.same (kH g3))) ⟨es,rfl,hcl⟩ (fun b eb=>by cases eb;exact D.free hl)
 | @nest a i h1O =>
  have h1:=jM.tp h1O;cases r with
  |zero=>exact(fO (.inl ⟨_,rfl⟩) hk).elim
  |succ r =>
  have hi:i<S.length:=hf;have hS:S[i]?=some S[i]:=θ hi;have ep:=qS hS;obtain⟨as,s,lf,ps,m1,m2,m3,m4,m5⟩:=hlxO.at hi;have few:=hW.good.few i _ hS;refine⟨_,rfl,a,_,_,_,rfl,rfl,h1,rfl,rfl,_,rfl,jU ⟨_,rfl,a,_,_,_,rfl,rfl,h1,rfl,rfl,_,rfl,jU ⟨_,rfl,a,_,_,_,rfl,rfl,h1,rfl,rfl,_,rfl,jU (fun l0 hl0=>?_)⟩⟩⟩;clear 1 l0 H1 g1 k1 hl0;have n0y:l0∉ys:=al.new hl0;have n0p:l0≠p:=fun z=>n0y (z ▸ hpy);have alB:∀{H':Hp}{o0:HO},cG p l0 H1 H'->H' l0=some o0->St3 H' p->Al (l0::ys) H':=fun {H' o0} g k0 st b hb=>by
   rcases Φ.mp hb with rfl|hb
   ·exact⟨_,k0⟩
   ·by_cases hbl:b=p
    ·exact hbl ▸ pN st
    ·obtain⟨o,ho'⟩:=al b hb;exact⟨o,g b o hbl (fun z=>n0y (z ▸ hb)) (g1 _ _ ho')⟩
  refine⟨_,rfl,_,rfl,a,_,_,_,rfl,rfl,g1.tp h1,rfl,sl,_,_,_,rfl,rfl,g1.seq (jM.seq m1),xR m2,s,_,_,_,rfl,rfl,g1.tp (jM.tp m3),rfl,lf,rfl,⟨_,g1.seq (jM.seq m4)⟩,xM (xs:=ps.map V.ref) (fun j σ H'=>∃(o3 o5 o6:Option V) (es:List ο) (zs:List V),σ = [some (.ref p),some (.ref a),some (.ref sl),o3,some (.ref l0),o5,o6]/\cG p l0 H1 H'/\St3 H' p/\H' l0=some (.dK (kz ((((Kd.nest i).parts S).map (·.1)).take j) zs))/\zs.length=j/\Dts true K (offs (l0::ys) H') zs es/\aL (Can S r) (((Kd.nest i).parts S).take j) es) ⟨_,_,_,[],[],rfl,fun _ _ _ _ z=>z,jI.st3 g1 hs,k1,rfl,.nil,je⟩ (fun j σ H' _ z=>?_) (fun j x' σ H' hx z=>?_) (fun σ H' z=>?_)⟩
  ·obtain⟨o3,o5,o6,es,zs,rfl,g,_⟩:=z;exact jM.seq ((cG.offs g1 hl0 hpy g).seq m4)
  ·obtain⟨o3,o5,o6,es,zs,rfl,g,st,k0,hzj,hdt,hcl⟩:=z;obtain⟨t0,ht0,rfl⟩:=qE hx;obtain⟨nm',kd',kk,hfs,htt,hko⟩:=m5.get ht0;have hps:((Kd.nest i).parts S)[j]?=some (nm',kd'):=by rw[ep];exact hfs
   obtain⟨p1,p2,_⟩:=Kd.parts_ok hW.good hf hk (μ hps);have sO:=cG.offs g1 hl0 hpy g;have hjl:j<((Kd.nest i).parts S).length:=(η.mp hps).1;have hkl:((((Kd.nest i).parts S).map (·.1)).take j).length=zs.length:=by rw[Δ,δ,hzj];omega
   have nk:(((Kd.nest i).parts S).map (·.1))[j]?=some nm':=by rw[iq,hps];rfl
   refine⟨t0,_,rfl,jM.tp (sO.tp htt),rfl,_,_,rfl,_,_,rfl,rfl,_,rfl,_,rfl,_,rfl,p,kk,sl,kd',S,r,l0::ys,rfl,rfl,st,Ξ _ hpy,alB g k0 st,p1,p2,hko.same sO,hlxO.same sO,hW,fun v d H3 d3 hdv hcn hfr=>?_⟩;have k3:=d3.2 l0 _ n0p k0;refine⟨_,rfl,_,rfl,l0,_,rfl,.inl ⟨_,.inr nm',k3,rfl,(by rw[uL hkl,hkl,hzj];rw[ep]at hjl;exact ς hjl (Θ few (by decide))),rfl⟩,?_⟩;rw[aIu (v:=v) (hW.pnd hf i rfl) hzj nk];clear 0 l0 H4 g4 k4;have s34:jI (offs (l0::ys) H3) (offs (l0::ys) H4):=vL fun b o hb e=>g4 b o (fun z=>hb (by rw[z];simp)) e;obtain⟨x3,y3,z3,est⟩:=d3.1;refine⟨o3,some (.str nm'),some (.ref kk),es++[d],zs++[v],rfl,fun b o h1 h2 e=>g4 b o h2 (d3.2 b o h1 (g b o h1 h2 e)),⟨x3,y3,z3,g4 p _ (lu n0p) est⟩,k4,by rw[ι,hzj];rfl,((hdt.same (d3.offs (Ξ _ hpy))).snoc hdv).same s34,?_⟩;rw[jt,hps];exact hcl.app ⟨hcn,je⟩
  ·obtain⟨o3,o5,o6,es,zs,rfl,g,st,k0,hzj,hdt,hcl⟩:=z;have en:(ps.map V.ref).length=((Kd.nest i).parts S).length:=by rw[ep,δ,m5.len]
   rw[en,kO]at hcl;rw[en,←δ (·.1),kO]at k0;have D:Drawn p H H':=⟨st,fun b o h e=>g b o h (jL e hl0) (g1 _ _ e)⟩;exact⟨_,rfl,q (.ref l0) (.dict (iG ((Kd.nest i).parts S) es)) H' D (aDs (kP n0y k0) (by rw[hzj,en]) (hdt.same iT)) ⟨es,rfl,hcl⟩ (fun b eb=>by cases eb;exact hl0)⟩
theorem aBk{k:Nat}(F:Fun K "_law_very" "_law_very" fV f fd):dB P w K mg base CX0 (k+2) f fd ["_law_found","_law_thing"] (spVe K):=by
 w_cond mM;obtain⟨x,rfl,hc,q⟩:=h;refine⟨_,(jD (kK (qT (kZ (jK qP rfl M.isinstance jd (jA (pv 1) (jA (vI (v:=.ty "list") rfl M.list xx rfl) jB))))) (jE (jJ yJ)) jP) (jD (vO (zP jq mj mm yD (pv 1) (jA jO jB))) (jD (jT 2 mM.nd (vN (jK qP rfl M.isinstance jd (jA (pv 0) (jA (vI (v:=.ty "list") rfl M.list xx rfl) jB))) (vN (qK kW (jK kF rfl M.len ja (jA (pv 0) jB)) (jK kF rfl M.len ja (jA (pv 1) jB)) (vG _)) (xI (qK (aJx hr.units) (vA xC (pv 0) (vT (iI cH jC)) vU) (kU (jA jO jB)) (vG _)))))) (jD (vO (aDd jq PySem.F.slot_list_pop PySem.F.type_list_pop aQe (pv 1))) (jE (jJ (pv 2))))))),?_⟩;rcases hc with⟨t,ht,hl⟩|⟨l,xs,rfl,hx,few⟩
 ·exact⟨_,rfl,x,_,t,rfl,by decide,ht,_,rfl,qU (by rw[hl];rfl) (q H (jI.refl _))⟩
 refine⟨_,rfl,.ref l,_,"list",rfl,by decide,.inl (.inl ⟨rfl,_,SqL.of hx⟩),_,rfl,jU ⟨_,rfl,.inl ⟨rfl,_,SqL.of hx⟩,l,xs,_,rfl,rfl,hx,kQ few,?_⟩⟩;clear 0 l H1 g1 k1;refine⟨_,rfl,.ref l,_,"list",rfl,by decide,.inl (.inl ⟨rfl,_,SqL.of k1⟩),_,rfl,kR ⟨_,rfl,l,_,rfl,.inl (SqL.of k1),_,rfl,l,_,rfl,.inl (SqL.of k1),rfl,_,rfl,qU (by simp) ?_⟩⟩;refine⟨_,rfl,_,rfl,_,rfl,l,_,rfl,SqL.of k1,fun c hc=>?_⟩;clear 1 c H2 g2 k2 hc;refine⟨aV,fun e he=>?_⟩;clear 1 e H3 g3 k3 he;have k2':H2 c=some (.lst [.str aEs]):=by rw[k2];exact congrArg (fun z=>some (HO.lst z)) (aJc xs (.str aEs))
 refine⟨.list [.str aEs],.list [.str aEs],.lst (SqL.of (g3 _ _ k2')) (.cons (.str _) .nil),.lst (SqL.of k3) (.cons (.str _) .nil),by ac_rfl,by ac_rfl,?_⟩;have kl:=(g2.trans g3) _ _ k1;refine⟨_,rfl,.inl ⟨rfl,_,SqL.of kl⟩,l,_,_,rfl,rfl,kl,(by rw[ι,ki,Nat.add_sub_cancel,ij (ν _),nr];rfl),?_⟩;rw[List.dropLast_concat];clear 0 l H4 g4 k4;refine⟨_,rfl,?_⟩;have key:jI H H4:=fun b o eb=>by
  by_cases hb:b=l
  ·rw[hb]at eb ⊢;rw[hx]at eb;cases eb;exact k4
  ·exact g4 b o hb ((g2.trans g3) _ _ (g1 b o hb eb))
 exact q H4 key
theorem pP(F:Fun K "_law_no_flat" "_law_no_flat" bB f fd)(dq:Cal P w K mg base (CXE P w) k "flat" (aLv (q0 0) aa K r)):j4 ["_law_shape","_law_thing"] (aOt (q0 0) K r):=by
 w_cond yH;obtain⟨s,x,i,sa,S,d,rfl,e,hi,h8,hw,hW,hb,hd1,hd2,hsn,hdp,hsz,q⟩:=h;refine⟨_,(jD (jT 2 yH.nd yJ) (jD (aKd (i:=3) rfl rfl rfl rfl af.m af.x yH.nd rfl rfl (fun _ _ _=>(jE (vO (aEz dq hr rfl aOr (jA (pv 0) (jA (pv 1) jB)))))) (fun _=>(jE (jT 2 yH.nd (vN (qK (aBx (K:=K) rfl hr.units) (hU (K:=K) rfl (pv 3) rfl) (pv 1) (vG _)) (xI (qK kW (jK (vV (K:=K) rfl hr.gd hr.units) rfl M.repr (show lm "repr" = some (.builtin "repr") from by ac_rfl) (jA (hU (K:=K) rfl (pv 3) rfl) jB)) (jK (vV (K:=K) rfl hr.gd hr.units) rfl M.repr (show lm "repr" = some (.builtin "repr") from by ac_rfl) (jA (pv 1) jB)) (vG _)))))))) (jE (jJ (pv 2))))),?_⟩;refine⟨fun σ=>σ = [some (.ref s),some x,some (.bl false),none],fun v _ H'=>∃e,v=.ref e/\jI H H'/\XAt aa H' e [("found",x)],⟨_,rfl,_,rfl,rfl,s,x,i,sa,S,rfl,e,hi,h8,hw,hW,.inr ⟨hb,fun e H' g he hx=>⟨e,rfl,g,hx⟩⟩⟩,fun σ' e H' hS hW'=>?_⟩;subst hS;obtain⟨e2,ee,g,dx,hE,hX⟩:=hW';cases ee;refine⟨aa,some dx,_,hE,af.x,(by simp),?_⟩;refine⟨_,rfl,e,aa,cRE,ah,dx,_,x,rfl,.inl hE,hX,af.c,af.n _ (by simp),rfl,_,rfl,d,hd1.same g,hd1.same g,hdp,_,rfl,qU rfl ⟨_,rfl,e,aa,cRE,ah,dx,_,x,rfl,.inl hE,hX,af.c,af.n _ (by simp),rfl,x,d,rfl,DtR.same hd2 g,hsn,hdp,hsz,_,rfl,x,d,rfl,DtR.same hd2 g,hsn,hdp,hsz,rfl,?_⟩⟩;refine⟨_,rfl,?_⟩;rw[decide_eq_true rfl];exact q H' g
theorem uW{k r:Nat}(F:Fun K "_law_asked" "_law_asked" dN f fd)(gx:j7 "_law_due" (spDu K r))(bu:Cal P w K mg base (CXE P w) k "of_flat" (spOF (q0 0) aa K r)){dr:Addr}{cz:oz}(cr:Df K mg "_law_very" dr cz ["_law_found","_law_thing"])(gq:dB P w K mg base CX0 k dr cz ["_law_found","_law_thing"] (spVe K)){cNP bc:Addr}(XN:XN2 K mg aa cNP bc):j4 ["_law_shape","_law_main","_law_shapes_here","_law_rows"] (spAk (q0 0) K r):=by
 w_cond xT;obtain⟨s,a,sl,x,i,sa,S,d,rfl,e,hi,h8,hw,hW,hlk,hlx,tg,hdep,q⟩:=h;refine⟨_,(jD (jT 4 xT.nd (jF gx hr (jA (pv 1) (jA (pv 2) (jA (pv 3) jB))))) (jD (jT 5 xT.nd (jK (vV (K:=K) rfl hr.gd hr.units) rfl M.repr (show lm "repr" = some (.builtin "repr") from by ac_rfl) (jA (pv 3) jB))) (jD (jT 6 xT.nd vE) (jD (aKd (i:=7) rfl rfl rfl rfl af.m af.x xT.nd rfl rfl (fun _ _ _=>(jE (jT 6 xT.nd (kU (jA (aEz bu hr rfl aOr (jA (pv 0) (jA (pv 3) jB))) jB))))) (fun _=>(jD (kK (PW.pt (xL (jS tV (pv 4) vE) (xL (jS (wS (K:=K) rfl hr.units) (hU (K:=K) rfl (pv 7) rfl) (pv 3)) (xL (kZ (jK (aBu (K:=K) rfl) rfl M.isinstance jd (jA (pv 7) (jA (qL (v:=.ref cNP) rfl XN.m1 rfl) jB)))) (xX (kZ (jK (aBu (K:=K) rfl) rfl M.isinstance jd (jA (pv 7) (jA (qL (v:=.ref bc) rfl XN.m2 rfl) jB))))))))) (jE (jJ yJ)) jP) (jE (kK (qT (kZ (aIe gq (hr.mark _) rfl cr.m cr.k cr.b .nil qR (jA (hU (K:=K) rfl (pv 7) rfl) (jA (pv 3) jB))))) (jE (jJ yJ)) jP))))) (jE (jJ (vN (qK (aFh hr.units) (pv 6) (pv 4) (vG _)) (xI (qK kW (jK (vV (K:=K) rfl hr.gd hr.units) rfl M.repr (show lm "repr" = some (.builtin "repr") from by ac_rfl) (jA (pv 3) jB)) (pv 5) (vG _)))))))))),?_⟩;have hil:i<S.length:=by rw[←hw.1];exact(η.mp e).1
 refine⟨_,rfl,_,rfl,_,rfl,a,sl,x,i,S,d,rfl,hlk,hlx,hW,hil,hi,h8,tg.th,tg.sz,fun y H1 g1 hy=>?_⟩;have tg1:=tg.same g1;refine⟨_,rfl,x,d,rfl,tg1.rp,tg1.sn,tg1.dp,tg1.ln,?_⟩;rcases hy with⟨hno,rfl⟩|⟨e',v,t,hso,rfl,kt,hdv⟩
 ·refine⟨fun σ=>σ = [some (.ref s),some (.ref a),some (.ref sl),some x,some .non,some (.str d.shown),some .non,none],fun u _ H'=>∃e,u=.ref e/\jI H1 H'/\XAt aa H' e [("found",x)],⟨_,rfl,_,rfl,rfl,s,x,i,sa,S,d,rfl,e,hi,h8,hw.same g1,hW,tg1.th,(fun ds z=>(tg.sz ds z).1),(fun e z=>by rw[hno]at z;cases z),fun _ e H' g he hx=>⟨e,rfl,g,hx⟩⟩,fun σ' e' H' hS hW'=>?_⟩;subst hS;obtain⟨e2,ee,g,dx,hE,hX⟩:=hW';cases ee;have tg2:=tg1.same g;refine⟨aa,some dx,_,hE,af.x,(by simp),?_⟩;have EX:Exc K H' e' aa [("found",x)]:=⟨dx,cRE,ah,.inl hE,hX,af.c⟩;have fin:∀{Q':VK},Q' (.bl false) H'->rNeT K x x H' Q':=fun z=>by
   rcases tg2.ne with⟨b,ks,xs,ds,rfl,h1,h2,h3,h4⟩|⟨h1,h2⟩
   ·exact .inl ⟨b,b,ks,xs,xs,ds,rfl,rfl,h1,h1,h2,h2,h3,h3,h4,z⟩
   ·exact .inr ⟨d,h1,h1,h2,z⟩
  refine⟨_,rfl,rfl,_,rfl,qZ (by simp) ⟨_,rfl,e',aa,cRE,ah,dx,_,x,rfl,.inl hE,hX,af.c,af.n _ (by simp),rfl,_,rfl,fin ⟨_,rfl,jU ⟨_,rfl,e',aa,cNP,_,false,rfl,EX,.inr ⟨XN.n1,rfl⟩,_,rfl,jU ⟨_,rfl,e',aa,bc,_,false,rfl,EX,.inr ⟨XN.n2,rfl⟩,_,rfl,jU ⟨_,rfl,e',aa,cRE,ah,dx,_,x,rfl,.inl hE,hX,af.c,af.n _ (by simp),rfl,_,rfl,x,rfl,tg2.ve,fun H3 g3=>⟨_,rfl,jU ?_⟩⟩⟩⟩⟩⟩⟩;have tg3:=tg2.same g3;refine⟨_,rfl,_,rfl,.none,.non,.non,(by decide),_,rfl,qU rfl ⟨_,rfl,x,d,rfl,tg3.rp,tg3.sn,tg3.dp,tg3.ln,_,rfl,rfl,?_⟩⟩;rw[decide_eq_true rfl];exact q H3 ((g1.trans g).trans g3)
 ·refine⟨fun σ=>σ = [some (.ref s),some (.ref a),some (.ref sl),some x,some (.ref t),some (.str d.shown),some .non,none],fun u _ H'=>False,⟨_,rfl,_,rfl,rfl,s,x,i,sa,S,d,rfl,e,hi,h8,hw.same g1,hW,tg1.th,(fun ds z=>(tg.sz ds z).1),(fun e2 z v2 H2 g2 hd2 hf2=>?_),fun z=>by rw[hso]at z;cases z⟩,fun σ' e' H' hS hW'=>hW'.elim⟩;rw[hso]at z;cases z;refine⟨aV,fun tl htl=>?_⟩;clear 1 tl H3 g3 k3 htl;have tg3:=(tg1.same g2).same g3;have g23:=g2.trans g3;have hdp:(ο.list [e']).depth<=60:=by
   have:=hdep e' hso;show max e'.depth 0+1<=60;omega
  refine⟨_,rfl,_,rfl,.list [e'],.lst (SqL.of k3) (fun z=>nomatch z) (.cons (hd2.same g3) .nil),.lst (SqL.of (g23 _ _ kt)) (fun z=>nomatch z) (.cons (hdv.same g23) .nil),hdp,_,rfl,qU rfl ⟨_,rfl,x,d,rfl,tg3.rp,tg3.sn,tg3.dp,tg3.ln,_,rfl,rfl,?_⟩⟩;rw[decide_eq_true rfl];exact q H3 (g1.trans g23)
theorem oP{r:Nat}(F:Fun K "_law_changed" "_law_changed" bG f fd)(ac:j7 "_law_take" fL):j4 ["_law_box_here","_law_rows"] (aOo K):=by
 w_cond vM;obtain⟨p,rl,rs,rfl,hs,⟨ts,ktO,rrO⟩,hne,few,hrw,q⟩:=h;refine⟨_,(PSx.h (qF (xU (jT 2 vM.nd (jF ac hr (jA (pv 0) (jA (jK kF rfl M.len ja (jA (pv 1) jB)) jB))))) (qF (xU (jT 3 vM.nd (jF ac hr (jA (pv 0) (jA (jK kF rfl M.len ja (jA (pv 1) jB)) jB))))) (qF (xU (jT 4 vM.nd (jF ac hr (jA (pv 0) (jA jC jB))))) (qF (xU (bY (jH jW (pv 1) (pv 2)) (xP rfl (jX (kS 5 vM.nd) (jX (kS 6 vM.nd) qH))))) (qF (xU (jT 7 vM.nd (qQ cJ rfl M.list xx (jA (pv 1) jB)))) (qF (cB (jS kW (pv 4) jC) (qW (xQ (kI (jY yS (vA xC (pv 1) vU (vT (pv 2))) (vA xC (pv 1) (vT (jY qJ (pv 2) jC)) vU))))) jP) (qF (cB (jS kW (pv 4) jC) (qW (xQ (kI (jY yS (jY yS (vA xC (pv 1) vU (vT (pv 2))) (kU (jA (jH jW (pv 1) (pv 3)) jB))) (vA xC (pv 1) (vT (pv 2)) vU))))) jP) (qF (iP (jS kW (pv 4) jC) (qF (dL (kI (jH jW (pv 1) (pv 3))) (dQ (pv 7) (pv 2) set_list)) (qW (dL (kI (jH jW (pv 1) (pv 2))) (dQ (pv 7) (pv 3) set_list)))) (qW (iP (jS kW (pv 4) jC) (qW (dL (cX (jR (kI (pv 5)) (jR (hJ (jR (kI (jY qJ (pv 6) jC)) (jR (kI jC) (jR (kI jC) (jR (kI jC) (jR (kI jC) (jR (kI (jY zZ jC jC)) (jR (kI (jY wC jC jC)) (jR (kI yJ) (jR (kI vE) (jR (kI jO) (jR (eY (jR (kI jC) vS kM)) vS nQ) kM) kM) kM) fN) fN) kM) kM) kM) kM) fN) (kI (jF ac hr (jA (pv 0) (jA jC jB)))) (fun _ _=>rfl)) vS aDl) yX)) (dQ (pv 7) (pv 2) set_list))) (qW (iP (jS kW (pv 4) jC) (qW (dL (cX (jR (hJ (jR (kI (jY qM (pv 5) jO)) (jR (kI (vA aGd (pv 5) (vT jC) vU)) (jR (kI jO) (jR (kI (jY qM (pv 5) jO)) (jR (kI vE) (jR (kI jC) (jR (kI (jY qM (pv 5) jO)) vS fN) kM) kM) fN) kM) aDl) fN) (kI (jF ac hr (jA (pv 0) (jA jC jB)))) (fun _ _=>rfl)) (jR (kI (pv 6)) vS yX) aDl)) (dQ (pv 7) (pv 2) set_list))) (qW (iP (jS kW (pv 4) jC) (qW (dL (hJ (jR (eY (jR (kI (pv 5)) (jR (kI (pv 6)) vS yX) yX)) (jR (cX (jR (kI (pv 5)) (jR (kI (pv 6)) (jR (kI jC) vS kM) yX) yX)) (jR (cX (jR (kI (pv 5)) vS yX)) (jR (cX vS) (jR (kI vE) (jR (kI (pv 5)) (jR (kI (pv 6)) vS yX) yX) kM) eL) eL) eL) nQ) (kI (jF ac hr (jA (pv 0) (jA jC jB)))) (fun _ _=>rfl)) (dQ (pv 7) (pv 2) set_list))) (qW (cB (jS kW (pv 4) jC) (qW (xQ (kI (vA xC (pv 1) vU (vT (pv 2)))))) jP))))))))) (qW (xQ (kI (pv 7))))))))))))),?_⟩;have pm:p∈[p]:=Ψ.mpr rfl;have hpos : 0<rs.length:=uf.mpr hne;have hxl:(ts.map V.ref).length=rs.length:=by rw[δ,rrO.len]
 refine⟨_,rfl,_,rfl,rl,_,rfl,.inl (SqL.of (jM _ _ ktO)),?_⟩;rw[hxl];refine⟨p,rs.length,rfl,by omega,by omega,hs,fun at1 H1 hat1 d1=>?_⟩;refine⟨_,rfl,_,rfl,rl,_,rfl,.inl (SqL.of (jM _ _ (d1.offs pm _ _ ktO))),?_⟩;rw[hxl];refine⟨p,rs.length,rfl,by omega,by omega,d1.1,fun ot H2 hot d2=>?_⟩;refine⟨_,rfl,p,8,rfl,by decide,by decide,d2.1,fun way H3 hway d3=>?_⟩;have D3:Drawn p H H3:=(d1.trans d2).trans d3;have s3:=D3.offs pm;have k3:=jM _ _ (s3 _ _ ktO);obtain⟨t,qr,ht,hq,hsq⟩:=rrO.get (j:=at1) (by omega);obtain⟨t2,q2,ht2,hq2,hsq2⟩:=rrO.get (j:=ot) (by omega);obtain⟨r1,r2,r3,r4⟩:=hrw qr (μ hq);refine⟨_,rfl,_,rfl,rl,_,_,_,rfl,rfl,SqL.of k3,xR ht,t,_,rfl,jM.tp (s3.tp hsq),rfl,_,_,rfl,_,_,rfl,rfl,?_⟩;refine⟨_,rfl,rl,_,rfl,.inl (SqL.of k3),fun lf hlf=>?_⟩;clear 1 lf H4 g4 k4 hlf;have D4:=D3.keep g4;have nlf:lf≠p:=bU D3.1 hlf;have hl0:H lf=none:=D3.free hlf;have k3':=g4 _ _ k3;have ne4:∀{H':Hp},Drawn p H H'->∀x∈ts.map V.ref,∃d,Dat K H' x d/\Nc d:=fun D=>(rrO.same ((D.offs pm).trans jM)).ne hrw;have fin:=fun {l:Addr}{xs:List V}{H':Hp}(D:Drawn p H H') (k:H' l=some (.lst xs)) (h:∀x∈xs,∃d,Dat K H' x d/\Nc d) (hl:xs.length<=140)=>(aRw h).elim fun ds hh=>q l xs ds H' D k hh.1 hh.2.1 (by have:=hh.2.2;omega);have chg:∀{H5 H6:Hp},Drawn p H H5->But lf H5 H6->Drawn p H H6:=fun {H5 H6} D g=>by
  obtain⟨x1,x2,x3,hp5⟩:=D.1;exact⟨⟨x1,x2,x3,g _ _ (fun z=>nlf z.symm) hp5⟩,fun b o nb eb=>g b o (fun z=>by rw[z,hl0]at eb;cases eb) (D.2 _ _ nb eb)⟩
 have fin2:∀{H5:Hp}{v:V},Drawn p H H5->(∃d,Dat K (offs [lf] H5) v d/\Nc d)->Q (.ref lf) (upd H5 lf (.lst ((ts.map V.ref).set at1 v))):=fun {H5 v} D hv=>by
  clear 0 lf H6 g6 k6;have D6:=chg D g6;refine fin D6 k6 (fun x hx=>?_) (by rw[ux,hxl];omega);rcases wl hx with hx|rfl
  ·exact ne4 D6 x hx
  ·obtain⟨d,h1,h2⟩:=hv;exact⟨d,h1.same ((vL fun b o nb eb=>g6 b o (fun z=>nb (Ψ.mpr z)) eb).trans jM),h2⟩
 have cl:∀lo hi,(aK (ts.map V.ref) lo hi).length<=65:=fun lo hi=>Θ (mJ _ _ _) (by omega);have ax:at1<(ts.map V.ref).length:=by omega
 have ox:ot<(ts.map V.ref).length:=by omega
 have nw:∀{H':Hp}{b:Addr}{o:HO},H' lf=some o->H' b=none->b∉[lf]:=fun h1 h2 z=>by rw[Ψ.mp z,h1]at h2;cases h2
 have sp:Sml qr.1:=r2;have i1:=It.str sp;have i2:It (.int qr.2) 101 0:=It.int (by omega) (by omega);have r1':qr.1.length<=192:=r1;have hway':way<8:=by exact_mod_cast hway
 match way,hway' with
 |0,_ =>
  refine⟨_,rfl,rfl,_,rfl,kR ⟨_,rfl,_,rfl,_,rfl,rl,_,rfl,SqL.of k3',fun c1 hc1=>?_⟩⟩;clear 1 c1 H5 g5 k5 hc1;refine⟨_,rfl,_,rfl,_,_,rfl,rfl,_,rfl,rl,_,rfl,SqL.of (g5 _ _ k3'),fun c2 hc2=>?_⟩;clear 1 c2 H6 g6 k6 hc2;refine⟨c1,c2,_,_,rfl,rfl,g6 _ _ k5,k6,Θ (vw (cl _ _) (cl _ _)) (by decide),fun l hl=>?_⟩;clear 1 l H7 g7 k7 hl;have D7:=D4.keep ((g5.trans g6).trans g7);exact fin D7 k7 (fun x hx=>ne4 D7 x (by rcases km.mp hx with h|h <;> exact nP h)) (by rw[ι];exact Θ (vw (cl _ _) (cl _ _)) (by decide))
 |1,_ =>
  refine⟨_,rfl,rfl,_,rfl,jU ⟨_,rfl,rfl,_,rfl,kR ⟨_,rfl,_,rfl,_,rfl,rl,_,rfl,SqL.of k3',fun c1 hc1=>?_⟩⟩⟩;clear 1 c1 H5 g5 k5 hc1;refine⟨_,rfl,_,rfl,rl,_,_,_,rfl,rfl,SqL.of (g5 _ _ k3'),xR ht2,aV,fun c2 hc2=>?_⟩;clear 1 c2 H6 g6 k6 hc2;refine⟨c1,c2,_,_,rfl,rfl,g6 _ _ k5,k6,Θ (zo (cl _ _) _) (show 65+1<=ρ by decide),fun c3 hc3=>?_⟩;clear 1 c3 H7 g7 k7 hc3;refine⟨_,rfl,_,rfl,_,rfl,rl,_,rfl,SqL.of ((g5.trans (g6.trans g7)) _ _ k3'),fun c4 hc4=>?_⟩;clear 1 c4 H8 g8 k8 hc4;have l3:(aK (ts.map V.ref) none (some (at1:Int))++[V.ref t2]).length<=66:=by rw[ι];exact zo (cl _ _) 1
  refine⟨c3,c4,_,_,rfl,rfl,g8 _ _ k7,k8,Θ (vw l3 (cl _ _)) (by decide),fun l hl=>?_⟩;clear 1 l H9 g9 k9 hl;have D9:=D4.keep ((g5.trans (g6.trans g7)).trans (g8.trans g9));refine fin D9 k9 (fun x hx=>ne4 D9 x ?_) (by rw[ι];exact Θ (vw l3 (cl _ _)) (by decide));rcases km.mp hx with h|h
  ·rcases km.mp h with h|h
   ·exact nP h
   ·rw[Ψ.mp h];exact jf.mpr ⟨t2,μ ht2,rfl⟩
  ·exact nP h
 |2,_ =>
  refine⟨_,rfl,rfl,_,rfl,jU ⟨_,rfl,rfl,_,rfl,jU ⟨_,rfl,rfl,_,rfl,kR ⟨_,rfl,_,rfl,rl,_,_,_,rfl,rfl,SqL.of k3',xR ht2,_,rfl,_,rfl,lf,_,_,at1,rfl,rfl,k4,hV ax,?_⟩⟩⟩⟩;clear 0 lf H5 g5 k5;have D5:=chg D4 g5;have krl:H5 rl=some (.lst (ts.map V.ref)):=g5 _ _ (fun z=>by rw[z,hlf]at k3;cases k3) k3';refine⟨_,rfl,_,rfl,rl,_,_,_,rfl,rfl,SqL.of krl,xR ht,_,rfl,_,rfl,lf,_,_,ot,rfl,rfl,k5,hV (by rw[ux];exact ox),?_⟩;clear 0 lf H6 g6 k6;have D6:=chg D5 g6;refine⟨_,rfl,fin D6 k6 (fun x hx=>ne4 D6 x ?_) (by rw[ux,ux,hxl];omega)⟩;rcases wl hx with hx|rfl
  ·rcases wl hx with hx|rfl
   ·exact hx
   ·exact jf.mpr ⟨t2,μ ht2,rfl⟩
  ·exact jf.mpr ⟨t,μ ht,rfl⟩
 |3,_ =>
  refine⟨_,rfl,rfl,_,rfl,jU ⟨_,rfl,rfl,_,rfl,jU ⟨_,rfl,rfl,_,rfl,jU ⟨_,rfl,rfl,_,rfl,kR ⟨_,rfl,_,rfl,_,_,rfl,rfl,_,_,rfl,rfl,_,_,rfl,rfl,⟨by decide,by decide,by decide⟩,aV,fun l0 hl0'=>?_⟩⟩⟩⟩⟩;generalize e5:upd H4 l0 _=H5;obtain⟨g5,k5⟩:=qA e5 hl0';refine⟨(by show 11<=ρ;decide),fun ml hml=>?_⟩;clear 1 ml H6 g6 k6 hml;have D6:=D4.keep (g5.trans g6);have nm:ml≠p:=bU (jI.st3 g5 D4.1) hml;refine⟨_,rfl,p,11,rfl,by decide,by decide,D6.1,fun v H7 hv d7=>?_⟩;have k7:=d7.2 ml _ nm k6;have D7:=D6.trans d7;have kl0:offs [lf] H7 l0=some (.lst [.int 0]):=kP (nw k4 hl0') (d7.2 _ _ (bU D4.1 hl0') (g6 _ _ k5));have hv':v<11:=by exact_mod_cast hv
  obtain⟨m,dm,hat,hdm,him⟩ : ∃m dm,atI [V.int (qr.2+1),V.int 0,V.int 1,V.int 255,V.int 256,V.int (0-1),V.int (1*2 ^ (32:Int).toNat),V.bl true,V.non,V.str (ε "0"),V.ref l0] (v:Int)=some m/\Dat K (offs [lf] H7) m dm/\It dm 102 1:=by
   match v,hv' with
   |0,_=>exact⟨_,_,rfl,.int _,(It.int (by omega) (by omega)).le (by decide) (by decide)⟩
   |1,_=>exact⟨_,_,rfl,.int _,(It.int (by decide) (by decide)).le (by decide) (by decide)⟩
   |2,_=>exact⟨_,_,rfl,.int _,(It.int (by decide) (by decide)).le (by decide) (by decide)⟩
   |3,_=>exact⟨_,_,rfl,.int _,(It.int (by decide) (by decide)).le (by decide) (by decide)⟩
   |4,_=>exact⟨_,_,rfl,.int _,(It.int (by decide) (by decide)).le (by decide) (by decide)⟩
   |5,_=>exact⟨_,_,rfl,.int _,(It.int (by decide) (by decide)).le (by decide) (by decide)⟩
   |6,_=>exact⟨_,_,rfl,.int _,(It.int (by decide) (by decide)).le (by decide) (by decide)⟩
   |7,_=>exact⟨_,_,rfl,.bl _,(It.bl _).le (by decide) (by decide)⟩
   |8,_=>exact⟨_,_,rfl,.non,It.non.le (by decide) (by decide)⟩
   |9,_=>exact⟨_,_,rfl,.str _,(It.str (by unfold Sml;ac_rfl)).le (by ac_rfl) (by decide)⟩
   |10,_=>exact⟨_,_,rfl,.lst (SqL.of kl0) (.cons (.int _) .nil),(ItA.cons (It.int (by decide) (by decide)) (ItA.nil 0)).lst⟩
   |n+11,h=>exact absurd h (by omega)
  refine⟨ml,_,_,m,rfl,rfl,SqL.of k7,hat,xD,fun tt htt=>?_⟩;clear 1 tt H8 g8 k8 htt;have kl7:H7 lf=some (.lst (ts.map V.ref)):=d7.2 _ _ nlf ((g5.trans g6) _ _ k4);refine⟨_,rfl,_,rfl,lf,_,_,at1,rfl,rfl,g8 _ _ kl7,hV ax,_,rfl,fin2 (D7.keep g8) ⟨.tuple [.str qr.1,dm],.tup (SqT.of (kP (nw kl7 htt) k8)) (.cons (.str _) (.cons (hdm.same (kH g8)) .nil)),?_⟩⟩;exact(ItA.cons (i1.le (ν _) (iy 1)) (ItA.cons him (ItA.nil 1))).tup.nc (by omega) (by decide)
 |4,_ =>
  have le2:∀x:Str,x.length<=4->qr.1.length+x.length<=ρ:=fun x hx=>Θ (show _<=196 by omega) (by decide);have la:∀{x:Str},Sml x->x.length<=4->It (.str (qr.1++x)) 200 0:=fun {x} h1 h2=>(It.str (sp.app h1)).le (by rw[kc];omega) (ν _);refine⟨_,rfl,rfl,_,rfl,jU ⟨_,rfl,rfl,_,rfl,jU ⟨_,rfl,rfl,_,rfl,jU ⟨_,rfl,rfl,_,rfl,jU ⟨_,rfl,rfl,_,rfl,kR ⟨_,rfl,_,_,rfl,rfl,le2 _ (by ac_rfl),_,rfl,_,rfl,_,rfl,Θ r1' (by decide),_,rfl,_,_,rfl,rfl,le2 _ (by ac_rfl),_,rfl,_,_,rfl,rfl,le2 _ (by ac_rfl),(by show 7<=ρ;decide),fun ml hml=>?_⟩⟩⟩⟩⟩⟩;clear 1 ml H6 g6 k6 hml;have D6:=D4.keep g6;have nm:ml≠p:=bU D4.1 hml;refine⟨_,rfl,p,7,rfl,by decide,by decide,D6.1,fun v H7 hv d7=>?_⟩;have k7:=d7.2 ml _ nm k6;have D7:=D6.trans d7;have hv':v<7:=by exact_mod_cast hv
  obtain⟨m,dm,hat,hdm,him⟩ : ∃m dm,atI [V.str (qr.1++ε "q"),V.str (Txt.slice qr.1 (some 1) none),V.str (ε ""),V.str (qr.1++ε ".tag"),V.non,V.int 0,V.str (qr.1++ε ".")] (v:Int)=some m/\Dat K (offs [lf] H7) m dm/\It dm 200 0:=by
   match v,hv' with
   |0,_=>exact⟨_,_,rfl,.str _,la (by unfold Sml;ac_rfl) (by ac_rfl)⟩
   |1,_=>exact⟨_,_,rfl,.str _,(It.str (Sml.slice sp _ _)).le (Θ (Txt.slice_le _ _ _) (by omega)) (ν _)⟩
   |2,_=>exact⟨_,_,rfl,.str _,(It.str (by unfold Sml;ac_rfl)).le (by ac_rfl) (by decide)⟩
   |3,_=>exact⟨_,_,rfl,.str _,la (by unfold Sml;ac_rfl) (by ac_rfl)⟩
   |4,_=>exact⟨_,_,rfl,.non,It.non.le (by decide) (by decide)⟩
   |5,_=>exact⟨_,_,rfl,.int _,(It.int (by decide) (by decide)).le (by decide) (by decide)⟩
   |6,_=>exact⟨_,_,rfl,.str _,la (by unfold Sml;ac_rfl) (by ac_rfl)⟩
   |n+7,h=>exact absurd h (by omega)
  refine⟨ml,_,_,m,rfl,rfl,SqL.of k7,hat,_,rfl,xD,fun tt htt=>?_⟩;clear 1 tt H8 g8 k8 htt;have kl7:H7 lf=some (.lst (ts.map V.ref)):=d7.2 _ _ nlf (g6 _ _ k4);refine⟨_,rfl,_,rfl,lf,_,_,at1,rfl,rfl,g8 _ _ kl7,hV ax,_,rfl,fin2 (D7.keep g8) ⟨.tuple [dm,.int qr.2],.tup (SqT.of (kP (nw kl7 htt) k8)) (.cons (hdm.same (kH g8)) (.cons (.int _) .nil)),?_⟩⟩;exact(ItA.cons him (ItA.cons i2 (ItA.nil 0))).tup.nc (by decide) (by decide)
 |5,_ =>
  refine⟨_,rfl,rfl,_,rfl,jU ⟨_,rfl,rfl,_,rfl,jU ⟨_,rfl,rfl,_,rfl,jU ⟨_,rfl,rfl,_,rfl,jU ⟨_,rfl,rfl,_,rfl,jU ⟨_,rfl,rfl,_,rfl,kR ⟨_,rfl,_,rfl,xD,fun a1 h1=>?_⟩⟩⟩⟩⟩⟩⟩;clear 1 a1 H5 g5 k5 h1;refine⟨_,rfl,_,rfl,sJ,fun a2 h2=>?_⟩;clear 1 a2 H6 g6 k6 h2;refine⟨_,rfl,aV,fun a3 h3=>?_⟩;clear 1 a3 H7 g7 k7 h3;refine⟨bH,fun a4 h4=>?_⟩;clear 1 a4 H8 g8 k8 h4;refine⟨_,rfl,_,rfl,(by show 7<=ρ;decide),fun ml hml=>?_⟩;clear 1 ml H9 g9 k9 hml;have g57:=g5.trans (g6.trans g7);have D8:=D4.keep (g57.trans g8);have D9:=D8.keep g9;have nm:ml≠p:=bU D8.1 hml;refine⟨_,rfl,p,7,rfl,by decide,by decide,D9.1,fun v H10 hv d10=>?_⟩;have k10:=d10.2 ml _ nm k9;have D10:=D9.trans d10;have kl10:H10 lf=some (.lst (ts.map V.ref)):=d10.2 _ _ nlf ((g57.trans (g8.trans g9)) _ _ k4);have q1:=kP (nw k4 h1) (d10.2 _ _ (bU D4.1 h1) ((g6.trans (g7.trans (g8.trans g9))) _ _ k5));have q2':=kP (nw (g5 _ _ k4) h2) (d10.2 _ _ (bU (jI.st3 g5 D4.1) h2) ((g7.trans (g8.trans g9)) _ _ k6));have q3:=kP (nw ((g5.trans g6) _ _ k4) h3) (d10.2 _ _ (bU (jI.st3 (g5.trans g6) D4.1) h3) ((g8.trans g9) _ _ k7));have q4:=kP (nw (g57 _ _ k4) h4) (d10.2 _ _ (bU (jI.st3 g57 D4.1) h4) (g9 _ _ k8));have hv':v<7:=by exact_mod_cast hv
  obtain⟨m,dm,hat,hdm,him⟩ : ∃m dm,atI [V.ref a1,V.ref a2,V.ref a3,V.ref a4,V.non,V.str qr.1,V.int qr.2] (v:Int)=some m/\Dat K (offs [lf] H10) m dm/\It dm 400 1:=by
   match v,hv' with
   |0,_=>exact⟨_,_,rfl,.lst (SqL.of q1) (.cons (.str _) (.cons (.int _) .nil)),(ItA.cons i1 (ItA.cons i2 (ItA.nil 0))).lst.le (by omega) (by decide)⟩
   |1,_=>exact⟨_,_,rfl,.tup (SqT.of q2') (.cons (.str _) (.cons (.int _) (.cons (.int _) .nil))),(ItA.cons i1 (ItA.cons i2 (ItA.cons (It.int (by decide) (by decide)) (ItA.nil 0)))).tup.le (by omega) (by decide)⟩
   |2,_=>exact⟨_,_,rfl,.tup (SqT.of q3) (.cons (.str _) .nil),(ItA.cons i1 (ItA.nil 0)).tup.le (by omega) (by decide)⟩
   |3,_=>exact⟨_,_,rfl,.tup (SqT.of q4) .nil,(ItA.nil 0).tup.le (by omega) (by decide)⟩
   |4,_=>exact⟨_,_,rfl,.non,It.non.le (by decide) (by decide)⟩
   |5,_=>exact⟨_,_,rfl,.str _,i1.le (by omega) (by decide)⟩
   |6,_=>exact⟨_,_,rfl,.int _,i2.le (by decide) (by decide)⟩
   |n+7,h=>exact absurd h (by omega)
  exact⟨ml,_,_,m,rfl,rfl,SqL.of k10,hat,_,rfl,_,rfl,lf,_,_,at1,rfl,rfl,kl10,hV ax,_,rfl,fin2 D10 ⟨dm,hdm,him.nc (by decide) (by decide)⟩⟩
 |6,_ =>
  refine⟨_,rfl,rfl,_,rfl,jU ⟨_,rfl,rfl,_,rfl,jU ⟨_,rfl,rfl,_,rfl,jU ⟨_,rfl,rfl,_,rfl,jU ⟨_,rfl,rfl,_,rfl,jU ⟨_,rfl,rfl,_,rfl,jU ⟨_,rfl,rfl,_,rfl,kR ⟨_,rfl,_,rfl,_,rfl,rl,_,rfl,SqL.of k3',fun l hl=>?_⟩⟩⟩⟩⟩⟩⟩⟩;clear 1 l H5 g5 k5 hl;have D5:=D4.keep g5;exact fin D5 k5 (fun x hx=>ne4 D5 x (nP hx)) (Θ (cl _ _) (by decide))
 |7,_ =>
  exact⟨_,rfl,rfl,_,rfl,jU ⟨_,rfl,rfl,_,rfl,jU ⟨_,rfl,rfl,_,rfl,jU ⟨_,rfl,rfl,_,rfl,jU ⟨_,rfl,rfl,_,rfl,jU ⟨_,rfl,rfl,_,rfl,jU ⟨_,rfl,rfl,_,rfl,jU ⟨_,rfl,fin D4 k4 (ne4 D4) (by omega)⟩⟩⟩⟩⟩⟩⟩⟩
 |n+8,h=>exact absurd h (by omega)
theorem wP{r:Nat}(F:Fun K "_law_right" "_law_right" dM f fd)(bb:j7 "_law_drawn" (spDr K (r+1)))(bp:j7 "_law_flat" (aFy K (r+1)))(dq:Cal P w K mg base (CXE P w) k "flat" (aLv (q0 0) aa K r))(bu:Cal P w K mg base (CXE P w) k "of_flat" (spOF (q0 0) aa K r))(ck:j7 "_law_asked" (spAk (q0 0) K r))(et:j7 "_law_changed" (aOo K)):j4 ["_law_box_here","_law_shape","_law_main","_law_shapes_here"] (spRg (q0 0) K r):=by
 w_cond xF;obtain⟨p,s,a,sl,i,sa,S,rfl,hs,e,hi,h9,hz,hw,hW,hlk,hlx,q⟩:=h;refine⟨_,(jD (jT 4 xF.nd (jF bb hr (jA (pv 0) (jA (pv 2) (jA (pv 3) jB))))) (jD (jT 5 xF.nd (jK (vV (K:=K) rfl hr.gd hr.units) rfl M.repr (show lm "repr" = some (.builtin "repr") from by ac_rfl) (jA (pv 4) jB))) (jD (jT 6 xF.nd (jF bp hr (jA (pv 2) (jA (pv 3) (jA jO (jA (pv 4) jB)))))) (jD (jT 7 xF.nd (aI dq hr rfl tD (jA (pv 1) (jA (pv 4) jB)))) (jD (kK (PW.pt (xL (qT (kZ (jK qP rfl M.isinstance jd (jA (pv 7) (jA (vI (v:=.ty "list") rfl M.list xx rfl) jB))))) (xL (jS (aDn hr.units) (pv 7) (pv 6)) (xL (jS dP (jK (vV (K:=K) rfl hr.gd hr.units) rfl M.repr (show lm "repr" = some (.builtin "repr") from by ac_rfl) (jA (pv 7) jB)) (jK (vV (K:=K) rfl hr.gd hr.units) rfl M.repr (show lm "repr" = some (.builtin "repr") from by ac_rfl) (jA (pv 6) jB))) (xX (jS dP (jK (vV (K:=K) rfl hr.gd hr.units) rfl M.repr (show lm "repr" = some (.builtin "repr") from by ac_rfl) (jA (pv 4) jB)) (pv 5))))))) (jE (jJ yJ)) jP) (jD (kK (PW.pt (xL (jS (wS (K:=K) rfl hr.units) (aI bu hr rfl tD (jA (pv 1) (jA (pv 7) jB))) (pv 4)) (xX (jS dP (jK (vV (K:=K) rfl hr.gd hr.units) rfl M.repr (show lm "repr" = some (.builtin "repr") from by ac_rfl) (jA (pv 7) jB)) (jK (vV (K:=K) rfl hr.gd hr.units) rfl M.repr (show lm "repr" = some (.builtin "repr") from by ac_rfl) (jA (pv 6) jB)))))) (jE (jJ yJ)) jP) (jD (xG jx rfl (vD rfl M.range (jA jC jB)) (kS 8 xF.nd) (jE (kK (qT (kZ (jF ck hr (jA (pv 1) (jA (pv 2) (jA (pv 3) (jA (jF et hr (jA (pv 0) (jA (pv 6) jB))) jB))))))) (jE (jJ yJ)) jP))) (jD (jT 9 xF.nd (aI bu hr rfl tD (jA (pv 1) (jA (pv 6) jB)))) (jD (kK (kZ (jK qP rfl M.isinstance jd (jA (pv 9) (jA (vI (v:=.ty "dict") rfl M.dict boot_dict rfl) jB)))) (jE (vO (aDd PySem.F.plainAttrs_dict PySem.F.slot_dict_clear PySem.F.type_dict_clear aHc (pv 9)))) jP) (jD (vO (aDd jq PySem.F.slot_list_clear PySem.F.type_list_clear aLd (pv 7))) (jE (jJ (vN (qK (aJx hr.units) (aI dq hr rfl tD (jA (pv 1) (jA (pv 4) jB))) (pv 6) (vG _)) (xI (qK (aBx (K:=K) rfl hr.units) (aI bu hr rfl tD (jA (pv 1) (jA (pv 6) jB))) (pv 4) (vG _)))))))))))))))),?_⟩;have hil:i<S.length:=by rw[←hw.1];exact(η.mp e).1
 have hrk:(Kd.nest i).Rk r:=hi;have pm:p∈[p]:=Ψ.mpr rfl;refine⟨_,rfl,_,rfl,_,rfl,p,a,sl,.nest i,S,r,[p],rfl,rfl,hs,pm,(fun b hb=>by rw[Ψ.mp hb];exact pN hs),hrk,hil,hlk,hlx,hW,fun x d H1 d1 hdt hcn hfr=>?_⟩;have s1:jI (offs [p] H) (offs [p] H1):=d1.offs pm;have sn:=aLh hW.good hW.nms (k:=.nest i) hil hrk hcn;have hdp:d.depth<=60:=by have:=sn.dp;omega
 have hdl:d.shown.length<=ρ:=sn.len (by
  have e1:(Kd.nest i).size (tabs S).sz<=64:=hz;exact Θ (Nat.mul_le_mul (Nat.mul_le_mul_left 120 e1) (show r+1<=10 by omega)) (by decide))
 have hb:=aDt hW.good hW.nms (k:=.nest i) hil hrk hcn Str.empty rfl;have hne:=aRs hW.good (k:=.nest i) (p:=Str.empty) hil hcn;have hdue:=aJi hW.good hil hcn;refine⟨_,rfl,x,d,rfl,.inl (hdt.same jM),sn.sh,hdp,hdl,?_⟩;refine⟨_,rfl,_,rfl,_,rfl,a,sl,Str.empty,x,.nest i,S,d,r,rfl,rfl,(by show 0+8*(r+1)<=200;omega),rfl,hrk,hil,(hlk.same s1).same jM,(hlx.same s1).same jM,hW,(hdt.same jM).any,hcn,fun l1 H2 g2 f1 u1=>?_⟩;generalize erw:flv S r (.nest i) Str.empty d=rows at hb hne hdue u1;have few:rows.length<=64:=Θ hb.1 hz;have hnc:∀d∈rows.map xJ,Nc d:=fun z hz'=>by
  obtain⟨q',hq',rfl⟩:=jf.mp hz';exact aEm (hb.2 q' hq') (by show 0+8*r<=192;omega)
 have hsh:=nc_sh hnc;have st2:St3 H2 p:=jI.st3 g2 d1.1;have n1:l1≠p:=fun z=>by
  obtain⟨o,ho⟩:=pN d1.1;rw[z,ho]at f1;cases f1
 have s2:=s1.trans (kH (xs:=[p]) g2);have hw2:=hw.same s2;have hlk2:=hlk.same s2;have hlx2:=hlx.same s2;have hdt2:=hdt.same (kH (xs:=[p]) g2);have u1o:=u1.off st2 n1;refine⟨_,rfl,_,rfl,s,x,i,sa,S,rfl,e,hi,(by omega),hw2.same jM,hW,.inl ⟨d,(hdt2.same jM).any,hcn,fun l2 H3 g3 f2 u2=>?_⟩⟩;rw[erw]at u2;have tA:=nJ (u1.same g3) hnc (by omega);have tB:=nJ u2 hnc (by omega);refine⟨_,rfl,.ref l2,_,"list",rfl,by decide,.inl (.inl ⟨rfl,_,SqL.of u2.choose_spec.1⟩),_,rfl,jU ⟨_,rfl,_,rfl,_,_,uO u2,uO (u1.same g3),hsh,hsh,?_⟩⟩;rw[aBq hsh];refine⟨_,rfl,jU ⟨_,rfl,_,_,rfl,tB.rp,tB.sn,tB.dp,tB.ln,_,rfl,_,_,rfl,tA.rp,tA.sn,tA.dp,tA.ln,rfl,_,rfl,qZ (by simp) ⟨_,rfl,x,d,rfl,.inl ((hdt2.same jM).same g3),sn.sh,hdp,hdl,_,rfl,rfl,_,rfl,qZ (by simp) ?_⟩⟩⟩;refine⟨_,rfl,_,rfl,s,.ref l2,i,sa,S,_,rfl,e,hi,(by omega),(hw2.same jM).same g3,hW,tB.th,(fun ds z=>(tB.sz ds z).1),(fun e2 z v2 H4 g4 hd4 hf4=>?_),(fun z=>by rw[hdue]at z;cases z)⟩;rw[hdue]at z;cases z;have g34:=g3.trans g4;have tA4:=tA.same g4;have tB4:=tB.same g4;refine⟨_,rfl,aIa hcn hd4 ((hdt2.same jM).same g34).any hdp ⟨_,rfl,jU ⟨_,rfl,_,_,rfl,tB4.rp,tB4.sn,tB4.dp,tB4.ln,_,rfl,_,_,rfl,tA4.rp,tA4.sn,tA4.dp,tA4.ln,rfl,_,rfl,qZ (by simp) ?_⟩⟩⟩;have st4:St3 H4 p:=jI.st3 g34 st2;have s4:=kH (xs:=[p]) g34;refine⟨12,rfl,by omega,by omega,yR (n:=12) (fun j σ H'=>∃(o8:Option V),σ = [some (.ref p),some (.ref s),some (.ref a),some (.ref sl),some x,some (.str d.shown),some (.ref l1),some (.ref l2),o8,none]/\Drawn p H4 H') ⟨_,rfl,Drawn.refl st4⟩ (fun j σ H' hj z=>?_) (fun σ H5 z=>?_)⟩
 ·obtain⟨o8,rfl,D⟩:=z;have sD:=s4.trans (D.offs pm);refine⟨_,rfl,_,rfl,_,rfl,_,rfl,_,rfl,p,l1,rows,rfl,D.1,u1o.same sD,hne,(by omega),(fun q' hq'=>?_),fun l xs ds H5 d5 hl hda hn5 few5=>?_⟩
  ·obtain⟨z1,z2⟩:=hb.2 q' hq';exact⟨Θ z1 (by show 0+8*r<=0+8*24;omega),z2⟩
  have sE:=sD.trans (d5.offs pm);exact⟨s,a,sl,.ref l,i,sa,S,.list ds,rfl,e,hi,(by omega),(hw2.same sE).same jM,hW,(hlk2.same sE).same jM,(hlx2.same sE).same jM,tS hl hda hn5 few5,(fun e2 z=>Θ (aFs hW.good hW.nms hil hi z) (by omega)),fun H6 g6=>⟨_,rfl,jU ⟨_,rfl,(D.trans d5).keep g6⟩⟩⟩
 ·obtain⟨o8,rfl,D⟩:=z;have sD:=s4.trans (D.offs pm);have tA5:=nJ ((u1o.same sD).same jM) hnc (by omega);refine⟨_,rfl,_,rfl,s,.ref l1,i,sa,S,_,rfl,e,hi,(by omega),(hw2.same sD).same jM,hW,tA5.th,(fun ds z=>(tA5.sz ds z).1),(fun e2 z v6 H6 g6 hd6 hf6=>?_),(fun z=>by rw[hdue]at z;cases z)⟩;rw[hdue]at z;cases z;obtain⟨a6,kvs,rfl,k6⟩:=aRx hcn hd6;have n6:H5 a6=none:=hf6 _ rfl;refine⟨_,rfl,.ref a6,_,"dict",rfl,by decide,.inr ⟨rfl,a6,_,rfl,k6⟩,_,rfl,kR ⟨_,rfl,.inr (.inr (.inl ⟨rfl,.inl ⟨_,k6⟩⟩)),a6,_,rfl,rfl,k6,?_⟩⟩;clear 0 a6 H7 g7 k7;have g57:jI H5 H7:=fun b o eb=>g7 b o (fun z=>by rw[z,n6]at eb;cases eb) (g6 _ _ eb);have np2:l2≠p:=fun z=>by
   obtain⟨o,ho⟩:=pN st2;rw[z,ho]at f2;cases f2
  have kl2:=g57 _ _ (D.2 _ _ np2 (g4 _ _ u2.choose_spec.1));refine⟨_,rfl,.inl ⟨rfl,_,SqL.of kl2⟩,l2,_,rfl,rfl,kl2,?_⟩;clear 0 l2 H8 g8 k8;have D8:Drawn p H2 H8:=by
   obtain⟨x1,x2,x3,hp5⟩:=D.1;exact⟨⟨x1,x2,x3,g8 _ _ (fun z=>np2 z.symm) (g57 _ _ hp5)⟩,fun b o nb eb=>g8 b o (fun z=>by rw[z,f2]at eb;cases eb) (g57 _ _ (D.2 _ _ nb (g34 _ _ eb)))⟩
  have s8:=D8.offs pm;have hd8:=((hdt2.same s8).same jM).any;refine⟨_,rfl,_,rfl,s,x,i,sa,S,rfl,e,hi,(by omega),(hw2.same s8).same jM,hW,.inl ⟨d,hd8,hcn,fun l9 H9 g9 f9 u9=>?_⟩⟩;rw[erw]at u9;have u19:=((u1o.same s8).same jM).same g9;refine⟨_,rfl,_,_,uO u9,uO u19,hsh,hsh,?_⟩;rw[aBq hsh];have tA9:=nJ u19 hnc (by omega);refine⟨_,rfl,qU rfl ⟨_,rfl,_,rfl,s,.ref l1,i,sa,S,_,rfl,e,hi,(by omega),((hw2.same s8).same jM).same g9,hW,tA9.th,(fun ds z=>(tA9.sz ds z).1),(fun e2 z v10 H10 g10 hd10 hf10=>?_),(fun z=>by rw[hdue]at z;cases z)⟩⟩;rw[hdue]at z;cases z;exact⟨_,rfl,d,hd10,(hd8.same g9).same g10,hdp,q H10 (((d1.keep g2).trans D8).keep (g9.trans g10))⟩
theorem oA{k:Nat}(F:Fun K "main" "Shapes.main" aU f fd):j4 ["self"] (spMn Vf K):=by
 w_cond oN;obtain⟨o,dx,t,sa,i,s,rfl,h1,h2,h3,h4,q⟩:=h;refine⟨_,(jE (jJ (jH jV (qD (pv 0) rfl) (iI cH jC)))),?_⟩;exact⟨_,rfl,o,Vf,_,_,_,rfl,h1,Uf.cl,Uf.nd,rfl,_,rfl,t,_,_,_,rfl,rfl,h2,aMb h3 h4,q⟩
theorem aQr{k r:Nat}(hR : 12<=r/\8*r<=200)(F:Fun K "law" "law" aIy f fd)(gr:j7 "_law_cell" (aLr K))(ia:j7 "_law_box" aPi)(fk:j7 "_law_shapes" (spSh K r))(gu:j7 "_law_text" (spTx K))(fb:j7 "read_shapes" (spRd (q0 0) Vf K r))(bv:j9 Vf "main" (spMn Vf K))(gc:j7 "_law_right" (spRg (q0 0) K 9))(fc:j7 "_law_no_flat" (aOt (q0 0) K 9))(ck:j7 "_law_asked" (spAk (q0 0) K 9)):j4 ["_law_script"] (aFo K):=by
 w_cond fQ;obtain⟨a,ns,rfl,hS,hlen,q⟩:=h;refine⟨_,(PSx.h (qF (aBp jx rfl (PIx.mk (vD rfl M.range (jA (jK (tI rfl) rfl M.max boot_max (jA jC (jA (jK (sW rfl) rfl M.min boot_min (jA (jK kF rfl M.len ja (jA (pv 0) jB)) (jA jC jB))) jB))) jB))) (kS 1 fQ.nd) (qF (xU (jT 2 fQ.nd (jF ia hr (jA (jF gr hr (jA (pv 0) (jA (pv 1) jB))) jB)))) (qF (xU (jT 3 fQ.nd (jF fk hr (jA (pv 2) (jA jC jB))))) (qF (xU (jT 4 fQ.nd (jF fb hr (jA (jF gu hr (jA (pv 3) jB)) jB)))) (qF (xU (jT 5 fQ.nd (kT (jA jO (jA (jY zZ (jK kF rfl M.len ja (jA (pv 3) jB)) jC) jB))))) (qF (cB (qT (kZ (jF gc hr (jA (pv 2) (jA (yA (pv 4) Uf.cl bv hr qR) (jA (pv 5) (jA (pv 3) jB))))))) (qW (xQ (kI yJ))) jP) (qW (aBp jx rfl (aIb (eY (jR (kI vE) (jR (kI yJ) (jR (kI jC) (jR (kI jO) (jR (eY vS) (jR (kI oB) (jR (cX vS) (jR (aHi jO jC jO jC) (jR (eY (jR (cX (jR (kI jO) (jR (kI jC) vS kM) kM)) vS eL)) vS nQ) aGb) eL) aGb) nQ) kM) kM) kM) kM))) (kS 6 fQ.nd) (qW (cB (PW.pt (xL (qT (kZ (jF fc hr (jA (yA (pv 4) Uf.cl bv hr qR) (jA (pv 6) jB))))) (xX (qT (kZ (jF ck hr (jA (yA (pv 4) Uf.cl bv hr qR) (jA (pv 5) (jA (pv 3) (jA (pv 6) jB)))))))))) (qW (xQ (kI yJ))) jP)))))))))) (qW (xQ (kI yJ))))),?_⟩;have hl:(ns.map V.int).length=ns.length:=δ _;refine⟨_,rfl,a,_,rfl,.inl hS,_,_,rfl,_,_,rfl,_,rfl,?_,?_,?_⟩
 ·rw[hl];split <;> split <;> omega
 ·rw[hl];split <;> split <;> omega
 refine yR (fun i σ H'=>∃o1 o2 o3 o4 o5 o6,σ = [some (.ref a),o1,o2,o3,o4,o5,o6]/\jI H H') ⟨_,_,_,_,_,_,rfl,jI.refl _⟩ (fun i σ H' hi z=>?_) (fun σ H' z=>q H');obtain⟨o1,o2,o3,o4,o5,o6,rfl,g⟩:=z;have hi12:i<12:=by
  refine ς hi ?_;rw[hl];split <;> split <;> omega
 refine⟨_,rfl,_,rfl,a,ns,_,rfl,g.seq hS,by omega,by omega,fun v=>⟨v,rfl,fun p H1 hp d1=>?_⟩⟩;refine⟨_,rfl,p,rfl,d1.1,hR.1,hR.2,fun l S H2 d2 hl2 lx hW hne hcl=>?_⟩;refine⟨_,rfl,l,S,rfl,lx.same jM,hW,hne,fun H3 g3=>⟨S,rfl,hW,hne,hR.1,hR.2,fun ra dx t sa H4 g4 kr kt sw=>?_⟩⟩;have D4:Drawn p H' H4:=(d1.trans d2).keep (g3.trans g4);obtain⟨y1,y2,y3,hp4⟩:=D4.1;have pm:p∈[p]:=Ψ.mpr rfl;have off:∀{b:Addr}{o:HO},b≠p->H4 b=some o->offs [p] H4 b=some o:=fun n e=>kP (fun z=>n (Ψ.mp z)) e;have swO:SW (q0 0) K (offs [p] H4) sa S:=sw.but (l:=p) (fun b o n e=>off n e) hp4;have krO:=off (fun z=>by rw[z,hp4]at kr;cases kr) kr;have ktO:=aEh D4.1 kt;have lxO:=lx.same (kH (xs:=[p]) (g3.trans g4));obtain⟨as,ha4,hLW4⟩:=id lxO;obtain⟨n,hn⟩ : ∃n,S.length=n+1:=⟨S.length-1,by have:=uf.mpr hne;omega⟩;have hn3:n<=3:=by have:=hW.len;omega
 have zl:(as.map V.ref).length=n+1:=by rw[δ,hLW4.len,hn]
 have hsl:sa.length=n+1:=by rw[sw.1,hn]
 obtain⟨s,hsa⟩ : ∃s,sa[n]?=some s:=⟨_,θ (by omega)⟩;refine⟨_,rfl,l,_,rfl,.inl (jM.seq ha4),_,_,rfl,rfl,xD,fun tm htm=>?_⟩;clear 1 tm H5 g5 k5 htm;rw[zl]at k5
 (try dsimp only at k5)
 rw[show((n+1:Nat):Int)-1=n by omega]at k5;have st5:=jI.st3 g5 D4.1;have o5':=kH (xs:=[p]) g5;have lkO:LK K (offs [p] H5) tm (.nest n):=.nest (aEh st5 (SqT.of k5));have hil:n<S.length:=by omega
 have hSn:S[n]?=some S[n]:=θ hil;refine⟨_,rfl,_,rfl,ra,dx,_,rfl,g5 _ _ kr,rfl,ra,dx,t,sa,n,s,rfl,g5 _ _ kr,g5.tp kt,hsl,hsa,_,rfl,_,rfl,p,s,tm,l,n,sa,S,rfl,st5,hsa,by omega,by decide,(hW.bd n _ hSn).1,swO.same o5',hW,lkO,lxO.same o5',fun H6 d6=>⟨_,rfl,jU ?_⟩⟩;have D6:Drawn p H' H6:=(D4.keep g5).trans d6;have s6:jI (offs [p] H5) H6:=(d6.offs pm).trans jM;have kr6:=s6 _ _ (o5' _ _ krO);have kt6:=s6.tp (o5'.tp ktO);have sw6:=(swO.same o5').same s6;have lk6:=lkO.same s6;have lx6:=(lxO.same o5').same s6;refine⟨bH,fun b1 h1=>?_⟩;clear 1 b1 H7 g7 k7 h1;refine fun b2 h2=>?_;clear 1 b2 H8 g8 k8 h2;refine⟨bH,fun b3 h3=>?_⟩;clear 1 b3 H9 g9 k9 h3;refine fun b4 h4=>⟨jQ,[(.inr (ε "a"),.int 1),(.inr (ε "more"),.int 2)],rfl,by decide,?_⟩;rw[aMh];clear 1 b4 H10 g10 k10 h4;refine⟨xD,fun b5 h5=>?_⟩;clear 1 b5 H11 g11 k11 h5;refine⟨aV,fun b6 h6=>?_⟩;clear 1 b6 H12 g12 k12 h6;refine⟨(by show 9<=ρ;decide),fun tl htl=>?_⟩;clear 1 tl H13 g13 k13 htl;have g6:jI H6 H13:=g7.trans (g8.trans (g9.trans (g10.trans (g11.trans (g12.trans g13)))));have c12:=g12.trans g13;have c11:=g11.trans c12;have c10:=g10.trans c11;have c9:=g9.trans c10;have c8:=g8.trans c9;have pn:(Kd.nest n).parts S=S[n].2:=qS hSn;have all:∀x∈[V.non,.bl true,.int 0,.str (ε "record"),.ref b1,.ref b2,.ref b3,.ref b4,.ref b6],∃d,Tn S n K H13 x d:=by
  intro x hx;simp only[Φ,jp,or_false]at hx;rcases hx with rfl|rfl|rfl|rfl|rfl|rfl|rfl|rfl|rfl
  ·exact⟨_,aRj⟩
  ·exact⟨_,tn_bl true⟩
  ·exact⟨_,aRp⟩
  ·exact⟨_,aRb⟩
  ·exact⟨_,aIt (c8 _ _ k7) .nil (fun d hd=>by cases hd) (by decide) .nil⟩
  ·exact⟨_,tn_d0 (by rw[pn];exact hW.good.ne n _ hSn) (c9 _ _ k8)⟩
  ·exact⟨_,aMl (c10 _ _ k9)⟩
  ·exact⟨_,tn_d2 (fun f hf=>(hcl _ (μ hSn)).2 f (by rw[←pn];exact hf)) (c11 _ _ k10)⟩
  ·refine⟨_,aIt (ds:=[xJ (ε "a",0)]) (g13 _ _ k12) (.cons (.tup (SqT.of (c12 _ _ k11)) (.cons (.str _) (.cons (.int _) .nil))) .nil) (fun d hd=>?_) (by decide) (.cons (.tup (SqT.of (c12 _ _ k11)) (.cons (.str _) (.cons (.int _) .nil))) .nil)⟩;rw[Ψ.mp hd];exact aEm (p:=0) (n:=24) ⟨by ac_rfl,by unfold Sml;ac_rfl,by decide,by decide⟩ (by decide)
 refine⟨tl,rfl,⟨_,SqL.of k13⟩,xM (fun _ σ H2=>∃o,σ = [some (.ref a),some (.int (0+(i:Int))),some (.ref p),some (.ref l),some (.ref ra),some (.ref tm),o]/\jI H13 H2) ⟨_,rfl,jI.refl _⟩ (fun j σ H2 _ z=>SqL.of (z.choose_spec.2 _ _ k13)) (fun j x σ H2 hx z=>?_) (fun σ H2 z=>?_)⟩
 ·obtain⟨o,rfl,s2⟩:=z;obtain⟨d,T⟩:=all x (μ hx);have gA:=g6.trans s2;refine⟨_,rfl,ra,dx,_,rfl,gA _ _ kr6,rfl,ra,dx,t,sa,n,s,rfl,gA _ _ kr6,gA.tp kt6,hsl,hsa,_,rfl,s,x,n,sa,S,d,rfl,hsa,by omega,by decide,sw6.same gA,hW,(T.same s2).bad,(T.same s2).dt,(T.same s2).tg.rp,T.tg.sn,T.tg.dp,T.tg.ln,fun H3 s3=>⟨_,rfl,jU ?_⟩⟩;have gB:=gA.trans s3;exact⟨_,rfl,ra,dx,_,rfl,gB _ _ kr6,rfl,ra,dx,t,sa,n,s,rfl,gB _ _ kr6,gB.tp kt6,hsl,hsa,_,rfl,_,rfl,_,rfl,s,tm,l,x,n,sa,S,d,rfl,hsa,by omega,by decide,sw6.same gB,hW,lk6.same gB,lx6.same gB,T.tg.same (s2.trans s3),fun e he=>Θ (aFs hW.good hW.nms hil (by omega) he) (by decide),fun H4 s4=>⟨_,rfl,jU ⟨_,rfl,s2.trans (s3.trans s4)⟩⟩⟩
 ·obtain⟨o,rfl,s2⟩:=z;exact⟨_,_,_,_,_,_,rfl,g.trans ((D6.same hp).trans (g6.trans s2))⟩
end
end K18
namespace K18
open PySem L2 PyProof.Rows
local macro_rules | `(tactic| walk_at"b1") => `(tactic| exact fun _ _ _ _ _ _ us hl => by obtain ⟨a0, rfl⟩ := ls1 hl;rfl)
local macro_rules | `(tactic| walk_at"b2") => `(tactic| exact fun _ _ _ _ _ _ us hl => by obtain ⟨a0, a1, rfl⟩ := ls2 hl;rfl)
local macro_rules | `(tactic| walk_at"b3") => `(tactic| exact fun _ _ _ _ _ _ us hl => by obtain ⟨a0, a1, a2, rfl⟩ := ls3 hl;rfl)
local macro_rules | `(tactic| walk_at"b4") => `(tactic| exact fun _ _ _ _ _ _ us hl => by obtain ⟨a0, a1, a2, a3, rfl⟩ := ls4 hl;rfl)
theorem ls1{us:List Value}(h:us.length=1):∃a0,us=[a0]:=by
 cases us with
 |nil=>cases h
 |cons a0 us =>
  cases us with
  |nil=>exact⟨a0,rfl⟩
  |cons _ us=>simp only[ii]at h;omega
theorem ls2{us:List Value}(h:us.length=2):∃a0 a1,us=[a0,a1]:=by
 cases us with
 |nil=>cases h
 |cons a0 us =>
  cases us with
  |nil=>cases h
  |cons a1 us =>
   cases us with
   |nil=>exact⟨a0,a1,rfl⟩
   |cons _ us=>simp only[ii]at h;omega
theorem ls3{us:List Value}(h:us.length=3):∃a0 a1 a2,us=[a0,a1,a2]:=by
 cases us with
 |nil=>cases h
 |cons a0 us =>
  cases us with
  |nil=>cases h
  |cons a1 us =>
   cases us with
   |nil=>cases h
   |cons a2 us =>
    cases us with
    |nil=>exact⟨a0,a1,a2,rfl⟩
    |cons _ us=>simp only[ii]at h;omega
theorem ls4{us:List Value}(h:us.length=4):∃a0 a1 a2 a3,us=[a0,a1,a2,a3]:=by
 cases us with
 |nil=>cases h
 |cons a0 us =>
  cases us with
  |nil=>cases h
  |cons a1 us =>
   cases us with
   |nil=>cases h
   |cons a2 us =>
    cases us with
    |nil=>cases h
    |cons a3 us =>
     cases us with
     |nil=>exact⟨a0,a1,a2,a3,rfl⟩
     |cons _ us=>simp only[ii]at h;omega
theorem mO{K:υ}{k:Nat}(h:kJ P w K mg base CX j f fd ps sp)(hk:j<=k:=by decide):kJ P w K mg base CX k f fd ps sp:=kJ.mono h hk
structure FG (K:υ) (n:Str) (s:Stmt) (f:Addr):Prop where
 a:nsIn K ip n=some (some (.ref f))
 l:∃fd,Fun K n n s f fd
structure FM (K:υ) (C:Addr) (n q:Str) (s:Stmt) (f:Addr):Prop where
 a:nu K (.ref C) n=some (some (.ref f))
 i:isFn K (.ref f)=true
 l:∃fd,Fun K n q s f fd
structure CK (K:υ) (n:Str) (C:Addr) (as:List Str):Prop where
 g:nsIn K ip n=some (some (.ref C))
 c:Cls K C
 m:PySem.W.makesIn K C=true
 k:keepIn K (.ref C)=true
 n:∀a∈as,zD K C a
section
variable {K:υ}{h:kq}{mg:Str->Option Value}{n q:Str}{s:Stmt}{f C:Addr}{as:List Str}
theorem FG.o(X:K.In h)(G:h.Ns ip mg)(A:FG K n s f)(ps:List Str)(b:∀(kV doc pm:Value) (an:Option Addr) (cdv ct:Value) (us:List Value),us.length=ps.length->bindArgs (fnOf n n (cC s) (yZ s) (jG s) .none kV doc pm an cdv ct) ⟨us,[]⟩=pure (ps.zip us)):∃fd,Fun K n n s f fd/\Df K mg n f fd ps:=A.l.elim fun fd F=>⟨fd,F,mg_of X G A.a,F.kp,F.binds b⟩
theorem FM.o(A:FM K C n q s f)(ps:List Str)(b:∀(kV doc pm:Value) (an:Option Addr) (cdv ct:Value) (us:List Value),us.length=ps.length->bindArgs (fnOf n q (cC s) (yZ s) (jG s) .none kV doc pm an cdv ct) ⟨us,[]⟩=pure (ps.zip us)):∃fd,Fun K n q s f fd/\DfM K C n f fd ps:=A.l.elim fun fd F=>⟨fd,F,⟨A.a,A.i,F.kp⟩,F.binds b⟩
theorem FM.j(A:FM K C n q s f)(ps:List Str)(b:∀(kV doc pm:Value) (an:Option Addr) (cdv ct:Value) (us:List Value),us.length=ps.length->bindArgs (fnOf n q (cC s) (yZ s) (jG s) .none kV doc pm an cdv ct) ⟨us,[]⟩=pure (ps.zip us)):∃fd,Fun K n q s f fd/\DfI K fd ps:=A.l.elim fun fd F=>⟨fd,F,⟨F.binds b⟩⟩
theorem CK.o(X:K.In h)(G:h.Ns ip mg)(A:CK K n C as)(I:FM K C "__init__" q s f):sF K mg n C f as:=⟨mg_of X G A.g,A.c,⟨A.m,I.a,I.i,A.k⟩,A.n⟩
theorem na0:∀a∈([]:List Str),zD K C a:=fun _ h=>nomatch h
theorem na1(h:nu K (.ref C) n=some none)(r:∀a∈as,zD K C a):∀a∈n::as,zD K C a:=fun a m=>(Φ.mp m).elim (fun e=>e▸h) (r a)
end
theorem all_mk{l:PySem.W.OpenLaw}{K:υ}{mg:Str->Option Value}(X:K.In h)(G:h.Ns ip mg)(hfa:mg "law" = some (.ref fa)){odt:Option Addr}{slt:Array (Option Value)}
 (cNum:CK K "Num" Va ["width"])
 (cNested:CK K "Nested" Vb ["shape"])
 (cMany:CK K "Many" Vc ["count","kind"])
 (cPick:CK K "Pick" Vd ["shapes"])
 (cShape:CK K "Shape" Ve ["name","fields"])
 (cShapes:CK K "Shapes" Vf ["shapes"])
  (g_RoomError:nsIn K ip "RoomError" = some (some (.ref cRE)))
  (g_NoRecord:nsIn K ip "NoRecord" = some (some (.ref aa)))
 (a0:FM K cRE "__init__" "RoomError.__init__" yP f0)
 (a1:FM K aa "__init__" "NoRecord.__init__" zM f1)
 (a2:FG K "is_whole" fS f2)
 (a3:FG K "is_between" bX f3)
 (a4:FG K "is_name" lV f4)
 (a5:FG K "is_text_of" bZ f5)
 (a6:FG K "number_in" eC f6)
 (a7:FG K "bound_of" gK f7)
 (a8:FG K "is_word" iU f8)
 (a9:FG K "joined" oK f9)
 (a10:FM K Vb "units_at" "Kind.units_at" zO f10)
 (a11:FM K Va "__init__" "Num.__init__" fM f11)
 (a12:FM K Va "size" "Num.size" gL f12)
 (a13:FM K Va "depth" "Num.depth" dY f13)
 (a14:FM K Va "units_at" "Num.units_at" aD f14)
 (a15:FM K Vb "__init__" "Nested.__init__" bD f15)
 (a16:FM K Vb "size" "Nested.size" bF f16)
 (a17:FM K Vb "depth" "Nested.depth" aF f17)
 (a18:FM K Vb "parted" "Nested.parted" zG f18)
 (a19:FM K Vc "__init__" "Many.__init__" eF f19)
 (a20:FM K Vc "size" "Many.size" dX f20)
 (a21:FM K Vc "depth" "Many.depth" cT f21)
 (a22:FM K Vc "parted" "Many.parted" bA f22)
 (a23:FM K Vd "__init__" "Pick.__init__" dJ f23)
 (a24:FM K Vd "size" "Pick.size" eE f24)
 (a25:FM K Vd "greatest" "Pick.greatest" zJ f25)
 (a26:FM K Vd "depth" "Pick.depth" cI f26)
 (a27:FM K Vd "units_at" "Pick.units_at" zI f27)
 (a28:FM K Ve "__init__" "Shape.__init__" cQ f28)
 (a29:FM K Ve "size" "Shape.size" cN f29)
 (a30:FM K Ve "depth" "Shape.depth" bE f30)
 (a31:FM K Ve "units" "Shape.units" aR f31)
 (a32:FM K Vf "__init__" "Shapes.__init__" aS f32)
 (a33:FM K Vf "main" "Shapes.main" aU f33)
 (a34:FG K "is_record" dI f34)
 (a35:FG K "may_have" gJ f35)
 (a36:FG K "has_fields" cU f36)
 (a37:FG K "has_count" dH f37)
 (a38:FG K "is_choice" eN f38)
 (a39:FG K "is_number_of" aH f39)
 (a40:FG K "gathered" fZ f40)
 (a41:FG K "flat" aDv f41)
 (a42:FG K "flat_under" cO f42)
 (a43:FG K "of_flat" lS f43)
 (a44:FG K "is_row" oX f44)
 (a45:FG K "value_from" cV f45)
 (a46:FG K "number_from" aZ f46)
 (a47:FG K "read_shapes" aW f47)
 (a48:FG K "is_shape_line" zE f48)
 (a49:FG K "is_field_line" zF f49)
 (a50:FG K "is_kind" lC f50)
 (a51:FG K "is_single" dU f51)
 (a52:FG K "need_new_shape" yN f52)
 (a53:FG K "need_field" cW f53)
 (a54:FG K "shapes_named" aB f54)
 (a55:FG K "whole_shapes" aJ f55)
 (a56:FG K "with_field" cD f56)
 (a57:FG K "kind_in" iZ f57)
 (a58:FG K "is_too_much" aY f58)
 (a59:FG K "_law_cell" fF f59)
 (a60:FG K "_law_box" lT f60)
 (a61:FG K "_law_take" gV f61)
 (a62:FG K "_law_names" eJ f62)
 (a63:FG K "_law_size" fJ f63)
 (a64:FG K "_law_units" eK f64)
 (a65:FG K "_law_joined" cE f65)
 (a66:FG K "_law_depth" eA f66)
 (a67:FG K "_law_kind" fU f67)
 (a68:FG K "_law_fits" fK f68)
 (a69:FG K "_law_shapes" cR f69)
 (a70:FG K "_law_kind_text" zH f70)
 (a71:FG K "_law_text" fR f71)
 (a72:FG K "_law_whole" dE f72)
 (a73:FG K "_law_word" gN f73)
 (a74:FG K "_law_drawn" dF f74)
 (a75:FG K "_law_flat" fP f75)
 (a76:FG K "_law_next" gO f76)
 (a77:FG K "_law_read" gU f77)
 (a78:FG K "_law_due" lA f78)
 (a79:FG K "_law_very" fV f79)
 (a80:FG K "_law_asked" dN f80)
 (a81:FG K "_law_no_flat" bB f81)
 (a82:FG K "_law_changed" bG f82)
 (a83:FG K "_law_right" dM f83)
 (a84:FG K "law" aIy f84)
  (xo_RoomError:K.lookup cRE=some (nA xn0 xq0 cRE xN0 xb0 VB true xl0 xs0 xa0 xc0 xd0 x00 x10 x20 x30 x50))
  (xk_RoomError:keepIn K (.ref cRE)=true)
  (xr:PySem.W.readsIn K cRE (.type "type")=true)
  (xf:PySem.W.findCls K (.ref cRE) (.type "type") "__init__" = some (.val (.ref f0)))
  (xp:tw K (.ref cRE) "__getattribute__" = some (some (.builtin "type.__getattribute__")))
  (xo_NoRecord:K.lookup aa=some (nA xn1 xq1 aa xN1 xb1 (.ref cRE::VB) true xl1 xs1 xa1 xc1 xd1 x01 x11 x21 x31 x51))
  (xk_NoRecord:keepIn K (.ref aa)=true)
  (xn_NoRecord:PySem.W.nsOkIn K xN1=true)
  (xi_NoRecord:nsIn K xN1 "__init__" = some (some (.ref f1)))
  (xs_NoRecord:nu K (.ref aa) "__setattr__" = some (some (.builtin "object.__setattr__")))
  (xg_NoRecord:nu K (.ref aa) "__getattribute__" = some (some (.builtin "BaseException.__getattribute__")))
  (xh_NoRecord:nu K (.ref aa) "__getattr__" = some none)
  (n_NoRecord_found:nu K (.ref aa) "found" = some none)
  (vi1:nu K (.type "type") "__getattribute__" = some (some (.builtin "type.__getattribute__")))
  (vi2:PySem.W.subIn K (.type "type") (.type "type")=some true)
  (vi3:PySem.W.findCls K (.type "ValueError") (.type "type") "__init__" = some (.val (.builtin "ValueError.__init__")))
  (z0:nsIn K ip "range" = some none)
  (z1:nsIn K ip "len" = some none)
  (z2:nsIn K ip "isinstance" = some none)
  (z3:nsIn K ip "int" = some none)
  (z4:nsIn K ip "bool" = some none)
  (z5:nsIn K ip "list" = some none)
  (z6:nsIn K ip "all" = some none)
  (z7:nsIn K ip "max" = some none)
  (z8:nsIn K ip "min" = some none)
  (z9:nsIn K ip "reversed" = some none)
  (z10:nsIn K ip "tuple" = some none)
  (z11:nsIn K ip "divmod" = some none)
  (z12:nsIn K ip "str" = some none)
  (z13:nsIn K ip "sum" = some none)
  (z14:nsIn K ip "zip" = some none)
  (z15:nsIn K ip "enumerate" = some none)
  (z16:nsIn K ip "dict" = some none)
  (z17:nsIn K ip "ValueError" = some none)
  (z18:nsIn K ip "repr" = some none)
  (v1:nsIn K ip "SMALL_LETTERS" = some (some (.str "abcdefghijklmnopqrstuvwxyz" t1)))(v2:nsIn K ip "FIGURES" = some (some (.str "0123456789" t2)))(v3:nsIn K ip "MOST_LETTERS" = some (some (.int 6 t3)))(v4:nsIn K ip "MOST_FIGURES" = some (some (.int 10 t4)))(v5:nsIn K ip "MOST_SHAPES" = some (some (.int 8 t5)))(v6:nsIn K ip "MOST_FIELDS" = some (some (.int 6 t6)))(v7:nsIn K ip "MOST_CELLS" = some (some (.int 64 t7)))(v8:nsIn K ip "MOST_UNITS" = some (some (.int 40 t8)))(v9:nsIn K ip "MOST_DEPTH" = some (some (.int 4 t9)))(v10:nsIn K ip "MOST_WIDTH" = some (some (.int 4 t10)))(v11:nsIn K ip "MOST_COUNT" = some (some (.int 6 t11)))(v12:nsIn K ip "LEAST_PICKED" = some (some (.int 2 t12)))(v13:nsIn K ip "MOST_PICKED" = some (some (.int 4 t13)))
  (w1:nsIn K ip "OWN_WORDS" = some (some (.ref ts)))(w2:K.lookup ts=some ⟨.type "tuple",odt,.seq #[.str "shape" u0,.str "num" u1,.str "row" u2,.str "pick" u3,.str "tag" u4,.str "room" u5,.str "things" u6,.str "part" u7,.str "tags" u8,.str "put" u9,.str "take" u10,.str "many" u11,.str "look" u12,.str "which" u13,.str "store" u14,.str "choose" u15,.str "copy" u16,.str "each" u17,.str "span" u18,.str "if" u19,.str "else" u20,.str "end" u21,.str "out" u22] nt,slt⟩)
  (w3:nu K (.ref Vc) "units_at" = some (some (.ref f10)))
  (q1:tw K (.builtin "object.__class__") "__get__" = some (some (.builtin "getset_descriptor.__get__")))(q2:PySem.W.takesIn K (.builtin "object.__class__")=some true)(qm1:nsIn K ip "NoPath" = some (some (.ref cNP)))(qm2:nsIn K ip "Beyond" = some (some (.ref bc)))(qa:nu K (.ref aa) "__class__" = some (some (.builtin "object.__class__")))(qb:ny K aa (.type "object")=some true)(qn1:xj K aa cNP=true)(qn2:xj K aa bc=true)
  (qc0:nu K (.ref Va) "__class__" = some (some (.builtin "object.__class__")))(qd0:ny K Va (.type "object")=some true)(qn00:kh K (.ref Va) (.ref Va)=some true)(qn01:kh K (.ref Va) (.ref Vb)=some false)(qn02:kh K (.ref Va) (.ref Vc)=some false)(qn03:kh K (.ref Va) (.ref Vd)=some false)
  (qc1:nu K (.ref Vb) "__class__" = some (some (.builtin "object.__class__")))(qd1:ny K Vb (.type "object")=some true)(qn10:kh K (.ref Vb) (.ref Va)=some false)(qn11:kh K (.ref Vb) (.ref Vb)=some true)(qn12:kh K (.ref Vb) (.ref Vc)=some false)(qn13:kh K (.ref Vb) (.ref Vd)=some false)
  (qc2:nu K (.ref Vc) "__class__" = some (some (.builtin "object.__class__")))(qd2:ny K Vc (.type "object")=some true)(qn20:kh K (.ref Vc) (.ref Va)=some false)(qn21:kh K (.ref Vc) (.ref Vb)=some false)(qn22:kh K (.ref Vc) (.ref Vc)=some true)(qn23:kh K (.ref Vc) (.ref Vd)=some false)
  (qc3:nu K (.ref Vd) "__class__" = some (some (.builtin "object.__class__")))(qd3:ny K Vd (.type "object")=some true)(qn30:kh K (.ref Vd) (.ref Va)=some false)(qn31:kh K (.ref Vd) (.ref Vb)=some false)(qn32:kh K (.ref Vd) (.ref Vc)=some false)(qn33:kh K (.ref Vd) (.ref Vd)=some true):
  ∃fd:oz,(∀(s:ξ) (v:Value),BindsTo s fd ⟨[v],[]⟩ [("_law_script",v)])/\∀base:kq,K.In base->base.Ns ip mg->kJ l.prog w K mg base CX0 86 fa fd ["_law_script"] (aFo K):=by
 have e:=hfa.symm.trans (mg_of X G a84.a);cases e;obtain⟨d84,F84⟩:=a84.l;obtain⟨d0,F0,D0⟩:=a0.j ["self","words"] (by walk_at"b2");obtain⟨d1,F1,D1⟩:=a1.j ["self","found"] (by walk_at"b2");obtain⟨d2,F2,D2⟩:=a2.o X G ["thing"] (by walk_at"b1");obtain⟨d3,F3,D3⟩:=a3.o X G ["thing","low","high"] (by walk_at"b3");obtain⟨d4,F4,D4⟩:=a4.o X G ["thing"] (by walk_at"b1");obtain⟨d5,F5,D5⟩:=a5.o X G ["thing","signs","most"] (by walk_at"b3");obtain⟨d6,F6,D6⟩:=a6.o X G ["text","low","high"] (by walk_at"b3");obtain⟨d7,F7,D7⟩:=a7.o X G ["width"] (by walk_at"b1");obtain⟨d8,F8,D8⟩:=a8.o X G ["thing","width"] (by walk_at"b2");obtain⟨d9,F9,D9⟩:=a9.o X G ["path","step"] (by walk_at"b2");obtain⟨d10,F10,D10⟩:=a10.o ["self","path"] (by walk_at"b2");obtain⟨d11,F11,D11⟩:=a11.j ["self","width"] (by walk_at"b2");obtain⟨d12,F12,D12⟩:=a12.o ["self"] (by walk_at"b1");obtain⟨d13,F13,D13⟩:=a13.o ["self"] (by walk_at"b1");obtain⟨d14,F14,D14⟩:=a14.o ["self","path"] (by walk_at"b2");obtain⟨d15,F15,D15⟩:=a15.j ["self","shape"] (by walk_at"b2");obtain⟨d16,F16,D16⟩:=a16.o ["self"] (by walk_at"b1");obtain⟨d17,F17,D17⟩:=a17.o ["self"] (by walk_at"b1");obtain⟨d18,F18,D18⟩:=a18.o ["self"] (by walk_at"b1");obtain⟨d19,F19,D19⟩:=a19.j ["self","count","kind"] (by walk_at"b3");obtain⟨d20,F20,D20⟩:=a20.o ["self"] (by walk_at"b1");obtain⟨d21,F21,D21⟩:=a21.o ["self"] (by walk_at"b1");obtain⟨d22,F22,D22⟩:=a22.o ["self"] (by walk_at"b1");obtain⟨d23,F23,D23⟩:=a23.j ["self","shapes"] (by walk_at"b2");obtain⟨d24,F24,D24⟩:=a24.o ["self"] (by walk_at"b1");obtain⟨d25,F25,D25⟩:=a25.o ["self"] (by walk_at"b1");obtain⟨d26,F26,D26⟩:=a26.o ["self"] (by walk_at"b1");obtain⟨d27,F27,D27⟩:=a27.o ["self","path"] (by walk_at"b2");obtain⟨d28,F28,D28⟩:=a28.j ["self","name","fields"] (by walk_at"b3");obtain⟨d29,F29,D29⟩:=a29.o ["self"] (by walk_at"b1");obtain⟨d30,F30,D30⟩:=a30.o ["self"] (by walk_at"b1");obtain⟨d31,F31,D31⟩:=a31.o ["self"] (by walk_at"b1");obtain⟨d32,F32,D32⟩:=a32.j ["self","shapes"] (by walk_at"b2");obtain⟨d33,F33,D33⟩:=a33.o ["self"] (by walk_at"b1");obtain⟨d34,F34,D34⟩:=a34.o X G ["shape","thing"] (by walk_at"b2");obtain⟨d35,F35,D35⟩:=a35.o X G ["kind","thing"] (by walk_at"b2");obtain⟨d36,F36,D36⟩:=a36.o X G ["kind","thing"] (by walk_at"b2");obtain⟨d37,F37,D37⟩:=a37.o X G ["kind","thing"] (by walk_at"b2");obtain⟨d38,F38,D38⟩:=a38.o X G ["kind","thing"] (by walk_at"b2");obtain⟨d39,F39,D39⟩:=a39.o X G ["pick","thing"] (by walk_at"b2");obtain⟨d40,F40,D40⟩:=a40.o X G ["kind","values"] (by walk_at"b2");obtain⟨d41,F41,D41⟩:=a41.o X G ["shape","record"] (by walk_at"b2");obtain⟨d42,F42,D42⟩:=a42.o X G ["kind","path","value"] (by walk_at"b3");obtain⟨d43,F43,D43⟩:=a43.o X G ["shape","rows"] (by walk_at"b2");obtain⟨d44,F44,D44⟩:=a44.o X G ["thing"] (by walk_at"b1");obtain⟨d45,F45,D45⟩:=a45.o X G ["kind","path","rows","at"] (by walk_at"b4");obtain⟨d46,F46,D46⟩:=a46.o X G ["path","bound","rows","at"] (by walk_at"b4");obtain⟨d47,F47,D47⟩:=a47.o X G ["text"] (by walk_at"b1");obtain⟨d48,F48,D48⟩:=a48.o X G ["words"] (by walk_at"b1");obtain⟨d49,F49,D49⟩:=a49.o X G ["words"] (by walk_at"b1");obtain⟨d50,F50,D50⟩:=a50.o X G ["words"] (by walk_at"b1");obtain⟨d51,F51,D51⟩:=a51.o X G ["words"] (by walk_at"b1");obtain⟨d52,F52,D52⟩:=a52.o X G ["told","line","name"] (by walk_at"b3");obtain⟨d53,F53,D53⟩:=a53.o X G ["told","line","words"] (by walk_at"b3");obtain⟨d54,F54,D54⟩:=a54.o X G ["words"] (by walk_at"b1");obtain⟨d55,F55,D55⟩:=a55.o X G ["told"] (by walk_at"b1");obtain⟨d56,F56,D56⟩:=a56.o X G ["told","line","words"] (by walk_at"b3");obtain⟨d57,F57,D57⟩:=a57.o X G ["words","shapes"] (by walk_at"b2");obtain⟨d58,F58,D58⟩:=a58.o X G ["shape"] (by walk_at"b1");obtain⟨d59,F59,D59⟩:=a59.o X G ["_law_script","_law_k"] (by walk_at"b2");obtain⟨d60,F60,D60⟩:=a60.o X G ["_law_cell_here"] (by walk_at"b1");obtain⟨d61,F61,D61⟩:=a61.o X G ["_law_box_here","_law_many"] (by walk_at"b2");obtain⟨d62,F62,D62⟩:=a62.o X G ["_law_box_here"] (by walk_at"b1");obtain⟨d63,F63,D63⟩:=a63.o X G ["_law_kind_here","_law_shapes_here"] (by walk_at"b2");obtain⟨d64,F64,D64⟩:=a64.o X G ["_law_kind_here","_law_shapes_here","_law_path"] (by walk_at"b3");obtain⟨d65,F65,D65⟩:=a65.o X G ["_law_path","_law_step"] (by walk_at"b2");obtain⟨d66,F66,D66⟩:=a66.o X G ["_law_kind_here","_law_shapes_here"] (by walk_at"b2");obtain⟨d67,F67,D67⟩:=a67.o X G ["_law_box_here","_law_known"] (by walk_at"b2");obtain⟨d68,F68,D68⟩:=a68.o X G ["_law_shapes_here"] (by walk_at"b1");obtain⟨d69,F69,D69⟩:=a69.o X G ["_law_box_here","_law_most"] (by walk_at"b2");obtain⟨d70,F70,D70⟩:=a70.o X G ["_law_kind_here","_law_shapes_here"] (by walk_at"b2");obtain⟨d71,F71,D71⟩:=a71.o X G ["_law_shapes_here"] (by walk_at"b1");obtain⟨d72,F72,D72⟩:=a72.o X G ["_law_found"] (by walk_at"b1");obtain⟨d73,F73,D73⟩:=a73.o X G ["_law_box_here","_law_width"] (by walk_at"b2");obtain⟨d74,F74,D74⟩:=a74.o X G ["_law_box_here","_law_kind_here","_law_shapes_here"] (by walk_at"b3");obtain⟨d75,F75,D75⟩:=a75.o X G ["_law_kind_here","_law_shapes_here","_law_path","_law_value"] (by walk_at"b4");obtain⟨d76,F76,D76⟩:=a76.o X G ["_law_left","_law_path","_law_most"] (by walk_at"b3");obtain⟨d77,F77,D77⟩:=a77.o X G ["_law_kind_here","_law_shapes_here","_law_path","_law_left"] (by walk_at"b4");obtain⟨d78,F78,D78⟩:=a78.o X G ["_law_main","_law_shapes_here","_law_rows"] (by walk_at"b3");obtain⟨d79,F79,D79⟩:=a79.o X G ["_law_found","_law_thing"] (by walk_at"b2");obtain⟨d80,F80,D80⟩:=a80.o X G ["_law_shape","_law_main","_law_shapes_here","_law_rows"] (by walk_at"b4");obtain⟨d81,F81,D81⟩:=a81.o X G ["_law_shape","_law_thing"] (by walk_at"b2");obtain⟨d82,F82,D82⟩:=a82.o X G ["_law_box_here","_law_rows"] (by walk_at"b2");obtain⟨d83,F83,D83⟩:=a83.o X G ["_law_box_here","_law_shape","_law_main","_law_shapes_here"] (by walk_at"b4");have Ua:=cNum.o X G a11;have Ub:=cNested.o X G a15;have Uc:=cMany.o X G a19;have Ud:=cPick.o X G a23;have Ue:=cShape.o X G a28;have Uf:=cShapes.o X G a32;have tRE:TXB K mg cRE f0:=⟨mg_of X G g_RoomError,⟨xr,xf,xp,F0.kp⟩,⟨⟨_,_,_,_,_,_,_,_,_,_,_,_,_,_,_,_,xo_RoomError⟩,rfl⟩⟩;have VI:aIx K:=⟨vi1,vi2,vi3⟩;have af:TX K mg "NoRecord" aa cRE f1 ["found"]:=⟨mg_of X G g_NoRecord,⟨⟨_,_,_,_,_,_,_,_,_,_,_,_,_,_,xo_NoRecord,xn_NoRecord,xi_NoRecord⟩,a1.i,xk_NoRecord,xs_NoRecord,xg_NoRecord,xh_NoRecord⟩,⟨⟨_,_,_,_,_,_,_,_,_,_,_,_,_,_,_,_,xo_NoRecord⟩,rfl⟩,fun a ha=>by
   rw[Ψ.mp ha];exact n_NoRecord_found⟩
 have M:Blt mg:=⟨mr X G z0,mr X G z1,mr X G z2,mr X G z3,mr X G z4,mr X G z5,mr X G z6,mr X G z7,mr X G z8,mr X G z9,mr X G z10,mr X G z11,mr X G z12,mr X G z13,mr X G z14,mr X G z15,mr X G z16,mr X G z17,mr X G z18⟩;have C:Cst K mg t1 t2 t3 t4 t5 t6 t7 t8 t9 t10 t11 t12 t13 ts:=⟨mg_of X G v1,mg_of X G v2,mg_of X G v3,mg_of X G v4,mg_of X G v5,mg_of X G v6,mg_of X G v7,mg_of X G v8,mg_of X G v9,mg_of X G v10,mg_of X G v11,mg_of X G v12,mg_of X G v13,mg_of X G w1,fun H=>.inr ⟨_,_,_,w2,rfl,rfl,(by show 23<=ρ;decide),(by repeat first|exact .nil|refine .cons ⟨_,rfl⟩ ?_)⟩⟩;have XN:XN2 K mg aa cNP bc:=⟨mg_of X G qm1,mg_of X G qm2,⟨qa,q1,q2,qb,qn1⟩,⟨qa,q1,q2,qb,qn2⟩⟩;have KS:KdS K (Cl5.mk Va Vb Vc Vd Ve):=⟨fun k=>by
  cases k
  ·exact⟨Ua.cl,qc0,q1,q2,qd0⟩
  ·exact⟨Ub.cl,qc1,q1,q2,qd1⟩
  ·exact⟨Uc.cl,qc2,q1,q2,qd2⟩
  ·exact⟨Ud.cl,qc3,q1,q2,qd3⟩
  ,fun k k2=>by cases k <;> cases k2 <;> assumption⟩
 refine⟨d84,fun s v=>(F84.ex.elim fun _ ⟨_,_,_,_,_,_,_,_,e,_⟩=>e▸.of_eq rfl),fun base _ _=>?_⟩;have Z:=ZZ.mk (P:=l.prog) (w:=w) (base:=base) M C Ua Ub Uc Ud Ue Uf tRE VI af;have G5:=(Cal.of D5 (rH (k:=0) Z F5));have G4:=(Cal.of D4 (aDy (k:=2) Z F4 G5.o));have G6:=(Cal.of D6 (uS (k:=2) Z F6 G5.o));have G9:=(Cal.of D9 (aHm (k:=0) Z F9));have G60:=(Cal.of D60 (aEl (k:=0) Z F60));have G61:=(Cal.of D61 (aBl (k:=0) Z F61));have G59:=(Cal.of D59 (aBh (k:=0) Z F59));have G48:=(Cal.of D48 (lK (k:=4) Z F48 G4.o));have G51:=(Cal.of D51 (wA (k:=4) Z F51 G6.o G4.o));have G50:=(Cal.of D50 (aDq (k:=6) Z F50 G6.o G51.o G4.o));have G49:=(Cal.of D49 (lG (k:=8) Z F49 G4.o G50.o));have G54:=(Cal.of D54 (mW (k:=4) Z F54 G4.o));have G0:=(iK (k:=0) Z F0);have G1:=(yF.of D1 (lJ (k:=2) Z F1 D0 (mO G0)));have G52:=(Cal.of D52 (iR (k:=0) Z F52));have G55:=(Cal.of D55 (mS (k:=0) Z F55));have G53:=(Cal.of D53 (sC (k:=10) Z F53 G49.o G54.o G55.o));have G11:=(yF.of D11 (aCl (k:=0) Z F11));have G15:=(yF.of D15 (oF (k:=0) Z F15));have G19:=(yF.of D19 (uP (k:=0) Z F19));have G23:=(yF.of D23 (wG (k:=0) Z F23));have G32:=(yF.of D32 (pS (k:=0) Z F32));have G28:=(yF.of D28 (sG (k:=0) Z F28));have G65:=(Cal.of D65 (sM (k:=0) Z F65));have G62:=(Cal.of D62 (tY (k:=2) Z F62 G61.o));have G67:=(Cal.of D67 (aAe (k:=2) Z F67 G61.o));have G2:=(Cal.of D2 (aAq (k:=0) Z F2));have G3:=(Cal.of D3 (rN (k:=2) Z F3 G2.o));have G7:=(Cal.of D7 (aCb (k:=0) Z F7));have G8:=(Cal.of D8 (aEd (k:=4) Z F8 G7.o G3.o));have G39:=(Cal.of D39 (mR (k:=4) Z F39 G3.o));have G44:=(Cal.of D44 (aHh (k:=2) Z F44 G2.o));have G46:=(Cal.of D46 (pK (k:=4) Z F46 G1.o));have G72:=(Cal.of D72 (tT (k:=0) Z F72));have G73:=(Cal.of D73 (aBg (k:=2) Z F73 G61.o));have G76:=(Cal.of D76 (aCi (k:=2) Z F76 G72.o));have G79:=(aBk (k:=0) Z F79);have G82:=(Cal.of D82 (oP (k:=2) (r:=0) Z F82 G61.o));have G33:=(zR.of D33 (oA (k:=0) Z F33));have t_size:∀r C sp,TV (Cl5.mk Va Vb Vc Vd Ve) K r vSz C sp->zS l.prog w K mg base CX0 (6*r+4) "size" C sp:=by
  intro r
  induction r with
  |zero =>
   rintro C' sp (⟨rfl,rfl⟩|⟨rfl,rfl⟩|⟨rfl,rfl⟩|⟨rfl,rfl⟩)
   ·exact⟨Ua.cl,_,_,_,D12.me,kJ.mono (mK (k:=0) (r:=0) Z F12) (by omega),D12.b⟩
   ·exact⟨Ub.cl,_,_,_,D16.me,noFn (noV nn1),D16.b⟩
   ·exact⟨Uc.cl,_,_,_,D20.me,noFn (noV nn2),D20.b⟩
   ·exact⟨Ud.cl,_,_,_,D24.me,noFn (noV nn3),D24.b⟩
  |succ r ih =>
   have gS:=(zR.of D29 (fA (k:=6*r+4) (r:=r) Z F29 ih));have gG:=(zR.of D25 (bR (k:=6*r+6) (r:=r) Z F25 gS));rintro C' sp (⟨rfl,rfl⟩|⟨rfl,rfl⟩|⟨rfl,rfl⟩|⟨rfl,rfl⟩)
   ·exact⟨Ua.cl,_,_,_,D12.me,kJ.mono (mK (k:=0) (r:=r+1) Z F12) (by omega),D12.b⟩
   ·exact⟨Ub.cl,_,_,_,D16.me,kJ.mono (rF (k:=6*r+6) (r:=r) Z F16 gS) (by omega),D16.b⟩
   ·exact⟨Uc.cl,_,_,_,D20.me,kJ.mono (uX (k:=6*r+4) (r:=r) Z F20 ih) (by omega),D20.b⟩
   ·exact⟨Ud.cl,_,_,_,D24.me,kJ.mono (wD (k:=6*r+8) (r:=r) Z F24 gG) (by omega),D24.b⟩
 have ib:=fun r=>(zR.of D29 (fA (k:=6*r+4) (r:=r) Z F29 (t_size r)));have ig:=fun r=>(zR.of D25 (bR (k:=6*r+6) (r:=r) Z F25 (ib r)));have t_depth:∀r C sp,TV (Cl5.mk Va Vb Vc Vd Ve) K r vDp C sp->zS l.prog w K mg base CX0 (6*r+4) "depth" C sp:=by
  intro r
  induction r with
  |zero =>
   rintro C' sp (⟨rfl,rfl⟩|⟨rfl,rfl⟩|⟨rfl,rfl⟩|⟨rfl,rfl⟩)
   ·exact⟨Ua.cl,_,_,_,D13.me,kJ.mono (iF (k:=0) (r:=0) Z F13) (by omega),D13.b⟩
   ·exact⟨Ub.cl,_,_,_,D17.me,noFn (noV nn1),D17.b⟩
   ·exact⟨Uc.cl,_,_,_,D21.me,noFn (noV nn2),D21.b⟩
   ·exact⟨Ud.cl,_,_,_,D26.me,noFn (noV nn3),D26.b⟩
  |succ r ih =>
   have gS:=(zR.of D30 (eI (k:=6*r+4) (r:=r) Z F30 ih));rintro C' sp (⟨rfl,rfl⟩|⟨rfl,rfl⟩|⟨rfl,rfl⟩|⟨rfl,rfl⟩)
   ·exact⟨Ua.cl,_,_,_,D13.me,kJ.mono (iF (k:=0) (r:=r+1) Z F13) (by omega),D13.b⟩
   ·exact⟨Ub.cl,_,_,_,D17.me,kJ.mono (nE (k:=6*r+6) (r:=r) Z F17 gS) (by omega),D17.b⟩
   ·exact⟨Uc.cl,_,_,_,D21.me,kJ.mono (sA (k:=6*r+4) (r:=r) Z F21 ih) (by omega),D21.b⟩
   ·exact⟨Ud.cl,_,_,_,D26.me,kJ.mono (rR (k:=6*r+6) (r:=r) Z F26 gS) (by omega),D26.b⟩
 have ie:=fun r=>(zR.of D30 (eI (k:=6*r+4) (r:=r) Z F30 (t_depth r)));have t_parted:∀C sp,aGf (Cl5.mk Va Vb Vc Vd Ve) K C sp->zS l.prog w K mg base CX0 2 "parted" C sp:=by
  rintro C' sp (⟨rfl,rfl⟩|⟨rfl,rfl⟩)
  ·exact⟨Ub.cl,_,_,_,D18.me,(lY (k:=0) Z F18),D18.b⟩
  ·exact⟨Uc.cl,_,_,_,D22.me,(pI (k:=0) Z F22),D22.b⟩
 have DM:DfM K Vc "units_at" f10 d10 ["self","path"]:=⟨⟨w3,a10.i,F10.kp⟩,D10.b⟩;have t_units:∀r C sp,TU (Cl5.mk Va Vb Vc Vd Ve) K r C sp->zS l.prog w K mg base CX0 (6*r+4) "units_at" C sp:=by
  intro r
  induction r with
  |zero =>
   rintro C' sp (⟨rfl,rfl⟩|⟨rfl,rfl⟩|⟨rfl,rfl⟩|⟨rfl,rfl⟩)
   ·exact⟨Ua.cl,_,_,_,D14.me,kJ.mono (cY (k:=0) (r:=0) Z F14) (by omega),D14.b⟩
   ·exact⟨Ub.cl,_,_,_,D10.me,noFn (noU nn1),D10.b⟩
   ·exact⟨Uc.cl,_,_,_,DM.me,noFn (noU nn2),DM.b⟩
   ·exact⟨Ud.cl,_,_,_,D27.me,noFn (noU nn3),D27.b⟩
  |succ r ih =>
   rintro C' sp (⟨rfl,rfl⟩|⟨rfl,rfl⟩|⟨rfl,rfl⟩|⟨rfl,rfl⟩)
   ·exact⟨Ua.cl,_,_,_,D14.me,kJ.mono (cY (k:=0) (r:=r+1) Z F14) (by omega),D14.b⟩
   ·exact⟨Ub.cl,_,_,_,D10.me,kJ.mono (bQ (k:=6*r+4) (r:=r) Z ff1 F10 (fun C' sp h=>zS.mono (t_parted C' sp h) (by omega)) ih G9.o) (by omega),D10.b⟩
   ·exact⟨Uc.cl,_,_,_,DM.me,kJ.mono (bQ (k:=6*r+4) (r:=r) Z ff2 F10 (fun C' sp h=>zS.mono (t_parted C' sp h) (by omega)) ih G9.o) (by omega),DM.b⟩
   ·exact⟨Ud.cl,_,_,_,D27.me,kJ.mono (lP (k:=6*r+8) (r:=r) Z F27 G9.o (ig r)) (by omega),D27.b⟩
 have G29:=ib 12;have G30:=ie 12;have G31:=(zR.of D31 (pT (k:=76) (r:=12) Z F31 G15.o (t_units 12)));have G58:=(Cal.of D58 (oJ (k:=78) (r:=12) Z F58 G29.o G31.o G30.o));have r_kin:∀n,Cal l.prog w K mg base CX0 (2*n+2) "kind_in" (aFc (Cl5.mk Va Vb Vc Vd Ve) K n):=by
  intro n
  induction n with
  |zero=>exact Cal.of D57 (noFn (fun vs H Q E h=>by obtain⟨_,_,_,_,_,_,h,_⟩:=h;exact absurd h (by omega)))
  |succ n ih=>exact Cal.o (Cal.of D57 (aCw (k:=2*n+2) (r:=n) Z F57 ih G11.o G15.o G19.o G23.o))
 have G57:=r_kin 2;have G56:=(Cal.of D56 (sL (k:=80) (r:=12) Z F56 G57.o G55.o G28.o G58.o));have G47:=(Cal.of D47 (oV (k:=82) (r:=12) Z F47 G48.o G52.o G28.o G53.o G56.o G32.o));have r__law_size:∀n,Cal l.prog w K mg base CX0 (2*n+2) "_law_size" (tU K vSz n):=by
  intro n
  induction n with
  |zero=>exact Cal.of D63 (noFn (fun _ _ _ _ h=>h))
  |succ n ih=>exact Cal.o (Cal.of D63 (aCd (k:=2*n+2) (r:=n) Z F63 ih))
 have G63:=r__law_size 13;have r__law_depth:∀n,Cal l.prog w K mg base CX0 (2*n+2) "_law_depth" (tU K vDp n):=by
  intro n
  induction n with
  |zero=>exact Cal.of D66 (noFn (fun _ _ _ _ h=>h))
  |succ n ih=>exact Cal.o (Cal.of D66 (uA (k:=2*n+2) (r:=n) Z F66 ih))
 have G66:=r__law_depth 13;have r_lu:∀n,Cal l.prog w K mg base CX0 (2*n+4) "_law_units" (spLU K n):=by
  intro n
  induction n with
  |zero=>exact Cal.of D64 (noFn (fun _ _ _ _ h=>h))
  |succ n ih=>exact Cal.o (Cal.of D64 (uK (k:=2*n+4) (r:=n) Z F64 ih (r__law_size (n+1)) G65.o))
 have G64:=r_lu 13;have G68:=(Cal.of D68 (aAc (k:=30) (r:=12) Z F68 G63.o G64.o G66.o));have r_kt:∀n,Cal l.prog w K mg base CX0 (2*n+2) "_law_kind_text" (spKT K n):=by
  intro n
  induction n with
  |zero=>exact Cal.of D70 (noFn (fun vs H Q E h=>by obtain⟨_,_,_,_,_,h,_⟩:=h;exact absurd h (by omega)))
  |succ n ih=>exact Cal.o (Cal.of D70 (lU (k:=2*n+2) (r:=n) Z F70 ih))
 have G70:=r_kt 2;have G71:=(Cal.of D71 (aCm (k:=6) Z F71 G70.o));have G69:=(Cal.of D69 (rO (k:=32) (r:=12) Z F69 G62.o G61.o G67.o G68.o));have G40:=(Cal.of D40 (aBv (k:=2) Z F40 KS (fun C' sp h=>zS.mono (t_parted C' sp h) (by decide))));have r_may:∀n,Cal l.prog w K mg base CX0 (6*n+8) "may_have" (dC (Cl5.mk Va Vb Vc Vd Ve) K n aLs):=by
  intro n
  induction n with
  |zero=>exact(Cal.of D35 (mE (k:=6) (r:=0) Z F35 KS G8.o (Cal.of D36 (noFn (noM nn1))) (Cal.of D37 (noFn (noM nn2))) (Cal.of D38 (noFn (noM nn3)))))
  |succ n ih =>
   have g1:=(Cal.of D36 (sH (k:=6*n+8) (r:=n) Z F36 ih));have g2:=(Cal.of D37 (uF (k:=6*n+8) (r:=n) Z F37 ih));have g0:=(Cal.of D34 (gZ (k:=6*n+8) (r:=n) Z F34 G15.o ih));have g3:=(Cal.of D38 (uT (k:=6*n+10) (r:=n) Z F38 G39.o g0));exact Cal.o (Cal.of D35 (mE (k:=6*n+12) (r:=n+1) Z F35 KS G8.o g1.o g2.o g3.o))
 have G35:=r_may 9;have G34:=(Cal.of D34 (gZ (k:=62) (r:=9) Z F34 G15.o G35.o));have r_fu:∀n,Cal l.prog w K mg base CX0 (2*n+4) "flat_under" (spFU (Cl5.mk Va Vb Vc Vd Ve) K n):=by
  intro n
  induction n with
  |zero=>exact Cal.of D42 (noFn (fun vs H Q E h=>by obtain⟨_,_,_,_,_,_,_,_,h,_⟩:=h;exact absurd h (by omega)))
  |succ n ih=>exact Cal.o (Cal.of D42 (rS (k:=2*n+4) (r:=n) Z F42 KS G9.o G15.o (fun C' sp h=>zS.mono (t_parted C' sp h) (by omega)) ih))
 have G42:=r_fu 10;have r_vf:∀n,Cal l.prog w K mg base (CXE l.prog w) (2*n+8) "value_from" (spVF (Cl5.mk Va Vb Vc Vd Ve) aa K n):=by
  intro n
  induction n with
  |zero=>exact Cal.of D45 (noFn (fun vs H Q E h=>by obtain⟨_,_,_,_,_,_,_,_,_,_,h,_⟩:=h;exact absurd h (by omega)))
  |succ n ih=>exact Cal.o (Cal.of D45 (sK (k:=2*n+8) (r:=n) Z F45 KS G46.o G7.o G9.o G15.o (fun C' sp h=>zS.mono (t_parted C' sp h) (by omega)) G40.o ih))
 have G45:=r_vf 10;have r_lfl:∀n,Cal l.prog w K mg base CX0 (2*n+4) "_law_flat" (aFy K n):=by
  intro n
  induction n with
  |zero=>exact Cal.of D75 (noFn (fun vs H Q E h=>by obtain⟨_,_,_,_,_,_,_,_,h,_⟩:=h;exact absurd h (by omega)))
  |succ n ih=>exact Cal.o (Cal.of D75 (aAo (k:=2*n+4) (r:=n) Z F75 G65.o ih))
 have G75:=r_lfl 10;have r_lrd:∀n,Cal l.prog w K mg base CX0 (2*n+6) "_law_read" (spLR K n):=by
  intro n
  induction n with
  |zero=>exact Cal.of D77 (noFn (fun vs H Q E h=>by obtain⟨_,_,_,_,_,_,_,_,_,h,_⟩:=h;exact absurd h (by omega)))
  |succ n ih=>exact Cal.o (Cal.of D77 (aAb (k:=2*n+6) (r:=n) Z F77 G76.o G65.o ih))
 have G77:=r_lrd 10;have r_ldr:∀n,Cal l.prog w K mg base CX0 (2*n+6) "_law_drawn" (spDr K n):=by
  intro n
  induction n with
  |zero=>exact Cal.of D74 (noFn (fun vs H Q E h=>by obtain⟨_,_,_,_,_,_,_,h,_⟩:=h;exact absurd h (by omega)))
  |succ n ih=>exact Cal.o (Cal.of D74 (uM (k:=2*n+6) (r:=n) Z F74 G73.o G61.o ih))
 have G74:=r_ldr 10;have G41:=(Cal.of D41 (aMp (k:=64) (r:=9) Z F41 G34.o G42.o G15.o G1.o));have G43:=(Cal.of D43 (aEk (k:=28) (r:=9) Z F43 G44.o G45.o G15.o G1.o));have G78:=(Cal.of D78 (aEb (k:=26) (r:=9) Z F78 G77.o));have G81:=(Cal.of D81 (pP (k:=66) (r:=9) Z F81 G41.o));have G80:=(Cal.of D80 (uW (k:=30) (r:=9) Z F80 G78.o G43.o D79 (dB.mono G79 (by decide)) XN));have G83:=(Cal.of D83 (wP (k:=66) (r:=9) Z F83 G74.o G75.o G41.o G43.o G80.o G82.o));have G84:=(aQr (k:=84) (r:=12) Z ⟨by decide,by decide⟩ F84 G59.o G60.o G69.o G71.o G47.o G33.o G83.o G81.o G80.o);exact G84
theorem walk{l:PySem.W.OpenLaw}{YP:mf->kq->Prop}{d:DefRec}{K:Params->υ}(hn:l.most=some 63)(hdf:d.params.defaults=[])
  (hY:∀(w:mf) (h:kq),YP w h->(K w.params).In h)
  (F:∀(w:mf) (mg:Str->Option Value) (fa:Addr) (h:kq),(K w.params).In h->h.Ns ip mg->mg d.name=some (.ref fa) →
   ∃fd:oz,(∀(s:ξ) (u:Value),BindsTo s fd ⟨[u],[]⟩ [("_law_script",u)])/\∀base:kq,(K w.params).In base->base.Ns ip mg->kJ l.prog w (K w.params) mg base CX0 86 fa fd ["_law_script"] (aFo (K w.params))):
  PySem.W.WalkO q loose XP YP l.row.toRowW d [] (fun f vs=>PySem.call f vs) :=
 L2.aNg (n:=63) (k:=86) (x:="_law_script") (CX:=fun _=>CX0) (sp:=fun w=>aFo (K w.params)) hn (by decide) hdf ⟨rfl,by decide,by decide,rfl⟩ hY F (fun _ _ a ns hl _ hS=>⟨a,ns,rfl,hS,hl,fun _=>rfl⟩) fun _ _ _ _ _ z=>z
end K18
namespace PySem.W.Fast
def tw9331064244131803817:=0
def tw8652701608272684309:=0
def tw15053507324012616844:=0
def tw14082800935068608045:=0
def tw3507688225591541203:=0
def tw12006578808781762550:=0
def tw4184855797992453016:=0
def tw5932403337822654705:=0
def tw4830161040158463791:=0
def tw6347486778968262433:=0
def tw10836376386612067240:=0
def tw13072819948385261129:=0
def tw10627102529289030174:=0
def tw7217307098122417586:=0
def tw4226968567577133496:=0
def tw14017261393023277750:=0
def tw6085249201511170624:=0
def tw14540439342404100249:=0
def tw5246242786253624029:=0
def tw3236770810509280973:=0
def tw12262008227976845517:=0
def tw15627239730231867333:=0
def tw17985151294793196096:=0
def tw14109597989306436540:=0
def tw5297546024520273244:=0
def tw7897615526463104686:=0
def tw17057244946125907609:=0
def tw1212584987018402214:=0
def tw16903759820244730803:=0
def tw7326417607433136680:=0
def tw2869084630408621540:=0
def tw14223868924869230503:=0
def tw8832592305860053095:=0
def tw7575286881769329584:=0
def tw8843964231554441406:=0
def tw10768994905583149519:=0
def tw5035750066824689684:=0
def tw11511639111585220503:=0
def tw7776060343776308162:=0
def tw16198523420318896776:=0
def tw3031399114345651122:=0
def tw9328074334381323092:=0
def tw15221074840116563923:=0
def tw17196462241429088784:=0
def tw14445700346586224813:=0
def tw14901966741909651443:=0
def tw9974980404312927656:=0
def tw13129796062118119860:=0
def tw4801355080504724127:=0
def tw8541446365134284521:=0
def tw16888658704568767630:=0
def tw6111983295110667819:=0
def tw14368801207893249857:=0
def tw1951613595499822664:=0
def tw6441948456243811526:=0
def tw13343910844958579966:=0
def tw4453079479947482491:=0
def tw10402504825618557055:=0
def tw13581559274059910119:=0
def tw15299781824307654738:=0
def tw2164996584060113648:=0
def tw8894614067640353861:=0
def tw18331368712562063200:=0
def tw9598298739618913913:=0
def tw4789084812717192753:=0
def tw5487564823864638324:=0
def tw2990212736934923832:=0
def tw4109973868697058482:=0
def tw12487299921740852194:=0
def tw3611390108822323209:=0
def tw6220018184905524347:=0
def tw1007686224789763450:=0
def tw14905188070389646767:=0
def tw11715398808821403838:=0
def tw4049109072005210292:=0
def tw13574517034017381218:=0
def tw13071915224206253754:=0
def tw219413074427172496:=0
def tw14355100681012217001:=0
def tw11871762590767056201:=0
def tw3360944055197174818:=0
def tw9825238650719550110:=0
def tw11216667963441177298:=0
def tw13546864385142623945:=0
def tw4544705493458890853:=0
def tw17046223548032346:=0
def tw9794485894913736970:=0
def tw3863074027003113573:=0
def tw14540740824399329422:=0
def tw15898452776997673322:=0
def tw5898217157245320907:=0
def tw16461578775595006996:=0
def tw13353366585506848245:=0
def tw3713490033986378936:=0
def tw14555944420219342309:=0
def tw4691740404563830769:=0
def tw9177165831026726489:=0
def tw16103248991494421505:=0
def tw5918655299301048776:=0
def tw15930151009088337389:=0
def tw16366098257191961504:=0
def tw10543749771204679000:=0
def tw3070517497520615790:=0
def tw668370682274379262:=0
def tw5450577605902817654:=0
def tw14008870398508350252:=0
def tw4739531920849002959:=0
def tw14823580322485780747:=0
def tw1786678744275319946:=0
def tw1831666560522870530:=0
def tw13126136680683144369:=0
def tw17927265512520611798:=0
def tw14840107300480527161:=0
def tw7325558169225444458:=0
def tw6446007357036133778:=0
def tw13526017530423190438:=0
def tw16190238846044291302:=0
def tw7588790398941517066:=0
def tw15497816987640704235:=0
def tw8872551021613488232:=0
def tw16316850852329073747:=0
def tw12982103138804126281:=0
def tw12982886720839838615:=0
def tw4326972535062906008:=0
def tw18145985244613496122:=0
def tw14309142084227481368:=0
def tw16054497757987447642:=0
def tw13598608851313647210:=0
def tw2476511922330942513:=0
def tw16752103123771438326:=0
def tw2065524247714863147:=0
def tw16376908529011874466:=0
def tw16908355068292115533:=0
def tw6533349606033171643:=0
def tw633099405346180288:=0
def tw8427197362515125156:=0
def tw6671599869184336202:=0
def tw4253574977783049556:=0
def tw15845557628319776976:=0
def tw1117938762059731516:=0
def tw18174891436436994828:=0
def tw7227654893096951285:=0
def tw2408730337591762835:=0
def tw10307842343109163215:=0
def tw11539293752788900625:=0
def tw16801523637515097555:=0
def tw4714632305663272118:=0
def tw505158069010624004:=0
def tw7740325667971768129:=0
def tw3549413460782369453:=0
def tw14068699360527855205:=0
def tw2131565048362878678:=0
def tw18312000335992116630:=0
def tw10033094677087379320:=0
def tw3286995843180326639:=0
def tw17891957774042024766:=0
def tw11639209333755526276:=0
def tw4365959613634935396:=0
def tw782809382805577433:=0
def tw10300294548718038705:=0
def tw11931363055200389683:=0
def tw8168766464321520101:=0
def tw16926963015007850113:=0
def tw16253766856760718541:=0
def tw4510486569978308879:=0
def tw2415992347228305243:=0
def tw11290611977088443694:=0
def tw15399396092610599402:=0
def tw11316421875988455999:=0
def tw7977241286793343320:=0
def tw10132706602975127971:=0
def tw4318620361038439035:=0
def tw12037444309611584605:=0
def tw15570559538307700273:=0
def tw35577105469340471:=0
def tw14027056042057357033:=0
def tw11481050926664039294:=0
def tw12206133760525399198:=0
def tw10512481505140403275:=0
def tw9815776193329803218:=0
def tw14061938868291321882:=0
def tw4197536875614901334:=0
def tw17102617692299035069:=0
def tw15364237397461249908:=0
def tw13543997956799739007:=0
def tw12781321295470749197:=0
def tw8135763999112523095:=0
def tw960813891454369704:=0
def tw15891235494085422931:=0
def tw9495258174375104607:=0
def tw12075015471279279084:=0
def tw10775666862086556587:=0
def tw16224499039333641873:=0
def tw1325524362116209480:=0
def tw3381908353552352824:=0
def tw9084118959500477439:=0
def tw234585590927276255:=0
def tw650451813106172973:=0
def tw12952305552796252954:=0
def tw5609594200375210830:=0
def tw6101729149117349039:=0
def tw6799941428714813285:=0
def tw12318247284615515807:=0
def tw4257785929132178220:=0
def tw7169592502599885680:=0
def tw2185921585118413549:=0
def tw3085203573449462472:=0
def tw2970580927509086068:=0
def tw4147524272525661883:=0
def tw8888063881854832140:=0
def tw5864312257820316450:=0
def tw73007578496493697:=0
def tw14145278918880688580:=0
def tw15766132048602289144:=0
def tw1656110625606769450:=0
def tw13805493927772710685:=0
def tw15229149800912212175:=0
def tw95733865899042616:=0
def tw15708001503757409831:=0
def tw9796767055333084127:=0
def tw9671793030550247425:=0
def tw3371264154781644999:=0
def tw6204659657672309817:=0
def tw12454651228072293140:=0
def tw1488213628500266308:=0
def tw8007808573173174626:=0
def tw12911067189968243887:=0
def tw6548959942941394210:=0
def tw2421452271097041506:=0
def tw1854661064449355799:=0
def tw6326346059298529063:=0
def tw10106615684249976555:=0
def tw5627633572626400780:=0
def tw17678961048757952601:=0
def tw8461289930418376667:=0
def tw11762120626557025919:=0
def tw17462990318337147981:=0
def tw7978259968285739937:=0
def tw7599041441497201611:=0
def tw9915953860035661566:=0
def tw15945745442991585537:=0
def tw17939728518697267381:=0
def tw17215721529231621528:=0
def tw741455376738622239:=0
def tw12598941307907254082:=0
def tw6153620295732567890:=0
def tw9664814220799905073:=0
def tw1646726384352513557:=0
def tw8284770245618352923:=0
def tw3609823905043561332:=0
def tw1626191495740034922:=0
def tw1803611205931885760:=0
def tw9192242013770265963:=0
def tw12192502188619994110:=0
def tw10166055313905646618:=0
def tw14694588490164146254:=0
def tw7566032171743691131:=0
def tw3365473931038519196:=0
def tw18247936418929983155:=0
def tw3446229864631184147:=0
def tw15931900929968466607:=0
def tw5735885618565740612:=0
def tw9457374395685287427:=0
def tw10494220285583391755:=0
def tw12794025130435001330:=0
def tw9819995095011111702:=0
def tw8457244114711265834:=0
def tw7001851686435613254:=0
def tw10696536776905830127:=0
def tw10131147030929923620:=0
def tw11566466953142520232:=0
def tw6252758869376684376:=0
def tw4687462925407915568:=0
def tw15537353736441279099:=0
def tw6672607689579704307:=0
def tw18237874787559478777:=0
def tw475522391921029744:=0
def tw5846031704338040406:=0
def tw15622982840255313141:=0
def tw1858695544399434902:=0
def tw16864624597904108609:=0
def tw7484449261552878766:=0
def tw7206560755261246314:=0
def tw14447852844799073753:=0
def tw7530763745457243359:=0
def tw11699194608548233957:=0
def tw5499788636400107383:=0
def tw15760121402878709036:=0
def tw14062693794780873807:=0
def tw12232749637670029786:=0
def tw8910323146336695817:=0
def tw2247422563006557661:=0
def tw6052656190709831547:=0
def tw9658402795038918643:=0
def tw4029278023731951367:=0
def tw5000234873789134101:=0
def tw1629206230866727914:=0
def tw8969502228405942731:=0
def tw11163085661396380247:=0
def tw16846117031434962061:=0
def tw17931967026424553482:=0
def tw4319726736887975363:=0
def tw2031651562470272876:=0
def tw16029037713436939894:=0
def tw11082216418118407364:=0
def tw3775140451597340101:=0
def tw15204571276831047440:=0
def tw7765958265637723119:=0
def tw14093284184188538408:=0
def tw2629337922975916914:=0
def tw16367794532662116386:=0
def tw1385600970219114175:=0
def tw6750940869447573153:=0
def tw2928819472624307038:=0
def tw13143681717564291519:=0
def tw7422390025718375694:=0
def tw13495267584591413016:=0
def tw6163137690064364381:=0
def tw14631252000392029702:=0
def tw7605215452437482380:=0
def tw16518166908534553602:=0
def tw15258280383813850837:=0
def tw3910707118677949009:=0
def tw7235244458582030823:=0
def tw15301689390454283954:=0
def tw10861986661632584801:=0
def tw3635089307030920052:=0
def tw13102976705941198653:=0
def tw1712569285069703106:=0
def tw1046765378823803967:=0
def tw15440768435991383066:=0
def tw16643855909906859600:=0
def tw5215256328563056884:=0
def tw10902504759916941682:=0
def tw16928376188056509157:=0
def tw7881013038424365472:=0
def tw6882500467207632352:=0
def tw10428977522918974953:=0
def tw1138194175276079033:=0
def tw11962411101379665179:=0
def tw1834555567368244363:=0
def tw7985023445510541341:=0
def tw6106243736012238489:=0
def tw11082851530120390208:=0
def tw11713065377360482535:=0
def tw7552122709679105031:=0
def tw12882749409770918168:=0
def tw15579788108960542415:=0
def tw10150498740231779115:=0
def tw82056396725433240:=0
def tw4288221162073632361:=0
def tw6230232112350654739:=0
def tw1676370202173274140:=0
def tw15891814082901974624:=0
def tw5319022159971709686:=0
def tw6041923171625054397:=0
def tw4301893324169848131:=0
def tw5284172708753641761:=0
def tw17338328484111104160:=0
def tw6645233354598163977:=0
def tw17115656400642238699:=0
def tw8238276443824589940:=0
def tw7884309323488384493:=0
def tw6591939718330409772:=0
def tw15796384471570801374:=0
def tw4829793938712388919:=0
def tw8581287260526484322:=0
def tw17823799037807315155:=0
def tw7688408492093787328:=0
def tw12337327714036821761:=0
def tw3867964620116857754:=0
def tw13015599800659040662:=0
def tw6759652850738774767:=0
def tw14459085115710118712:=0
def tw1257272185755988870:=0
def tw15519608820686370847:=0
def tw5000474209949921723:=0
def tw12698150079089207808:=0
def tw17183000979767732791:=0
def tw12892436627487093062:=0
def tw8730143963044452062:=0
def tw9227149995662350332:=0
def tw10744685723321561376:=0
def tw13586708644788078795:=0
def tw7450421020300331267:=0
def tw16454197266888465689:=0
def tw3843101726398827025:=0
def tw12668546728280753457:=0
def tw17746725712292213748:=0
def tw16086033466990320280:=0
def tw14242078846485837860:=0
def tw14217324169525986276:=0
def tw13202625349283045724:=0
def tw5936673286074991840:=0
def tw6515296191612757446:=0
def tw14859288376253163675:=0
def tw16905801326737841975:=0
def tw17802714070892126594:=0
def tw4855703907446656240:=0
def tw7299298902083693918:=0
def tw1715152489121878331:=0
def tw1072196191544977989:=0
def tw11589220317360502666:=0
def tw9772997073157153399:=0
def tw14563367997348901708:=0
def tw5393303455605779453:=0
def tw11564510222530442650:=0
def tw5861364641523153186:=0
def tw4462063601081531775:=0
def tw16930982492833876385:=0
def tw4527268946672605642:=0
def tw5055517354915567296:=0
def tw1824625750382023992:=0
def tw2588666690177980550:=0
def tw14096064392373363358:=0
def tw11734925617488403045:=0
def tw604204170283484981:=0
def tw13143310959843594658:=0
def tw14595421569597520407:=0
def tw18403632373085921278:=0
def tw10092500373584017178:=0
def tw12934898573032961166:=0
def tw11953245698353157807:=0
def tw10275556397347675800:=0
def tw2081148566158890386:=0
def tw2095645091763463349:=0
def tw9436327145238411821:=0
def tw8913269294678915239:=0
def tw12604185885893941563:=0
def tw244383556875870558:=0
def tw12821259891752006441:=0
def tw17215801852174067999:=0
def tw6654482225518881560:=0
def tw12608082119988898103:=0
def tw4656442067947612056:=0
def tw9177662052870698329:=0
def tw12107244211860472944:=0
def tw9128753610119041949:=0
def tw28310102052410338:=0
def tw18156457039799747564:=0
def tw14714789716984103272:=0
def tw9457679886320217793:=0
def tw18393121717443968590:=0
def tw10001989238639980977:=0
def tw2532891142590882021:=0
def tw2678607875129910094:=0
def tw260399546976445521:=0
def tw15879938314414409741:=0
def tw5172459356655466373:=0
def tw9473328375986999670:=0
def tw2561845360044337808:=0
def tw7733387755667925782:=0
def tw15312067955748805706:=0
def tw12206905644859564671:=0
def tw11591585128879513425:=0
def tw8748086097194656457:=0
def tw1187641340352189499:=0
def tw1529075437527543096:=0
def tw4696206015681759217:=0
def tw7901950400426292728:=0
def tw2642092795546623225:=0
def tw15415221185224963518:=0
def tw8490171105866833016:=0
def tw4881518429721716438:=0
def tw6533776953927200186:=0
def tw3702461394416886374:=0
def tw13934101242064276891:=0
def tw15042637210536916822:=0
def tw195487291285868441:=0
def tw217998190161031769:=0
def tw18365456563397718504:=0
def tw2471676222871682476:=0
def tw787110924763657539:=0
def tw17829123128301248120:=0
def tw2320637293209576449:=0
def tw8279022651046339202:=0
def tw3911920131613139534:=0
def tw17444452907343082605:=0
def tw11417368575302129249:=0
def tw12868686207789885366:=0
def tw5370943976065915758:=0
def tw9625553397787033712:=0
def tw915418461670834602:=0
def tw10916092868821051254:=0
def tw2353921619854306102:=0
def tw9239053644718026095:=0
def tw10817778217462905409:=0
def tw6345723560644144568:=0
def tw2902838882306723634:=0
def tw2497817402079466922:=0
def tw9062849360007812551:=0
def tw6988151502833736040:=0
def tw2004349851914771189:=0
def tw15897576472781598393:=0
def tw5775173042996711798:=0
def tw2748652871260095663:=0
def tw5571578338604400331:=0
def tw16324943841537020074:=0
def tw12393306149548348677:=0
def tw1823489883811627509:=0
def tw13020186222066308309:=0
def tw13953723017079066136:=0
def tw14459630654556497964:=0
def tw5889920675362966821:=0
def tw6866745669382444182:=0
def tw18050694915841154109:=0
def tw13911129344351643821:=0
def tw9753881241957811535:=0
def tw5607376859974657437:=0
def tw15477112330243457290:=0
def tw9386763837102235104:=0
def tw15113766437651195882:=0
def tw5825481304476733970:=0
def tw5482991350422859052:=0
def tw17347476857464527813:=0
def tw11190669321303693723:=0
def tw16770904484204028097:=0
def tw614848295784776297:=0
def tw17891995806197956464:=0
def tw18030194523386978350:=0
def tw7102849223630753392:=0
def tw15224192046187012981:=0
def tw7388933841432070895:=0
def tw7226938525997132536:=0
def tw14796094192946594629:=0
def tw8921867901419905594:=0
def tw16312309513490156431:=0
def tw9223285537162584588:=0
def tw14337574406328456005:=0
def tw2157272373721669347:=0
def tw8360629102325716061:=0
def tw14662796056493402535:=0
def tw16571085672711841203:=0
def tw1760468001641913073:=0
def tw4775029029544026306:=0
def tw1763461265588828192:=0
def tw765357411691541847:=0
def tw11617087585662737123:=0
def tw14711369355890784646:=0
def tw10227628039950972288:=0
def tw14137638136869439382:=0
def tw10061090529181070538:=0
def tw11219796073662738357:=0
def tw12557778619047423162:=0
def tw8062024984262729958:=0
def tw8324951386827891376:=0
def tw2412688052725328912:=0
def tw7871688625545010327:=0
def tw13676962091208371873:=0
def tw14650272110050264574:=0
def tw8265604128317938998:=0
def tw2357625814497937204:=0
def tw16883062887905546319:=0
def tw12610330637261794572:=0
def tw18003803572296818580:=0
def tw8125199193607434609:=0
def tw6418903202904785208:=0
def tw6331318260017612478:=0
def tw1174007964873060663:=0
def tw5056516495240497569:=0
def tw5426017706796007760:=0
def tw11254948549507364413:=0
def tw3923398864056161607:=0
def tw17304348549925773211:=0
def tw5760709127207711494:=0
def tw3606322866849968371:=0
def tw11500511101077884756:=0
def tw2734018598875632560:=0
def tw14801418860715935381:=0
def tw11771455198521828308:=0
def tw499946275164662784:=0
def tw9006554889197979828:=0
def tw12538615811713482841:=0
def tw7331800511615421731:=0
def tw6799372431239765839:=0
def tw10737994283322198396:=0
def tw8694524733306389549:=0
def tw5956752637183683771:=0
def tw4035304569967247479:=0
def tw18204225978484241015:=0
end PySem.W.Fast
open PySem PySem.W PyProof.Rows
set_option maxRecDepth 100000 in
set_option maxHeartbeats 0 in
theorem PySem.Challenge.cw_roomslaid_k18_flat_there_and_back_holds : PySem.Challenge.rw_roomslaid_k18_flat_there_and_back.Holds := by
 w_on;o_law;k_head; (case hw=>w_witness2)
 k_fill
 refine K18.walk (l := PySem.Challenge.rw_roomslaid_k18_flat_there_and_back) rfl rfl (fun w h Y => PySem.W.kIn_of Y) ?F
 case F =>
  intro w mg fa h KX G hmg
  refine' K18.all_mk KX G hmg ?_ ?_ ?_ ?_ ?_ ?_ ?_ ?_ ?_ ?_ ?_ ?_ ?_ ?_ ?_ ?_ ?_ ?_ ?_ ?_ ?_ ?_ ?_ ?_ ?_ ?_ ?_ ?_ ?_ ?_ ?_ ?_ ?_ ?_ ?_ ?_ ?_ ?_ ?_ ?_ ?_ ?_ ?_ ?_ ?_ ?_ ?_ ?_ ?_ ?_ ?_ ?_ ?_ ?_ ?_ ?_ ?_ ?_ ?_ ?_ ?_ ?_ ?_ ?_ ?_ ?_ ?_ ?_ ?_ ?_ ?_ ?_ ?_ ?_ ?_ ?_ ?_ ?_ ?_ ?_ ?_ ?_ ?_ ?_ ?_ ?_ ?_ ?_ ?_ ?_ ?_ ?_ ?_ ?_ ?_ ?_ ?_ ?_ ?_ ?_ ?_ ?_ ?_ ?_ ?_ ?_ ?_ ?_ ?_ ?_ ?_ ?_ ?_ ?_ ?_ ?_ ?_ ?_ ?_ ?_ ?_ ?_ ?_ ?_ ?_ ?_ ?_ ?_ ?_ ?_ ?_ ?_ ?_ ?_ ?_ ?_ ?_ ?_ ?_ ?_ ?_ ?_ ?_ ?_ ?_ ?_ ?_ ?_ ?_ ?_ ?_ ?_ ?_ ?_ ?_ ?_ ?_ ?_ ?_ ?_ ?_ ?_ ?_ ?_ ?_ ?_ ?_ ?_ ?_ ?_ ?_ ?_ ?_ ?_ ?_ ?_
  all_goals (first|refine' K18.FG.mk ?_ ⟨_,L2.aLg ?_ ?_ ?_⟩|refine' K18.FM.mk ?_ ?_ ⟨_,L2.aLg ?_ ?_ ?_⟩|refine' K18.CK.mk ?_ ⟨?_,?_,?_,?_⟩ ?_ ?_ ?_|skip)
  all_goals (repeat' (first|exact K18.na0|refine' K18.na1 ?_ ?_))
  all_goals (first|k_is|exact K18.na0|exact Eq.refl true|exact Eq.refl (some true)|exact Eq.refl (some false)|kernel_rfl|ac_rfl|skip)
